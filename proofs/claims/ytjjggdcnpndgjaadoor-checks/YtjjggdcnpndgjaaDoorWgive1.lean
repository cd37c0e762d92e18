import Derived.Test.YtjjggdcnpndgjaaDoorGram2
import Derived.Test.YtjjggdcnpndgjaaDoorWhas
import Derived.Deep.QuietTactic
import Derived.BigQuiet
import Derived.Test.YtjjggdcnpndgjaaDoorLast
namespace Go.Proofs.YtjjggdcnpndgjaaDoor
open Go.RowKit

theorem Tryd.info46 : (Tryd.prog.info? 46).map (fun i => (i.zero, i.size, i.bytes)) = some (some (.agg #[.string ByteArray.empty, .int .i64 0, .int .i64 0]), 3, 32) := by kernel_rfl
theorem Tryd.info48 : (Tryd.prog.info? 48).map (fun i => (i.zero, i.size, i.bytes)) = some (some (.agg #[.string ByteArray.empty, .string ByteArray.empty, .int .i64 0]), 3, 40) := by kernel_rfl
theorem Tryd.info50 : (Tryd.prog.info? 50).map (fun i => (i.zero, i.size, i.bytes)) = some (some (.agg #[.string ByteArray.empty, .slice none 0 0]), 2, 40) := by kernel_rfl

theorem ret_int {a b : Int} (h : a = b) : Ending.returned (.int .i64 b) = .returned (.int .i64 a) := by rw [h]

set_option linter.unusedSimpArgs false in
set_option maxHeartbeats 1000000 in
set_option maxRecDepth 100000 in
theorem give_tok (l : List ByteArray) (g n cap : Nat) (G : Gr) (w : World) (B gb : Nat) (vT vS vN vR : Value) (pv : List Value) (hV : GrV w B gb G vT vS vN vR pv)
    (hn1 : G.toks.length ≤ 100000) (hn2 : G.names.length ≤ 100000) (hn3 : G.rules.length ≤ 100000) (hB : B ≤ w.heap.size)
    (hl : l.length = n) (hn : n = 4) (hc : StrsAt w g 0 l) (ht : ((nth l 0).toList == [116, 111, 107, 101, 110]) = true)
    (hs2 : (nth l 2).size ≤ 2) (hs3 : (nth l 3).size ≤ 2) (hd2 : allIn (nth l 2).data.toList 48 57 = true) (hd3 : allIn (nth l 3).data.toList 48 57 = true) (hno : hasTok G.toks (nth l 1) = false) (hgne : g ≠ gb) (hgT : vT.ownBlock ≠ some g) :
    Calls Tryd.prog 11 #[.pointer (some ⟨gb, 0, none⟩), .slice (some ⟨g, 0, none⟩) n cap] w fun e w' =>
      e = .returned (.int .i64 (totI { G with toks := G.toks ++ [(nth l 1, valD (nth l 2).data.toList, valD (nth l 3).data.toList)] } false)) ∧
        GrAt w' B gb { G with toks := G.toks ++ [(nth l 1, valD (nth l 2).data.toList, valD (nth l 3).data.toList)] } ∧ Below B w w' := by
  obtain ⟨aN, kN, rfl⟩ := own_slice hV.names
  obtain ⟨aR, kR, rfl⟩ := own_slice hV.rules
  obtain ⟨i0, hi, hz0, hz1, hz2⟩ := info_parts Tryd.info46
  have c0 : w.cell? ⟨g, 0, none⟩ = some (.string (nth l 0)) := by simpa using hc.2 0 (by omega)
  have c1 : w.cell? ⟨g, 1, none⟩ = some (.string (nth l 1)) := by simpa using hc.2 1 (by omega)
  have c2 : w.cell? ⟨g, 2, none⟩ = some (.string (nth l 2)) := by simpa using hc.2 2 (by omega)
  have c3 : w.cell? ⟨g, 3, none⟩ = some (.string (nth l 3)) := by simpa using hc.2 3 (by omega)
  have hG : GrAt w B gb G := ⟨_, _, _, _, _, hV⟩
  have d0 := hV.cells.1
  have hc0 := hc.1
  subst hn
  clear hc hl
  go_enter Tryd.func11, Tryd.ntmps11
  go_wp2_with (go_at_call 17; refine (hasToken_any _ G _ B gb ?_ ?_).mono ?_; assumption; omega; rintro e w' ⟨rfl, rfl⟩; rw [hno])
  have hT := hV.toks
  have hge : g ≠ gb := hgne
  have fT : some g ≠ vT.ownBlock := fun e => hgT e.symm
  have fB : some gb ≠ vT.ownBlock := fun e => hV.off.1 gb e.symm rfl
  have hfr0 : w.frozen? ⟨gb, 0, none⟩ = false := block_free hV.blk
  have hfo : ∀ o, (w.alloc o).frozen? ⟨gb, 0, none⟩ = false := fun o => (((Below.refl w.heap.size w).alloc (Nat.le_refl _) o).frozen (by exact lt_of_block hV.blk)).trans hfr0
  have hgl := hc0
  have hbl := lt_of_block hV.blk
  refine wp_region_last (fun w' => w'.cell? ⟨g, 1, none⟩ = some (.string (nth l 1)) ∧ w'.cell? ⟨g, 2, none⟩ = some (.string (nth l 2)) ∧ w'.cell? ⟨g, 3, none⟩ = some (.string (nth l 3)) ∧ w'.cell? ⟨gb, 0, none⟩ = some vT) (by kernel_rfl) (by kernel_rfl) ?_ (fun hHeld => ?_)
  · go_keep
  simp only [cutLast, idle, lastOf]
  refine wpAnyH_take (i := 0) (v := ?vv1) rfl (by kernel_rfl) (by kernel_rfl) (by kernel_rfl) (fun _ _ _ h => h) (Or.inl ⟨by rfl, ?hy1⟩) hHeld ?_
  case hy1 => (intro w hSw; (try dsimp only at hSw); first | (go_simp; done) | (go_simp; with_reducible rfl))
  try simp only [List.getElem_toArray, List.getElem_cons_succ, List.getElem_cons_zero, Act.put, List.setIfInBounds_toArray, List.set_cons_zero, List.set_cons_succ]
  refine wpAnyH_take (i := 1) (v := ?vv2) rfl (by kernel_rfl) (by kernel_rfl) (by kernel_rfl) (fun _ _ _ h => h) (Or.inl ⟨by rfl, ?hy2⟩) hHeld ?_
  case hy2 => (intro w hSw; (try dsimp only at hSw); first | (go_simp; done) | (go_simp; with_reducible rfl))
  try simp only [List.getElem_toArray, List.getElem_cons_succ, List.getElem_cons_zero, Act.put, List.setIfInBounds_toArray, List.set_cons_zero, List.set_cons_succ]
  refine wpAnyH_take (i := 2) (v := ?vv3) rfl (by kernel_rfl) (by kernel_rfl) (by kernel_rfl) (fun _ _ _ h => h) (Or.inl ⟨by rfl, ?hy3⟩) hHeld ?_
  case hy3 => (intro w hSw; (try dsimp only at hSw); first | (go_simp; done) | (go_simp; with_reducible rfl))
  try simp only [List.getElem_toArray, List.getElem_cons_succ, List.getElem_cons_zero, Act.put, List.setIfInBounds_toArray, List.set_cons_zero, List.set_cons_succ]
  refine wpAnyH_take (i := 3) (v := ?vv4) rfl (by kernel_rfl) (by kernel_rfl) (by kernel_rfl) (fun _ _ _ h => h) (Or.inl ⟨by rfl, ?hy4⟩) hHeld ?_
  case hy4 => (intro w hSw; (try dsimp only at hSw); first | (go_simp; done) | (go_simp; with_reducible rfl))
  try simp only [List.getElem_toArray, List.getElem_cons_succ, List.getElem_cons_zero, Act.put, List.setIfInBounds_toArray, List.set_cons_zero, List.set_cons_succ]
  refine wpAnyH_take (i := 4) (v := ?vv5) rfl (by kernel_rfl) (by kernel_rfl) (by kernel_rfl) (fun _ _ _ h => h) (Or.inl ⟨by rfl, ?hy5⟩) hHeld ?_
  case hy5 => (intro w hSw; (try dsimp only at hSw); first | (go_simp; done) | (go_simp; with_reducible rfl))
  try simp only [List.getElem_toArray, List.getElem_cons_succ, List.getElem_cons_zero, Act.put, List.setIfInBounds_toArray, List.set_cons_zero, List.set_cons_succ]
  refine wpAnyH_take (i := 5) (v := ?vv6) rfl (by kernel_rfl) (by kernel_rfl) (by kernel_rfl) (fun _ _ _ h => h) (Or.inl ⟨by rfl, ?hy6⟩) hHeld ?_
  case hy6 => (intro w hSw; (try dsimp only at hSw); first | (go_simp; done) | (go_simp; with_reducible rfl))
  try simp only [List.getElem_toArray, List.getElem_cons_succ, List.getElem_cons_zero, Act.put, List.setIfInBounds_toArray, List.set_cons_zero, List.set_cons_succ]
  refine wpAnyH_take (i := 6) (v := ?vv7) rfl (by kernel_rfl) (by kernel_rfl) (by kernel_rfl) (fun _ _ _ h => h) (Or.inl ⟨by rfl, ?hy7⟩) hHeld ?_
  case hy7 => (intro w hSw; (try dsimp only at hSw); first | (go_simp; done) | (go_simp; with_reducible rfl))
  try simp only [List.getElem_toArray, List.getElem_cons_succ, List.getElem_cons_zero, Act.put, List.setIfInBounds_toArray, List.set_cons_zero, List.set_cons_succ]
  refine wpAnyH_take (i := 7) (v := ?vv8) rfl (by kernel_rfl) (by kernel_rfl) (by kernel_rfl) (fun _ _ _ h => h) (Or.inl ⟨by rfl, ?hy8⟩) hHeld ?_
  case hy8 => (intro w hSw; (try dsimp only at hSw); first | (go_simp; done) | (go_simp; with_reducible rfl))
  try simp only [List.getElem_toArray, List.getElem_cons_succ, List.getElem_cons_zero, Act.put, List.setIfInBounds_toArray, List.set_cons_zero, List.set_cons_succ]
  refine wpAnyH_take (i := 8) (v := ?vv9) rfl (by kernel_rfl) (by kernel_rfl) (by kernel_rfl) (fun _ _ _ h => h) (Or.inl ⟨by rfl, ?hy9⟩) hHeld ?_
  case hy9 => (intro w hSw; (try dsimp only at hSw); first | (go_simp; done) | (go_simp; with_reducible rfl))
  try simp only [List.getElem_toArray, List.getElem_cons_succ, List.getElem_cons_zero, Act.put, List.setIfInBounds_toArray, List.set_cons_zero, List.set_cons_succ]
  refine wpAnyH_take (i := 9) (v := ?vv10) rfl (by kernel_rfl) (by kernel_rfl) (by kernel_rfl) (fun _ _ _ h => h) (Or.inl ⟨by rfl, ?hy10⟩) hHeld ?_
  case hy10 => (intro w hSw; (try dsimp only at hSw); first | (go_simp; done) | (go_simp; with_reducible rfl))
  try simp only [List.getElem_toArray, List.getElem_cons_succ, List.getElem_cons_zero, Act.put, List.setIfInBounds_toArray, List.set_cons_zero, List.set_cons_succ]
  refine wpAnyH_take (i := 10) (v := ?vv11) rfl (by kernel_rfl) (by kernel_rfl) (by kernel_rfl) (fun _ _ _ h => h) (Or.inl ⟨by rfl, ?hy11⟩) hHeld ?_
  case hy11 => (intro w hSw; (try dsimp only at hSw); first | (go_simp; done) | (go_simp; with_reducible rfl))
  try simp only [List.getElem_toArray, List.getElem_cons_succ, List.getElem_cons_zero, Act.put, List.setIfInBounds_toArray, List.set_cons_zero, List.set_cons_succ]
  refine wpAnyH_take (i := 12) (v := ?vv12) rfl (by kernel_rfl) (by kernel_rfl) (by kernel_rfl) (fun _ _ _ h => h) (Or.inl ⟨by rfl, ?hy12⟩) hHeld ?_
  case hy12 => (intro w hSw; (try dsimp only at hSw); first | (go_simp; done) | (go_simp; with_reducible rfl))
  try simp only [List.getElem_toArray, List.getElem_cons_succ, List.getElem_cons_zero, Act.put, List.setIfInBounds_toArray, List.set_cons_zero, List.set_cons_succ]
  refine wpAnyH_take (i := 13) (v := ?vv13) rfl (by kernel_rfl) (by kernel_rfl) (by kernel_rfl) (fun _ _ _ h => h) (Or.inl ⟨by rfl, ?hy13⟩) hHeld ?_
  case hy13 => (intro w hSw; (try dsimp only at hSw); first | (go_simp; done) | (go_simp; with_reducible rfl))
  try simp only [List.getElem_toArray, List.getElem_cons_succ, List.getElem_cons_zero, Act.put, List.setIfInBounds_toArray, List.set_cons_zero, List.set_cons_succ]
  refine wpAnyH_take (i := 14) (v := ?vv14) rfl (by kernel_rfl) (by kernel_rfl) (by kernel_rfl) (fun _ _ _ h => h) (Or.inl ⟨by rfl, ?hy14⟩) hHeld ?_
  case hy14 => (intro w hSw; (try dsimp only at hSw); first | (go_simp; done) | (go_simp; with_reducible rfl))
  try simp only [List.getElem_toArray, List.getElem_cons_succ, List.getElem_cons_zero, Act.put, List.setIfInBounds_toArray, List.set_cons_zero, List.set_cons_succ]
  refine wpAnyH_ready (rs := [11]) (by kernel_rfl) (by simp) ?_
  refine AllReadyH.cons rfl (fun K hK => ?_) AllReadyH.nil
  try simp only [List.getElem_toArray, List.getElem_cons_succ, List.getElem_cons_zero]
  go_simp; refine (cost_any _ _ hs2 hd2).mono ?_; rintro e w' ⟨rfl, rfl⟩; try dsimp only
  refine hK.out _ _ ?_ (fun hHeld => ?_)
  · exact hHeld
  clear hK K
  try simp only [List.getElem_toArray, List.getElem_cons_succ, List.getElem_cons_zero, Act.put, List.setIfInBounds_toArray, List.set_cons_zero, List.set_cons_succ]
  refine wpAnyH_ready (rs := [15]) (by kernel_rfl) (by simp) ?_
  refine AllReadyH.cons rfl (fun K hK => ?_) AllReadyH.nil
  try simp only [List.getElem_toArray, List.getElem_cons_succ, List.getElem_cons_zero]
  go_simp; refine (cost_any _ _ hs3 hd3).mono ?_; rintro e w' ⟨rfl, rfl⟩; try dsimp only
  refine hK.out _ _ ?_ (fun hHeld => ?_)
  · exact hHeld
  clear hK K
  try simp only [List.getElem_toArray, List.getElem_cons_succ, List.getElem_cons_zero, Act.put, List.setIfInBounds_toArray, List.set_cons_zero, List.set_cons_succ]
  refine wpAnyH_take (i := 16) (v := ?vv15) rfl (by kernel_rfl) (by kernel_rfl) (by kernel_rfl) (fun _ _ _ h => h) (Or.inl ⟨by rfl, ?hy15⟩) hHeld ?_
  case hy15 => (intro w hSw; (try dsimp only at hSw); first | (go_simp; done) | (go_simp; with_reducible rfl))
  try simp only [List.getElem_toArray, List.getElem_cons_succ, List.getElem_cons_zero, Act.put, List.setIfInBounds_toArray, List.set_cons_zero, List.set_cons_succ]
  refine wpAnyH_ready (rs := [17]) (by kernel_rfl) (by simp) ?_
  refine AllReadyH.cons rfl (fun K hK => ?_) AllReadyH.nil
  try simp only [List.getElem_toArray, List.getElem_cons_succ, List.getElem_cons_zero]
  go_simp
  refine hK.out _ _ ?_ (fun hHeld => ?_)
  · go_keep
  clear hK K
  try simp only [List.getElem_toArray, List.getElem_cons_succ, List.getElem_cons_zero, Act.put, List.setIfInBounds_toArray, List.set_cons_zero, List.set_cons_succ]
  refine wpAnyH_ready (rs := [18]) (by kernel_rfl) (by simp) ?_
  refine AllReadyH.cons rfl (fun K hK => ?_) AllReadyH.nil
  try simp only [List.getElem_toArray, List.getElem_cons_succ, List.getElem_cons_zero]
  rw [if_pos (by rfl)]; refine wp_append_lies _ (.tmp 22) (.tmp 35) 35 rfl B 46 i0 (.agg #[.string ByteArray.empty, .int .i64 0, .int .i64 0]) 3 32 Tryd.underlying35 hi hz0 hz1 hz2 rfl (by decide) vT _ _ rfl (hT.alloc _) ⟨w.heap.size, 0, none⟩ 1 1 [.string (nth l 1), .int .i64 (valD (nth l 2).data.toList), .int .i64 (valD (nth l 3).data.toList)] rfl rfl (World.news_of_block (fr := (0, 0)) (heap_alloc_new w _)) (by simp [Value.oneCell']) (by omega) (by unfold maxLen; omega) (by omega) (by simp; omega) _ rfl ?_; intro g' cap' w1 hown hgrow hat hlt
  refine hK.out _ _ ?_ (fun hHeld => ?_)
  · exact ⟨(hgrow.cell_far _ (by simp; omega) (by exact fT)).trans hHeld.1, (hgrow.cell_far _ (by simp; omega) (by exact fT)).trans hHeld.2.1, (hgrow.cell_far _ (by simp; omega) (by exact fT)).trans hHeld.2.2.1, (hgrow.cell_far _ (by simp; omega) (by exact fB)).trans hHeld.2.2.2⟩
  clear hK K
  try simp only [List.getElem_toArray, List.getElem_cons_succ, List.getElem_cons_zero, Act.put, List.setIfInBounds_toArray, List.set_cons_zero, List.set_cons_succ]
  refine wpAnyH_take (i := 19) (v := ?vv16) rfl (by kernel_rfl) (by kernel_rfl) (by kernel_rfl) (fun _ _ _ h => h) (Or.inl ⟨by rfl, ?hy16⟩) hHeld ?_
  case hy16 => (intro w hSw; (try dsimp only at hSw); first | (go_simp; done) | (go_simp; with_reducible rfl))
  try simp only [List.getElem_toArray, List.getElem_cons_succ, List.getElem_cons_zero, Act.put, List.setIfInBounds_toArray, List.set_cons_zero, List.set_cons_succ]
  refine wpAnyH_take (i := 20) (v := ?vv17) rfl (by kernel_rfl) (by kernel_rfl) (by kernel_rfl) (fun _ _ _ h => h) (Or.inl ⟨by rfl, ?hy17⟩) hHeld ?_
  case hy17 => (intro w hSw; (try dsimp only at hSw); first | (go_simp; done) | (go_simp; with_reducible rfl))
  try simp only [List.getElem_toArray, List.getElem_cons_succ, List.getElem_cons_zero, Act.put, List.setIfInBounds_toArray, List.set_cons_zero, List.set_cons_succ]
  refine wpAnyH_take (i := 21) (v := ?vv18) rfl (by kernel_rfl) (by kernel_rfl) (by kernel_rfl) (fun _ _ _ h => h) (Or.inl ⟨by rfl, ?hy18⟩) hHeld ?_
  case hy18 => (intro w hSw; (try dsimp only at hSw); first | (go_simp; done) | (go_simp; with_reducible rfl))
  try simp only [List.getElem_toArray, List.getElem_cons_succ, List.getElem_cons_zero, Act.put, List.setIfInBounds_toArray, List.set_cons_zero, List.set_cons_succ]
  refine wpAnyH_done (by kernel_rfl) ?_ _
  have HS := hHeld.2.2.2
  have hfr : w1.frozen? ⟨gb, 0, none⟩ = false := (hgrow.frozen_far _ (by simp; omega) (by exact fB)).trans (by exact hfo _)
  show wpList _ _ _ _ _ _
  have k2 : w1.cell? ⟨gb, 2, none⟩ = some (.slice aN G.names.length kN) := (hgrow.cell_far _ (by simp; omega) (by exact fB)).trans (cell_later ((Below.refl _ _).alloc (Nat.le_refl _) _).drew hV.cells.2.2.1)
  have k3 : w1.cell? ⟨gb, 3, none⟩ = some (.slice aR G.rules.length kR) := (hgrow.cell_far _ (by simp; omega) (by exact fB)).trans (cell_later ((Below.refl _ _).alloc (Nat.le_refl _) _).drew hV.cells.2.2.2)
  have hkeep := ((Keeps.refl w vT.ownBlock.toList).alloc (Obj.cells #[.string (nth l 1), .int .i64 (valD (nth l 2).data.toList), .int .i64 (valD (nth l 3).data.toList)] 46)).drew.grown hgrow (fun k hk => .inl (by rw [hk]; simp))
  have hend := hV.addTok (t := (nth l 1, valD (nth l 2).data.toList, valD (nth l 3).data.toList)) hkeep hown
  have hbel : Below B w (w1.setCell ⟨gb, 0, none⟩ (.slice (some ⟨g', 0, none⟩) (G.toks.length + 1) cap')) := (hkeep.below hB (own_ge hT)).setCell (by exact hV.hb) _
  have HE : Hid _ := hid hend
  have HB : Hid _ := hid hbel
  clear hend hbel hkeep hown hgrow hat hT hHeld hV hG hfo
  go_wp2
  all_goals
    go_ret
    refine ⟨ret_int ?_, ⟨_, _, _, _, _, HE.out⟩, HB.out⟩
    unfold totI
    simp only [List.length_append, List.length_singleton]
    first | rw [if_pos (by omega)] | (rw [if_neg (by omega)]; rfl)

end Go.Proofs.YtjjggdcnpndgjaaDoor
