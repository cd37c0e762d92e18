/- What a line gives, whole; the lines of a text; darnref.Read as a plain function. -/
import Derived.Test.YtjjggdcnpndgjaaGreatDoorJ1
import Derived.Deep.QuietTactic
import Derived.BigQuiet
namespace Go.Proofs.YtjjggdcnpndgjaaGreatDoor
open Go.RowKit

theorem Tryz.info174 : (Tryz.prog.info? 174).map (fun i => (i.zero, i.size, i.bytes)) = some (some (.agg #[.string ByteArray.empty, .int .i64 0, .int .i64 0]), 3, 32) := by kernel_rfl
theorem Tryz.info299 : (Tryz.prog.info? 299).map (fun i => (i.zero, i.size, i.bytes)) = some (some (.agg #[.string ByteArray.empty, .string ByteArray.empty, .int .i64 0]), 3, 40) := by kernel_rfl
theorem Tryz.info172 : (Tryz.prog.info? 172).map (fun i => (i.zero, i.size, i.bytes)) = some (some (.agg #[.string ByteArray.empty, .slice none 0 0]), 2, 40) := by kernel_rfl

theorem ret_int {a b : Int} (h : a = b) : Ending.returned (.int .i64 b) = .returned (.int .i64 a) := by rw [h]

set_option linter.unusedSimpArgs false in
set_option maxHeartbeats 1000000 in
set_option maxRecDepth 100000 in
theorem give_tok (l : List ByteArray) (g n cap : Nat) (G : Gr) (w : World) (B gb : Nat) (vT vS vN vR : Value) (pv : List Value) (hV : GrV w B gb G vT vS vN vR pv)
    (hn1 : G.toks.length ≤ 100000) (hn2 : G.names.length ≤ 100000) (hn3 : G.rules.length ≤ 100000) (hB : B ≤ w.heap.size)
    (hl : l.length = n) (hn : n = 4) (hc : StrsAt w g 0 l) (ht : ((nth l 0).toList == [116, 111, 107, 101, 110]) = true)
    (hs2 : (nth l 2).size ≤ 2) (hs3 : (nth l 3).size ≤ 2) (hd2 : allIn (nth l 2).data.toList 48 57 = true) (hd3 : allIn (nth l 3).data.toList 48 57 = true) (hno : hasTok G.toks (nth l 1) = false) (hgne : g ≠ gb) (hgT : vT.ownBlock ≠ some g) :
    Calls Tryz.prog 122 #[.pointer (some ⟨gb, 0, none⟩), .slice (some ⟨g, 0, none⟩) n cap] w fun e w' =>
      e = .returned (.int .i64 (totI { G with toks := G.toks ++ [(nth l 1, valD (nth l 2).data.toList, valD (nth l 3).data.toList)] } false)) ∧
        GrAt w' B gb { G with toks := G.toks ++ [(nth l 1, valD (nth l 2).data.toList, valD (nth l 3).data.toList)] } ∧ Below B w w' := by
  obtain ⟨aN, kN, rfl⟩ := own_slice hV.names
  obtain ⟨aR, kR, rfl⟩ := own_slice hV.rules
  obtain ⟨i0, hi, hz0, hz1, hz2⟩ := info_parts Tryz.info174
  have c0 : w.cell? ⟨g, 0, none⟩ = some (.string (nth l 0)) := by simpa using hc.2 0 (by omega)
  have c1 : w.cell? ⟨g, 1, none⟩ = some (.string (nth l 1)) := by simpa using hc.2 1 (by omega)
  have c2 : w.cell? ⟨g, 2, none⟩ = some (.string (nth l 2)) := by simpa using hc.2 2 (by omega)
  have c3 : w.cell? ⟨g, 3, none⟩ = some (.string (nth l 3)) := by simpa using hc.2 3 (by omega)
  have hG : GrAt w B gb G := ⟨_, _, _, _, _, hV⟩
  have d0 := hV.cells.1
  have hc0 := hc.1
  subst hn
  clear hc hl
  go_enter Tryz.func122, Tryz.ntmps122
  go_wp2_with (go_at_call 178; refine (hasToken_any _ G _ B gb ?_ ?_).mono ?_; assumption; omega; rintro e w' ⟨rfl, rfl⟩; rw [hno])
  have hT := hV.toks
  have hge : g ≠ gb := hgne
  have fT : some g ≠ vT.ownBlock := fun e => hgT e.symm
  have fB : some gb ≠ vT.ownBlock := fun e => hV.off.1 gb e.symm rfl
  have hfr0 : w.frozen? ⟨gb, 0, none⟩ = false := block_free hV.blk
  have hfo : ∀ o, (w.alloc o).frozen? ⟨gb, 0, none⟩ = false := fun o => (((Below.refl w.heap.size w).alloc (Nat.le_refl _) o).frozen (by exact lt_of_block hV.blk)).trans hfr0
  have hgl := hc0
  have hbl := lt_of_block hV.blk
  refine wp_region_last (fun w' => w'.cell? ⟨g, 1, none⟩ = some (.string (nth l 1)) ∧ w'.cell? ⟨g, 2, none⟩ = some (.string (nth l 2)) ∧ w'.cell? ⟨g, 3, none⟩ = some (.string (nth l 3)) ∧ w'.cell? ⟨gb, 0, none⟩ = some vT) (by kernel_rfl) (by kernel_rfl) ?_ (fun hHeld => ?_)
  · go_keep
  simp only [cutLast, idle, lastOf]
  refine tkA 0 ?vv40 rfl ?hy40 hHeld ?_
  case hy40 => (intro w hSw; (try dsimp only at hSw); first | (go_simp; done) | (go_simp; with_reducible rfl))
  try simp only [zA, zB, zC, Act.put, zD, zE, zF]
  refine tkA 1 ?vv41 rfl ?hy41 hHeld ?_
  case hy41 => (intro w hSw; (try dsimp only at hSw); first | (go_simp; done) | (go_simp; with_reducible rfl))
  try simp only [zA, zB, zC, Act.put, zD, zE, zF]
  refine tkA 2 ?vv42 rfl ?hy42 hHeld ?_
  case hy42 => (intro w hSw; (try dsimp only at hSw); first | (go_simp; done) | (go_simp; with_reducible rfl))
  try simp only [zA, zB, zC, Act.put, zD, zE, zF]
  refine tkA 3 ?vv43 rfl ?hy43 hHeld ?_
  case hy43 => (intro w hSw; (try dsimp only at hSw); first | (go_simp; done) | (go_simp; with_reducible rfl))
  try simp only [zA, zB, zC, Act.put, zD, zE, zF]
  refine tkA 4 ?vv44 rfl ?hy44 hHeld ?_
  case hy44 => (intro w hSw; (try dsimp only at hSw); first | (go_simp; done) | (go_simp; with_reducible rfl))
  try simp only [zA, zB, zC, Act.put, zD, zE, zF]
  refine tkA 5 ?vv45 rfl ?hy45 hHeld ?_
  case hy45 => (intro w hSw; (try dsimp only at hSw); first | (go_simp; done) | (go_simp; with_reducible rfl))
  try simp only [zA, zB, zC, Act.put, zD, zE, zF]
  refine tkA 6 ?vv46 rfl ?hy46 hHeld ?_
  case hy46 => (intro w hSw; (try dsimp only at hSw); first | (go_simp; done) | (go_simp; with_reducible rfl))
  try simp only [zA, zB, zC, Act.put, zD, zE, zF]
  refine tkA 7 ?vv47 rfl ?hy47 hHeld ?_
  case hy47 => (intro w hSw; (try dsimp only at hSw); first | (go_simp; done) | (go_simp; with_reducible rfl))
  try simp only [zA, zB, zC, Act.put, zD, zE, zF]
  refine tkA 8 ?vv48 rfl ?hy48 hHeld ?_
  case hy48 => (intro w hSw; (try dsimp only at hSw); first | (go_simp; done) | (go_simp; with_reducible rfl))
  try simp only [zA, zB, zC, Act.put, zD, zE, zF]
  refine tkA 9 ?vv49 rfl ?hy49 hHeld ?_
  case hy49 => (intro w hSw; (try dsimp only at hSw); first | (go_simp; done) | (go_simp; with_reducible rfl))
  try simp only [zA, zB, zC, Act.put, zD, zE, zF]
  refine tkA 10 ?vv50 rfl ?hy50 hHeld ?_
  case hy50 => (intro w hSw; (try dsimp only at hSw); first | (go_simp; done) | (go_simp; with_reducible rfl))
  try simp only [zA, zB, zC, Act.put, zD, zE, zF]
  refine tkA 12 ?vv51 rfl ?hy51 hHeld ?_
  case hy51 => (intro w hSw; (try dsimp only at hSw); first | (go_simp; done) | (go_simp; with_reducible rfl))
  try simp only [zA, zB, zC, Act.put, zD, zE, zF]
  refine tkA 13 ?vv52 rfl ?hy52 hHeld ?_
  case hy52 => (intro w hSw; (try dsimp only at hSw); first | (go_simp; done) | (go_simp; with_reducible rfl))
  try simp only [zA, zB, zC, Act.put, zD, zE, zF]
  refine tkA 14 ?vv53 rfl ?hy53 hHeld ?_
  case hy53 => (intro w hSw; (try dsimp only at hSw); first | (go_simp; done) | (go_simp; with_reducible rfl))
  try simp only [zA, zB, zC, Act.put, zD, zE, zF]
  refine wpAnyH_ready (rs := [11]) (by kernel_rfl) (by simp) ?_
  refine AllReadyH.cons rfl (fun K hK => ?_) AllReadyH.nil
  try simp only [zA, zB, zC]
  go_simp; refine (cost_any _ _ hs2 hd2).mono ?_; rintro e w' ⟨rfl, rfl⟩; try dsimp only
  refine hK.out _ _ ?_ (fun hHeld => ?_)
  · exact hHeld
  clear hK K
  try simp only [zA, zB, zC, Act.put, zD, zE, zF]
  refine wpAnyH_ready (rs := [15]) (by kernel_rfl) (by simp) ?_
  refine AllReadyH.cons rfl (fun K hK => ?_) AllReadyH.nil
  try simp only [zA, zB, zC]
  go_simp; refine (cost_any _ _ hs3 hd3).mono ?_; rintro e w' ⟨rfl, rfl⟩; try dsimp only
  refine hK.out _ _ ?_ (fun hHeld => ?_)
  · exact hHeld
  clear hK K
  try simp only [zA, zB, zC, Act.put, zD, zE, zF]
  refine tkA 16 ?vv54 rfl ?hy54 hHeld ?_
  case hy54 => (intro w hSw; (try dsimp only at hSw); first | (go_simp; done) | (go_simp; with_reducible rfl))
  try simp only [zA, zB, zC, Act.put, zD, zE, zF]
  refine wpAnyH_ready (rs := [17]) (by kernel_rfl) (by simp) ?_
  refine AllReadyH.cons rfl (fun K hK => ?_) AllReadyH.nil
  try simp only [zA, zB, zC]
  go_simp
  refine hK.out _ _ ?_ (fun hHeld => ?_)
  · go_keep
  clear hK K
  try simp only [zA, zB, zC, Act.put, zD, zE, zF]
  refine wpAnyH_ready (rs := [18]) (by kernel_rfl) (by simp) ?_
  refine AllReadyH.cons rfl (fun K hK => ?_) AllReadyH.nil
  try simp only [zA, zB, zC]
  rw [if_pos (by rfl)]; refine wp_append_lies _ (.tmp 22) (.tmp 35) 156 rfl B 174 i0 (.agg #[.string ByteArray.empty, .int .i64 0, .int .i64 0]) 3 32 Tryz.underlying156 hi hz0 hz1 hz2 rfl (by decide) vT _ _ rfl (hT.alloc _) ⟨w.heap.size, 0, none⟩ 1 1 [.string (nth l 1), .int .i64 (valD (nth l 2).data.toList), .int .i64 (valD (nth l 3).data.toList)] rfl rfl (World.news_of_block (fr := (0, 0)) (heap_alloc_new w _)) (by simp [Value.oneCell']) (by omega) (by unfold maxLen; omega) (by omega) (by simp; omega) _ rfl ?_; intro g' cap' w1 hown hgrow hat hlt
  refine hK.out _ _ ?_ (fun hHeld => ?_)
  · exact ⟨(hgrow.cell_far _ (by simp; omega) (by exact fT)).trans hHeld.1, (hgrow.cell_far _ (by simp; omega) (by exact fT)).trans hHeld.2.1, (hgrow.cell_far _ (by simp; omega) (by exact fT)).trans hHeld.2.2.1, (hgrow.cell_far _ (by simp; omega) (by exact fB)).trans hHeld.2.2.2⟩
  clear hK K
  try simp only [zA, zB, zC, Act.put, zD, zE, zF]
  refine tkA 19 ?vv55 rfl ?hy55 hHeld ?_
  case hy55 => (intro w hSw; (try dsimp only at hSw); first | (go_simp; done) | (go_simp; with_reducible rfl))
  try simp only [zA, zB, zC, Act.put, zD, zE, zF]
  refine tkA 20 ?vv56 rfl ?hy56 hHeld ?_
  case hy56 => (intro w hSw; (try dsimp only at hSw); first | (go_simp; done) | (go_simp; with_reducible rfl))
  try simp only [zA, zB, zC, Act.put, zD, zE, zF]
  refine tkA 21 ?vv57 rfl ?hy57 hHeld ?_
  case hy57 => (intro w hSw; (try dsimp only at hSw); first | (go_simp; done) | (go_simp; with_reducible rfl))
  try simp only [zA, zB, zC, Act.put, zD, zE, zF]
  refine wpAnyH_done (by kernel_rfl) ?_ _
  have HS := hHeld.2.2.2
  have hfr : w1.frozen? ⟨gb, 0, none⟩ = false := (hgrow.frozen_far _ (by simp; omega) (by exact fB)).trans (by exact hfo _)
  show wpList _ _ _ _ _ _
  have k2 : w1.cell? ⟨gb, 2, none⟩ = some (.slice aN G.names.length kN) := (hgrow.cell_far _ (by simp; omega) (by exact fB)).trans (cell_later ((Below.refl _ _).alloc (Nat.le_refl _) _).drew hV.cells.2.2.1)
  have k3 : w1.cell? ⟨gb, 3, none⟩ = some (.slice aR G.rules.length kR) := (hgrow.cell_far _ (by simp; omega) (by exact fB)).trans (cell_later ((Below.refl _ _).alloc (Nat.le_refl _) _).drew hV.cells.2.2.2)
  have hkeep := ((Keeps.refl w vT.ownBlock.toList).alloc (Obj.cells #[.string (nth l 1), .int .i64 (valD (nth l 2).data.toList), .int .i64 (valD (nth l 3).data.toList)] 174)).drew.grown hgrow (fun k hk => .inl (by rw [hk]; simp))
  have hend := hV.addTok (t := (nth l 1, valD (nth l 2).data.toList, valD (nth l 3).data.toList)) hkeep hown
  have hbel : Below B w (w1.setCell ⟨gb, 0, none⟩ (.slice (some ⟨g', 0, none⟩) (G.toks.length + 1) cap')) := (hkeep.below hB (own_ge hT)).setCell (by exact hV.hb) _
  have HE : Hid _ := hid hend
  have HB : Hid _ := hid hbel
  clear hend hbel hkeep hown hgrow hat hT hHeld hV hG hfo
  go_wp2
  all_goals
    go_ret
    refine ⟨ret_int ?_, ⟨_, _, _, _, _, HE.out⟩, HB.out⟩
    unfold totI
    simp only [List.length_append, List.length_singleton]
    first | rw [if_pos (by omega)] | (rw [if_neg (by omega)]; rfl)

end Go.Proofs.YtjjggdcnpndgjaaGreatDoor

namespace Go.Proofs.YtjjggdcnpndgjaaGreatDoor
open Go.RowKit

set_option linter.unusedSimpArgs false in
set_option maxHeartbeats 1000000 in
set_option maxRecDepth 100000 in
theorem give_swap (l : List ByteArray) (g n cap : Nat) (G : Gr) (w : World) (B gb : Nat) (vT vS vN vR : Value) (pv : List Value) (hV : GrV w B gb G vT vS vN vR pv)
    (_hn1 : G.toks.length ≤ 100000) (hn4 : G.swps.length ≤ 100000) (_hn2 : G.names.length ≤ 100000) (_hn3 : G.rules.length ≤ 100000) (hB : B ≤ w.heap.size)
    (hl : l.length = n) (hn : n = 4) (hc : StrsAt w g 0 l) (ht0 : ((nth l 0).toList == [116, 111, 107, 101, 110]) = false) (ht : ((nth l 0).toList == [115, 119, 97, 112]) = true)
    (hs3 : (nth l 3).size ≤ 2) (hd3 : allIn (nth l 3).data.toList 48 57 = true) (hgne : g ≠ gb) (hgT : vS.ownBlock ≠ some g) :
    Calls Tryz.prog 122 #[.pointer (some ⟨gb, 0, none⟩), .slice (some ⟨g, 0, none⟩) n cap] w fun e w' =>
      e = .returned (.int .i64 (totI { G with swps := G.swps ++ [(nth l 1, nth l 2, valD (nth l 3).data.toList)] } false)) ∧
        GrAt w' B gb { G with swps := G.swps ++ [(nth l 1, nth l 2, valD (nth l 3).data.toList)] } ∧ Below B w w' := by
  obtain ⟨aT, kT, rfl⟩ := own_slice hV.toks
  obtain ⟨aN, kN, rfl⟩ := own_slice hV.names
  obtain ⟨aR, kR, rfl⟩ := own_slice hV.rules
  obtain ⟨i0, hi, hz0, hz1, hz2⟩ := info_parts Tryz.info299
  have c0 : w.cell? ⟨g, 0, none⟩ = some (.string (nth l 0)) := by simpa using hc.2 0 (by omega)
  have c1 : w.cell? ⟨g, 1, none⟩ = some (.string (nth l 1)) := by simpa using hc.2 1 (by omega)
  have c2 : w.cell? ⟨g, 2, none⟩ = some (.string (nth l 2)) := by simpa using hc.2 2 (by omega)
  have c3 : w.cell? ⟨g, 3, none⟩ = some (.string (nth l 3)) := by simpa using hc.2 3 (by omega)
  have d0 := hV.cells.2.1
  have hc0 := hc.1
  subst hn
  clear hc hl
  go_enter Tryz.func122, Tryz.ntmps122
  go_wp2_with fail
  have hT := hV.swps
  have hge : g ≠ gb := hgne
  have fT : some g ≠ vS.ownBlock := fun e => hgT e.symm
  have fB : some gb ≠ vS.ownBlock := fun e => hV.off.2.1 gb e.symm rfl
  have hfr0 : w.frozen? ⟨gb, 1, none⟩ = false := block_free hV.blk
  have hfo : ∀ o, (w.alloc o).frozen? ⟨gb, 1, none⟩ = false := fun o => (((Below.refl w.heap.size w).alloc (Nat.le_refl _) o).frozen (by exact lt_of_block hV.blk)).trans hfr0
  have hgl := hc0
  have hbl := lt_of_block hV.blk
  refine wp_region_last (fun w' => w'.cell? ⟨g, 1, none⟩ = some (.string (nth l 1)) ∧ w'.cell? ⟨g, 2, none⟩ = some (.string (nth l 2)) ∧ w'.cell? ⟨g, 3, none⟩ = some (.string (nth l 3)) ∧ w'.cell? ⟨gb, 1, none⟩ = some vS) (by kernel_rfl) (by kernel_rfl) ?_ (fun hHeld => ?_)
  · go_keep
  simp only [cutLast, idle, lastOf]
  refine tkA 0 ?vv32 rfl ?hy32 hHeld ?_
  case hy32 => (intro w hSw; (try dsimp only at hSw); first | (go_simp; done) | (go_simp; with_reducible rfl))
  try simp only [zA, zB, zC, Act.put, zD, zE, zF]
  refine tkA 1 ?vv33 rfl ?hy33 hHeld ?_
  case hy33 => (intro w hSw; (try dsimp only at hSw); first | (go_simp; done) | (go_simp; with_reducible rfl))
  try simp only [zA, zB, zC, Act.put, zD, zE, zF]
  refine tkA 2 ?vv34 rfl ?hy34 hHeld ?_
  case hy34 => (intro w hSw; (try dsimp only at hSw); first | (go_simp; done) | (go_simp; with_reducible rfl))
  try simp only [zA, zB, zC, Act.put, zD, zE, zF]
  refine tkA 3 ?vv35 rfl ?hy35 hHeld ?_
  case hy35 => (intro w hSw; (try dsimp only at hSw); first | (go_simp; done) | (go_simp; with_reducible rfl))
  try simp only [zA, zB, zC, Act.put, zD, zE, zF]
  refine tkA 4 ?vv36 rfl ?hy36 hHeld ?_
  case hy36 => (intro w hSw; (try dsimp only at hSw); first | (go_simp; done) | (go_simp; with_reducible rfl))
  try simp only [zA, zB, zC, Act.put, zD, zE, zF]
  refine tkA 5 ?vv37 rfl ?hy37 hHeld ?_
  case hy37 => (intro w hSw; (try dsimp only at hSw); first | (go_simp; done) | (go_simp; with_reducible rfl))
  try simp only [zA, zB, zC, Act.put, zD, zE, zF]
  refine tkA 6 ?vv38 rfl ?hy38 hHeld ?_
  case hy38 => (intro w hSw; (try dsimp only at hSw); first | (go_simp; done) | (go_simp; with_reducible rfl))
  try simp only [zA, zB, zC, Act.put, zD, zE, zF]
  refine tkA 7 ?vv39 rfl ?hy39 hHeld ?_
  case hy39 => (intro w hSw; (try dsimp only at hSw); first | (go_simp; done) | (go_simp; with_reducible rfl))
  try simp only [zA, zB, zC, Act.put, zD, zE, zF]
  refine tkA 8 ?vv40 rfl ?hy40 hHeld ?_
  case hy40 => (intro w hSw; (try dsimp only at hSw); first | (go_simp; done) | (go_simp; with_reducible rfl))
  try simp only [zA, zB, zC, Act.put, zD, zE, zF]
  refine tkA 9 ?vv41 rfl ?hy41 hHeld ?_
  case hy41 => (intro w hSw; (try dsimp only at hSw); first | (go_simp; done) | (go_simp; with_reducible rfl))
  try simp only [zA, zB, zC, Act.put, zD, zE, zF]
  refine tkA 10 ?vv42 rfl ?hy42 hHeld ?_
  case hy42 => (intro w hSw; (try dsimp only at hSw); first | (go_simp; done) | (go_simp; with_reducible rfl))
  try simp only [zA, zB, zC, Act.put, zD, zE, zF]
  refine tkA 11 ?vv43 rfl ?hy43 hHeld ?_
  case hy43 => (intro w hSw; (try dsimp only at hSw); first | (go_simp; done) | (go_simp; with_reducible rfl))
  try simp only [zA, zB, zC, Act.put, zD, zE, zF]
  refine tkA 12 ?vv44 rfl ?hy44 hHeld ?_
  case hy44 => (intro w hSw; (try dsimp only at hSw); first | (go_simp; done) | (go_simp; with_reducible rfl))
  try simp only [zA, zB, zC, Act.put, zD, zE, zF]
  refine tkA 13 ?vv45 rfl ?hy45 hHeld ?_
  case hy45 => (intro w hSw; (try dsimp only at hSw); first | (go_simp; done) | (go_simp; with_reducible rfl))
  try simp only [zA, zB, zC, Act.put, zD, zE, zF]
  refine wpAnyH_ready (rs := [14]) (by kernel_rfl) (by simp) ?_
  refine AllReadyH.cons rfl (fun K hK => ?_) AllReadyH.nil
  try simp only [zA, zB, zC]
  go_simp; refine (cost_any _ _ hs3 hd3).mono ?_; rintro e w' ⟨rfl, rfl⟩; try dsimp only
  refine hK.out _ _ ?_ (fun hHeld => ?_)
  · exact hHeld
  clear hK K
  try simp only [zA, zB, zC, Act.put, zD, zE, zF]
  refine tkA 15 ?vv46 rfl ?hy46 hHeld ?_
  case hy46 => (intro w hSw; (try dsimp only at hSw); first | (go_simp; done) | (go_simp; with_reducible rfl))
  try simp only [zA, zB, zC, Act.put, zD, zE, zF]
  refine wpAnyH_ready (rs := [16]) (by kernel_rfl) (by simp) ?_
  refine AllReadyH.cons rfl (fun K hK => ?_) AllReadyH.nil
  try simp only [zA, zB, zC]
  go_simp
  refine hK.out _ _ ?_ (fun hHeld => ?_)
  · go_keep
  clear hK K
  try simp only [zA, zB, zC, Act.put, zD, zE, zF]
  refine wpAnyH_ready (rs := [17]) (by kernel_rfl) (by simp) ?_
  refine AllReadyH.cons rfl (fun K hK => ?_) AllReadyH.nil
  try simp only [zA, zB, zC]
  rw [if_pos (by rfl)]; refine wp_append_lies _ (.tmp 45) (.tmp 57) 157 rfl B 299 i0 (.agg #[.string ByteArray.empty, .string ByteArray.empty, .int .i64 0]) 3 40 Tryz.underlying157 hi hz0 hz1 hz2 rfl (by decide) vS _ _ rfl (hT.alloc _) ⟨w.heap.size, 0, none⟩ 1 1 [.string (nth l 1), .string (nth l 2), .int .i64 (valD (nth l 3).data.toList)] rfl rfl (World.news_of_block (fr := (0, 0)) (heap_alloc_new w _)) (by simp [Value.oneCell']) (by omega) (by unfold maxLen; omega) (by omega) (by simp; omega) _ rfl ?_; intro g' cap' w1 hown hgrow hat hlt
  refine hK.out _ _ ?_ (fun hHeld => ?_)
  · exact ⟨(hgrow.cell_far _ (by simp; omega) (by exact fT)).trans hHeld.1, (hgrow.cell_far _ (by simp; omega) (by exact fT)).trans hHeld.2.1, (hgrow.cell_far _ (by simp; omega) (by exact fT)).trans hHeld.2.2.1, (hgrow.cell_far _ (by simp; omega) (by exact fB)).trans hHeld.2.2.2⟩
  clear hK K
  try simp only [zA, zB, zC, Act.put, zD, zE, zF]
  refine tkA 18 ?vv47 rfl ?hy47 hHeld ?_
  case hy47 => (intro w hSw; (try dsimp only at hSw); first | (go_simp; done) | (go_simp; with_reducible rfl))
  try simp only [zA, zB, zC, Act.put, zD, zE, zF]
  refine tkA 19 ?vv48 rfl ?hy48 hHeld ?_
  case hy48 => (intro w hSw; (try dsimp only at hSw); first | (go_simp; done) | (go_simp; with_reducible rfl))
  try simp only [zA, zB, zC, Act.put, zD, zE, zF]
  refine tkA 20 ?vv49 rfl ?hy49 hHeld ?_
  case hy49 => (intro w hSw; (try dsimp only at hSw); first | (go_simp; done) | (go_simp; with_reducible rfl))
  try simp only [zA, zB, zC, Act.put, zD, zE, zF]
  refine wpAnyH_done (by kernel_rfl) ?_ _
  have HS := hHeld.2.2.2
  have hfr : w1.frozen? ⟨gb, 1, none⟩ = false := (hgrow.frozen_far _ (by simp; omega) (by exact fB)).trans (by exact hfo _)
  show wpList _ _ _ _ _ _
  have k0 : w1.cell? ⟨gb, 0, none⟩ = some (.slice aT G.toks.length kT) := (hgrow.cell_far _ (by simp; omega) (by exact fB)).trans (cell_later ((Below.refl _ _).alloc (Nat.le_refl _) _).drew hV.cells.1)
  have k2 : w1.cell? ⟨gb, 2, none⟩ = some (.slice aN G.names.length kN) := (hgrow.cell_far _ (by simp; omega) (by exact fB)).trans (cell_later ((Below.refl _ _).alloc (Nat.le_refl _) _).drew hV.cells.2.2.1)
  have k3 : w1.cell? ⟨gb, 3, none⟩ = some (.slice aR G.rules.length kR) := (hgrow.cell_far _ (by simp; omega) (by exact fB)).trans (cell_later ((Below.refl _ _).alloc (Nat.le_refl _) _).drew hV.cells.2.2.2)
  have hkeep := ((Keeps.refl w vS.ownBlock.toList).alloc (Obj.cells #[.string (nth l 1), .string (nth l 2), .int .i64 (valD (nth l 3).data.toList)] 299)).drew.grown hgrow (fun k hk => .inl (by rw [hk]; simp))
  have hend := hV.addSwp (t := (nth l 1, nth l 2, valD (nth l 3).data.toList)) hkeep hown
  have hbel : Below B w (w1.setCell ⟨gb, 1, none⟩ (.slice (some ⟨g', 0, none⟩) (G.swps.length + 1) cap')) := (hkeep.below hB (own_ge hT)).setCell (by exact hV.hb) _
  have HE : Hid _ := hid hend
  have HB : Hid _ := hid hbel
  clear hend hbel hkeep hown hgrow hat hT hHeld hV hfo
  go_wp2
  all_goals
    go_ret
    refine ⟨ret_int ?_, ⟨_, _, _, _, _, HE.out⟩, HB.out⟩
    unfold totI
    dsimp only
    first | rw [if_pos (by omega)] | (rw [if_neg (by omega)]; rfl)

end Go.Proofs.YtjjggdcnpndgjaaGreatDoor

namespace Go.Proofs.YtjjggdcnpndgjaaGreatDoor
open Go.RowKit

/-- A token that was given already. -/
theorem give_twice (l : List ByteArray) (g n cap : Nat) (G : Gr) (w : World) (B gb : Nat) (hG : GrAt w B gb G) (hn1 : G.toks.length ≤ 100000)
    (hl : l.length = n) (hn : n = 4) (hc : StrsAt w g 0 l) (ht : ((nth l 0).toList == [116, 111, 107, 101, 110]) = true) (hno : hasTok G.toks (nth l 1) = true) :
    Calls Tryz.prog 122 #[.pointer (some ⟨gb, 0, none⟩), .slice (some ⟨g, 0, none⟩) n cap] w fun e w' => e = .returned (.int .i64 3) ∧ w = w' := by
  have c0 : w.cell? ⟨g, 0, none⟩ = some (.string (nth l 0)) := by simpa using hc.2 0 (by omega)
  have c1 : w.cell? ⟨g, 1, none⟩ = some (.string (nth l 1)) := by simpa using hc.2 1 (by omega)
  subst hn
  clear hc hl
  go_enter Tryz.func122, Tryz.ntmps122
  go_wp2_with (go_at_call 178; refine (hasToken_any _ G _ B gb ?_ ?_).mono ?_; assumption; omega; rintro e w' ⟨rfl, rfl⟩; rw [hno])
  go_ret
  exact ⟨rfl, rfl⟩

/-- A name that was given already. -/
theorem give_twiceName (l : List ByteArray) (g n cap : Nat) (G : Gr) (w : World) (B gb : Nat) (hG : GrAt w B gb G) (hn1 : G.names.length ≤ 100000)
    (hl : l.length = n) (hn : 3 ≤ n) (hc : StrsAt w g 0 l) (ht0 : ((nth l 0).toList == [116, 111, 107, 101, 110]) = false) (ht1 : ((nth l 0).toList == [115, 119, 97, 112]) = false) (ht : ((nth l 0).toList == [114, 117, 108, 101]) = true)
    (hno : hasNam G.names (nth l 1) = true) :
    Calls Tryz.prog 122 #[.pointer (some ⟨gb, 0, none⟩), .slice (some ⟨g, 0, none⟩) n cap] w fun e w' => e = .returned (.int .i64 3) ∧ w = w' := by
  have c0 : w.cell? ⟨g, 0, none⟩ = some (.string (nth l 0)) := by simpa using hc.2 0 (by omega)
  have c1 : w.cell? ⟨g, 1, none⟩ = some (.string (nth l 1)) := by simpa using hc.2 1 (by omega)
  clear hc hl
  go_enter Tryz.func122, Tryz.ntmps122
  go_wp2_with (go_at_call 180; refine (hasName_any _ G _ B gb ?_ ?_).mono ?_; assumption; omega; rintro e w' ⟨rfl, rfl⟩; rw [hno])
  go_ret
  exact ⟨rfl, rfl⟩

set_option maxRecDepth 100000 in
/-- A line that gives nothing. -/
theorem give_none (l : List ByteArray) (g n cap : Nat) (G : Gr) (w : World) (B gb : Nat) (vT vS vN vR : Value) (pv : List Value) (hV : GrV w B gb G vT vS vN vR pv)
    (hn1 : G.toks.length ≤ 100000) (hn2 : G.names.length ≤ 100000) (hn3 : G.rules.length ≤ 100000)
    (hl : l.length = n) (hn : 1 ≤ n) (hc : StrsAt w g 0 l) (ht0 : ((nth l 0).toList == [116, 111, 107, 101, 110]) = false) (ht1 : ((nth l 0).toList == [115, 119, 97, 112]) = false) (ht : ((nth l 0).toList == [114, 117, 108, 101]) = false) :
    Calls Tryz.prog 122 #[.pointer (some ⟨gb, 0, none⟩), .slice (some ⟨g, 0, none⟩) n cap] w fun e w' => e = .returned (.int .i64 (totI G false)) ∧ w = w' := by
  obtain ⟨aT, kT, rfl⟩ := own_slice hV.toks
  obtain ⟨aN, kN, rfl⟩ := own_slice hV.names
  obtain ⟨aR, kR, rfl⟩ := own_slice hV.rules
  have c0 : w.cell? ⟨g, 0, none⟩ = some (.string (nth l 0)) := by simpa using hc.2 0 (by omega)
  obtain ⟨k0, k1, k2, k3⟩ := hV.cells
  clear hc hl hV k1
  go_enter Tryz.func122, Tryz.ntmps122
  go_wp2
  all_goals
    go_ret
    refine ⟨ret_int ?_, rfl⟩
    unfold totI
    first | rw [if_pos (by omega)] | (rw [if_neg (by omega)]; rfl)

end Go.Proofs.YtjjggdcnpndgjaaGreatDoor

namespace Go.Proofs.YtjjggdcnpndgjaaGreatDoor
open Go.RowKit

/-- (*Grammar).give. -/
def giveB (G : Gr) (l : List ByteArray) : Gr × Int :=
  if (nth l 0).toList == [116, 111, 107, 101, 110] then
    (if hasTok G.toks (nth l 1) then (G, 3)
     else ({ G with toks := G.toks ++ [(nth l 1, valD (nth l 2).data.toList, valD (nth l 3).data.toList)] }, totI { G with toks := G.toks ++ [(nth l 1, valD (nth l 2).data.toList, valD (nth l 3).data.toList)] } false))
  else if (nth l 0).toList == [115, 119, 97, 112] then
    ({ G with swps := G.swps ++ [(nth l 1, nth l 2, valD (nth l 3).data.toList)] }, totI { G with swps := G.swps ++ [(nth l 1, nth l 2, valD (nth l 3).data.toList)] } false)
  else if (nth l 0).toList == [114, 117, 108, 101] then
    (if hasNam G.names (nth l 1) then (G, 3)
     else ({ G with names := G.names ++ [nth l 1], rules := (rst G.rules (nth l 1) (l.drop 3)).1 ++ [(nth l 1, (rst G.rules (nth l 1) (l.drop 3)).2.1)] },
      totI { G with names := G.names ++ [nth l 1], rules := (rst G.rules (nth l 1) (l.drop 3)).1 ++ [(nth l 1, (rst G.rules (nth l 1) (l.drop 3)).2.1)] } (rst G.rules (nth l 1) (l.drop 3)).2.2))
  else (G, totI G false)

theorem head_len {l : List ByteArray} (h : isLineB l = true) {x : UInt8} {r : List UInt8} (ht : ((nth l 0).toList == x :: r) = true) : ¬ l.length = 1 := by
  intro h1
  unfold isLineB at h
  rw [if_pos h1] at h
  rw [beq_iff_eq] at ht
  rw [ht] at h
  cases h

theorem line_tok {l : List ByteArray} (h : isLineB l = true) (ht : ((nth l 0).toList == [116, 111, 107, 101, 110]) = true) : l.length = 4 ∧ tokB (nth l 1) = true ∧ numB (nth l 2) = true ∧ numB (nth l 3) = true := by
  have h1 := head_len h ht
  unfold isLineB at h
  rw [if_neg h1, if_pos ht] at h
  simpa [tokLineB] using h

theorem line_swap {l : List ByteArray} (h : isLineB l = true) (h0 : ((nth l 0).toList == [116, 111, 107, 101, 110]) = false) (ht : ((nth l 0).toList == [115, 119, 97, 112]) = true) : l.length = 4 ∧ tokB (nth l 1) = true ∧ tokB (nth l 2) = true ∧ numB (nth l 3) = true := by
  have h1 := head_len h ht
  unfold isLineB at h
  rw [if_neg h1, if_neg (by simp [h0]), if_pos ht] at h
  simpa [swapLineB] using h

theorem line_rule {l : List ByteArray} (h : isLineB l = true) (h0 : ((nth l 0).toList == [116, 111, 107, 101, 110]) = false) (h2 : ((nth l 0).toList == [115, 119, 97, 112]) = false) (ht : ((nth l 0).toList == [114, 117, 108, 101]) = true) :
    3 ≤ l.length ∧ nameB (nth l 1) = true ∧ (l.drop 3).all partB = true := by
  have h1 := head_len h ht
  unfold isLineB at h
  rw [if_neg h1, if_neg (by simp [h0]), if_neg (by simp [h2]), if_pos ht] at h
  simp only [ruleLineB, headB, Bool.and_eq_true, decide_eq_true_eq] at h
  exact ⟨h.1.1, h.1.2.1, h.2⟩

theorem num_size {s : ByteArray} (h : numB s = true) : s.size ≤ 2 ∧ allIn s.data.toList 48 57 = true := by
  have hlen : s.data.toList.length = s.size := by simp
  unfold numB costB madeB at h
  simp only [Bool.and_eq_true, decide_eq_true_eq] at h
  exact ⟨by omega, h.1.2.2⟩

theorem rst_len (R : List (ByteArray × List ByteArray)) (nm : ByteArray) (l : List ByteArray) : (rst R nm l).1.length ≤ R.length + l.length := by
  suffices h : ∀ (l : List ByteArray) (st : List (ByteArray × List ByteArray) × List ByteArray × Bool), (l.foldl (rstep nm) st).1.length ≤ st.1.length + l.length from h l _
  intro l
  induction l with
  | nil => intro st; simp
  | cons x r ih =>
    intro st
    have h1 := ih (rstep nm st x)
    have h2 : (rstep nm st x).1.length ≤ st.1.length + 1 := by unfold rstep; split <;> simp
    simp only [List.foldl_cons, List.length_cons]
    omega

/-- How many there are at most. -/
def GrLe (G : Gr) (k : Nat) : Prop := G.toks.length ≤ k ∧ G.swps.length ≤ k ∧ G.names.length ≤ k ∧ G.rules.length ≤ k

theorem GrLe.give {G : Gr} {l : List ByteArray} {k : Nat} (h : GrLe G k) (hl : isLineB l = true) : GrLe (giveB G l).1 (k + max 1 (l.length - 2)) := by
  obtain ⟨h1, h2, h3, h4⟩ := h
  unfold giveB
  by_cases ht : ((nth l 0).toList == [116, 111, 107, 101, 110]) = true
  · rw [if_pos ht]
    split
    · exact ⟨by simp only; omega, by simp only; omega, by simp only; omega, by simp only; omega⟩
    · exact ⟨by simp; omega, by simp only; omega, by simp only; omega, by simp only; omega⟩
  rw [if_neg ht]
  by_cases hw : ((nth l 0).toList == [115, 119, 97, 112]) = true
  · rw [if_pos hw]
    exact ⟨by simp only; omega, by simp; omega, by simp only; omega, by simp only; omega⟩
  rw [if_neg hw]
  by_cases hr : ((nth l 0).toList == [114, 117, 108, 101]) = true
  · rw [if_pos hr]
    split
    · exact ⟨by simp only; omega, by simp only; omega, by simp only; omega, by simp only; omega⟩
    · have h5 := line_rule hl (by simpa using ht) (by simpa using hw) hr
      have h6 := rst_len G.rules (nth l 1) (l.drop 3)
      rw [List.length_drop] at h6
      exact ⟨by simp only; omega, by simp only; omega, by simp; omega, by simp; omega⟩
  · rw [if_neg hr]; exact ⟨by simp only; omega, by simp only; omega, by simp only; omega, by simp only; omega⟩

/-- The lines from a place on, up to the first that is none, and where that one begins. -/
def scan (s : ByteArray) : Nat → Nat → List (Nat × List ByteArray) × Nat
  | 0, a => ([], a)
  | f + 1, a =>
    if a < s.size then
      (if (lineB s a).2 = 0 ∨ isLineB (wordsB (lineB s a).1) = false then ([], a)
       else ((a, wordsB (lineB s a).1) :: (scan s f (lineB s a).2.toNat).1, (scan s f (lineB s a).2.toNat).2))
    else ([], a)

theorem lineB_next_gt {s : ByteArray} {a : Nat} (h : ¬ (lineB s a).2 = 0) : a + (lineB s a).1.size + 1 = (lineB s a).2.toNat ∧ (lineB s a).2.toNat ≤ s.size ∧ 0 ≤ (lineB s a).2 := by
  unfold lineB at h ⊢
  split at h
  · rename_i j hj
    simp only
    have h1 := (List.findIdx?_eq_some_iff_getElem.1 hj).1
    simp at h1
    refine ⟨?_, by omega, by omega⟩
    simp [ByteArray.size_extract]
    omega
  · simp at h

theorem scan_fuel (s : ByteArray) : ∀ (f f' a : Nat), s.size - a ≤ f → s.size - a ≤ f' → scan s f a = scan s f' a := by
  intro f
  induction f with
  | zero =>
    intro f' a h h'
    have : ¬ a < s.size := by omega
    cases f' with
    | zero => rfl
    | succ f' => simp [scan, this]
  | succ f ih =>
    intro f' a h h'
    by_cases ha : a < s.size
    · cases f' with
      | zero => omega
      | succ f' =>
        simp only [scan, if_pos ha]
        by_cases hb : (lineB s a).2 = 0 ∨ isLineB (wordsB (lineB s a).1) = false
        · rw [if_pos hb, if_pos hb]
        · rw [if_neg hb, if_neg hb]
          have h0 : ¬ (lineB s a).2 = 0 := fun e => hb (.inl e)
          have h1 := lineB_next_gt h0
          rw [ih f' (lineB s a).2.toNat (by omega) (by omega)]
    · cases f' with
      | zero => simp [scan, ha]
      | succ f' => simp [scan, ha]

def scanA (s : ByteArray) (a : Nat) : List (Nat × List ByteArray) × Nat := scan s (s.size - a) a

theorem scanA_end {s : ByteArray} {a : Nat} (h : ¬ a < s.size) : scanA s a = ([], a) := by
  unfold scanA
  have : s.size - a = 0 := by omega
  rw [this]; rfl

theorem scanA_bad {s : ByteArray} {a : Nat} (h : a < s.size) (hb : (lineB s a).2 = 0 ∨ isLineB (wordsB (lineB s a).1) = false) : scanA s a = ([], a) := by
  unfold scanA
  obtain ⟨f, hf⟩ : ∃ f, s.size - a = f + 1 := ⟨s.size - a - 1, by omega⟩
  rw [hf]
  simp only [scan, if_pos h, if_pos hb]

theorem scanA_line {s : ByteArray} {a : Nat} (h : a < s.size) (h0 : ¬ (lineB s a).2 = 0) (hb : isLineB (wordsB (lineB s a).1) = true) :
    scanA s a = ((a, wordsB (lineB s a).1) :: (scanA s (lineB s a).2.toNat).1, (scanA s (lineB s a).2.toNat).2) := by
  have h1 := lineB_next_gt h0
  unfold scanA
  obtain ⟨f, hf⟩ : ∃ f, s.size - a = f + 1 := ⟨s.size - a - 1, by omega⟩
  rw [hf]
  have h2 : ¬ ((lineB s a).2 = 0 ∨ isLineB (wordsB (lineB s a).1) = false) := by
    rw [hb]; simp [h0]
  simp only [scan, if_pos h, if_neg h2]
  rw [scan_fuel s f (s.size - (lineB s a).2.toNat) _ (by omega) (Nat.le_refl _)]

theorem scanA_le (s : ByteArray) : ∀ (n a : Nat), s.size - a ≤ n → a ≤ s.size → a ≤ (scanA s a).2 ∧ (scanA s a).2 ≤ s.size := by
  intro n
  induction n with
  | zero => intro a h h'; rw [scanA_end (by omega)]; exact ⟨Nat.le_refl _, h'⟩
  | succ n ih =>
    intro a h h'
    by_cases ha : a < s.size
    · by_cases hb : (lineB s a).2 = 0 ∨ isLineB (wordsB (lineB s a).1) = false
      · rw [scanA_bad ha hb]; exact ⟨Nat.le_refl _, h'⟩
      · have h0 : ¬ (lineB s a).2 = 0 := fun e => hb (.inl e)
        have h1 : isLineB (wordsB (lineB s a).1) = true := by
          cases hq : isLineB (wordsB (lineB s a).1) with
          | true => rfl
          | false => exact absurd (.inr hq) hb
        have h2 := lineB_next_gt h0
        rw [scanA_line ha h0 h1]
        have := ih (lineB s a).2.toNat (by omega) h2.2.1
        simp only
        omega
    · rw [scanA_end ha]; exact ⟨Nat.le_refl _, h'⟩

/-- Read's second walk: what the lines give; the first line with too many; the first that gives what was given. -/
def pass2 : List (Nat × List ByteArray) → Gr → Int → Gr × Int × Option Nat
  | [], G, m => (G, m, none)
  | x :: r, G, m => if (giveB G x.2).2 = 3 then (G, m, some x.1) else pass2 r (giveB G x.2).1 (if (giveB G x.2).2 = 4 ∧ m < 0 then x.1 else m)

def G0 : Gr := { toks := [], swps := [], names := [], rules := [] }

/-- darnref.Read: the error, the place, the grammar. -/
def readB (s : ByteArray) : Int × Int × Gr :=
  if 4000 < s.size then (1, 0, G0)
  else if (scanA s 0).2 < s.size then (2, (scanA s 0).2, G0)
  else match pass2 (scanA s 0).1 G0 (-1) with
    | (_, _, some a) => (3, a, G0)
    | (G, m, none) =>
      if 0 ≤ m then (4, m, G0)
      else if G.names.length = 0 then (4, s.size, G0)
      else match (scanA s 0).1.find? fun x => unknownB G x.2 with
        | some x => (5, x.1, G0)
        | none => (0, 0, G)

end Go.Proofs.YtjjggdcnpndgjaaGreatDoor

namespace Go.Proofs.YtjjggdcnpndgjaaGreatDoor
open Go.RowKit

set_option linter.unusedSimpArgs false in
set_option maxHeartbeats 1000000 in
set_option maxRecDepth 100000 in
theorem give_rule (l : List ByteArray) (g n cap : Nat) (G : Gr) (w : World) (B gb : Nat) (vT vS vN vR : Value) (pv : List Value) (hV : GrV w B gb G vT vS vN vR pv)
    (hn1 : G.toks.length ≤ 100000) (hn2 : G.names.length ≤ 100000) (hn3 : G.rules.length ≤ 100000) (hB : B ≤ w.heap.size)
    (hl : l.length = n) (hn : 3 ≤ n) (hnb : n ≤ 4001) (hc : StrsAt w g 0 l) (ht0 : ((nth l 0).toList == [116, 111, 107, 101, 110]) = false) (ht1 : ((nth l 0).toList == [115, 119, 97, 112]) = false) (ht : ((nth l 0).toList == [114, 117, 108, 101]) = true)
    (hno : hasNam G.names (nth l 1) = false) (hgne : g ≠ gb) (hgN : vN.ownBlock ≠ some g) (hgR : vR.ownBlock ≠ some g) :
    Calls Tryz.prog 122 #[.pointer (some ⟨gb, 0, none⟩), .slice (some ⟨g, 0, none⟩) n cap] w fun e w' => 
      e = .returned (.int .i64 (totI { G with names := G.names ++ [nth l 1], rules := (rst G.rules (nth l 1) (l.drop 3)).1 ++ [(nth l 1, (rst G.rules (nth l 1) (l.drop 3)).2.1)] } (rst G.rules (nth l 1) (l.drop 3)).2.2)) ∧
        GrAt w' B gb { G with names := G.names ++ [nth l 1], rules := (rst G.rules (nth l 1) (l.drop 3)).1 ++ [(nth l 1, (rst G.rules (nth l 1) (l.drop 3)).2.1)] } ∧ Below B w w' := by
  obtain ⟨i0, hi, hz0, hz1, hz2⟩ := info_parts Tryz.info9
  obtain ⟨j0, hj, hy0, hy1, hy2⟩ := info_parts Tryz.info172
  have c0 : w.cell? ⟨g, 0, none⟩ = some (.string (nth l 0)) := by simpa using hc.2 0 (by omega)
  have c1 : w.cell? ⟨g, 1, none⟩ = some (.string (nth l 1)) := by simpa using hc.2 1 (by omega)
  have hG : GrAt w B gb G := ⟨_, _, _, _, _, hV⟩
  have d0 := hV.cells.2.2.1
  have hgl := hc.1
  have hbl := lt_of_block hV.blk
  have fT : some g ≠ vN.ownBlock := fun e => hgN e.symm
  have fB : some gb ≠ vN.ownBlock := fun e => hV.off.2.2.1 gb e.symm rfl
  have hfr0 : w.frozen? ⟨gb, 2, none⟩ = false := block_free hV.blk
  have hfo : ∀ o, (w.alloc o).frozen? ⟨gb, 2, none⟩ = false := fun o => (((Below.refl w.heap.size w).alloc (Nat.le_refl _) o).frozen (by exact lt_of_block hV.blk)).trans hfr0
  have hT := hV.names
  have hnI : (1 : Int) < (n : Int) := by omega
  go_enter Tryz.func122, Tryz.ntmps122
  go_wp2_with (go_at_call 180; refine (hasName_any _ G _ B gb ?_ ?_).mono ?_; assumption; omega; rintro e w' ⟨rfl, rfl⟩; rw [hno])
  refine wp_region_last (fun w' => w'.cell? ⟨g, 1, none⟩ = some (.string (nth l 1)) ∧ w'.cell? ⟨gb, 2, none⟩ = some vN) (by kernel_rfl) (by kernel_rfl) ?_ (fun hHeld => ?_)
  · go_keep
  simp only [cutLast, idle, lastOf]
  refine tkA 0 ?vv50 rfl ?hy50 hHeld ?_
  case hy50 => (intro w hSw; (try dsimp only at hSw); first | (go_simp; done) | (go_simp; with_reducible rfl))
  try simp only [zA, zB, zC, Act.put, zD, zE, zF]
  refine tkA 1 ?vv51 rfl ?hy51 hHeld ?_
  case hy51 => (intro w hSw; (try dsimp only at hSw); first | (go_simp; done) | (go_simp; with_reducible rfl))
  try simp only [zA, zB, zC, Act.put, zD, zE, zF]
  refine tkA 2 ?vv52 rfl ?hy52 hHeld ?_
  case hy52 => (intro w hSw; (try dsimp only at hSw); first | (go_simp; done) | (go_simp; with_reducible rfl))
  try simp only [zA, zB, zC, Act.put, zD, zE, zF]
  refine tkA 3 ?vv53 rfl ?hy53 hHeld ?_
  case hy53 => (intro w hSw; (try dsimp only at hSw); first | (go_simp; done) | (go_simp; with_reducible rfl))
  try simp only [zA, zB, zC, Act.put, zD, zE, zF]
  refine tkA 4 ?vv54 rfl ?hy54 hHeld ?_
  case hy54 => (intro w hSw; (try dsimp only at hSw); first | (go_simp; done) | (go_simp; with_reducible rfl))
  try simp only [zA, zB, zC, Act.put, zD, zE, zF]
  refine tkA 5 ?vv55 rfl ?hy55 hHeld ?_
  case hy55 => (intro w hSw; (try dsimp only at hSw); first | (go_simp; done) | (go_simp; with_reducible rfl))
  try simp only [zA, zB, zC, Act.put, zD, zE, zF]
  refine tkA 6 ?vv56 rfl ?hy56 hHeld ?_
  case hy56 => (intro w hSw; (try dsimp only at hSw); first | (go_simp; done) | (go_simp; with_reducible rfl))
  try simp only [zA, zB, zC, Act.put, zD, zE, zF]
  refine tkA 7 ?vv57 rfl ?hy57 hHeld ?_
  case hy57 => (intro w hSw; (try dsimp only at hSw); first | (go_simp; done) | (go_simp; with_reducible rfl))
  try simp only [zA, zB, zC, Act.put, zD, zE, zF]
  refine wpAnyH_ready (rs := [8]) (by kernel_rfl) (by simp) ?_
  refine AllReadyH.cons rfl (fun K hK => ?_) AllReadyH.nil
  try simp only [zA, zB, zC]
  go_simp
  refine hK.out _ _ ?_ (fun hHeld => ?_)
  · go_keep
  clear hK K
  try simp only [zA, zB, zC, Act.put, zD, zE, zF]
  refine wpAnyH_ready (rs := [9]) (by kernel_rfl) (by simp) ?_
  refine AllReadyH.cons rfl (fun K hK => ?_) AllReadyH.nil
  try simp only [zA, zB, zC]
  rw [if_pos (by rfl)]; refine wp_append_lies _ (.tmp 72) (.tmp 76) 39 rfl B 9 i0 (.string ByteArray.empty) 1 16 Tryz.underlying39 hi hz0 hz1 hz2 rfl (by decide) vN _ _ rfl (hT.alloc _) ⟨w.heap.size, 0, none⟩ 1 1 [.string (nth l 1)] rfl rfl (World.news_of_block (fr := (0, 0)) (heap_alloc_new w _)) (by simp [Value.oneCell']) (by omega) (by unfold maxLen; omega) (by omega) (by simp; omega) _ rfl ?_; intro g' cap' w1 hown hgrow hat hlt
  refine hK.out _ _ ?_ (fun hHeld => ?_)
  · exact ⟨(hgrow.cell_far _ (by simp; omega) (by exact fT)).trans hHeld.1, (hgrow.cell_far _ (by simp; omega) (by exact fB)).trans hHeld.2⟩
  clear hK K
  try simp only [zA, zB, zC, Act.put, zD, zE, zF]
  refine tkA 10 ?vv58 rfl ?hy58 hHeld ?_
  case hy58 => (intro w hSw; (try dsimp only at hSw); first | (go_simp; done) | (go_simp; with_reducible rfl))
  try simp only [zA, zB, zC, Act.put, zD, zE, zF]
  refine tkA 11 ?vv59 rfl ?hy59 hHeld ?_
  case hy59 => (intro w hSw; (try dsimp only at hSw); first | (go_simp; done) | (go_simp; with_reducible rfl))
  try simp only [zA, zB, zC, Act.put, zD, zE, zF]
  refine tkA 12 ?vv60 rfl ?hy60 hHeld ?_
  case hy60 => (intro w hSw; (try dsimp only at hSw); first | (go_simp; done) | (go_simp; with_reducible rfl))
  try simp only [zA, zB, zC, Act.put, zD, zE, zF]
  refine wpAnyH_done (by kernel_rfl) ?_ _
  have HS := hHeld.2
  have hfr : w1.frozen? ⟨gb, 2, none⟩ = false := (hgrow.frozen_far _ (by simp; omega) (by exact fB)).trans (by exact hfo _)
  show wpList _ _ _ _ _ _
  have c1' := hHeld.1
  have hkeep := ((Keeps.refl w vN.ownBlock.toList).alloc (Obj.cells #[.string (nth l 1)] 9)).drew.grown hgrow (fun k hk => .inl (by rw [hk]; simp))
  have hV2 := hV.addName (x := nth l 1) hkeep (by rcases hat with e | e; exact .inl e.symm; exact .inr ⟨g', rfl, by rw [e]; simp⟩) hown
  have hk2 := (hkeep.mono (fun k hm => show k ∈ gb :: vN.ownBlock.toList by simp only [List.mem_cons]; exact .inr hm)).setCell (p := ⟨gb, 2, none⟩) (by simp) (.slice (some ⟨g', 0, none⟩) (G.names.length + 1) cap')
  have hline := hc.keeps hk2 (by simp only [List.mem_cons, not_or]; exact ⟨hgne, fun hm => hgN (mem_own hm)⟩)
  have hR0 := RV.start (nth l 1) hV2 hline hgR (fun e => hgne e.symm) (by have := hk2.size; omega)
  have hbel : Below B w _ := (hk2.alloc (Obj.cells #[.string (nth l 1), .slice none 0 0] 172)).below hB (fun k hm => by
    simp only [List.mem_cons] at hm
    rcases hm with hm | hm
    · rw [hm]; exact hV.hb
    · exact own_ge hT k hm)
  have HR : Hid _ := hid hR0
  have HB : Hid _ := hid hbel
  have hrb : w1.heap.size = (w1.setCell ⟨gb, 2, none⟩ (.slice (some ⟨g', 0, none⟩) (G.names.length + 1) cap')).heap.size := by simp [World.setCell]
  have HE : Hid (w1.heap.size = (w1.setCell ⟨gb, 2, none⟩ (.slice (some ⟨g', 0, none⟩) (G.names.length + 1) cap')).heap.size) := hid hrb
  clear hR0 hbel hrb hline hk2 hV2 hkeep hown hgrow hat
  go_wp2
  obtain ⟨rb, hrb⟩ : ∃ rb, rb = w1.heap.size := ⟨_, rfl⟩
  rw [← hrb] at HE ⊢
  rw [← HE.out] at HR
  clear hrb
  go_loopw [5, 7] (fun e i wr => ∃ (k : Nat) (R : List (ByteArray × List ByteArray)) (cur : List ByteArray) (bad : Bool), 3 ≤ k ∧ k ≤ n ∧ i = .int .i64 k ∧ e = .int .i64 (errOf bad) ∧
      Hid (rst G.rules (nth l 1) ((l.take k).drop 3) = (R, cur, bad)) ∧ Hid (RInv wr B gb rb g { G with names := G.names ++ [nth l 1] } l (nth l 1) R cur) ∧ Hid (Below B w wr) ∧ R.length ≤ 100000 + k ∧ cur.length ≤ k)
    (fun _ i _ => n - (intOf i).toNat)
  case atStart => exact ⟨3, G.rules, [], false, Nat.le_refl _, by omega, rfl, rfl, by show _ = _; rw [show (l.take 3).drop 3 = [] by simp]; rfl, ⟨_, _, _, _, _, _, HR.out⟩, HB.out, by omega, by simp⟩
  case round =>
    obtain ⟨k, R, cur, bad, hk3, hk, rfl, rfl, hst, hR, hbr, hRl, hcl⟩ := hrel
    clear HR HB HE hV hG hc hT c0 c1 c1' d0 hHeld HS hfr hfr0 hfo hbl hgl
    obtain ⟨aT, aS, aN, aR, pw, vP, hV⟩ := hR.out
    have hsz := hbr.out.size
    by_cases hlt : k < n
    · have ck : wr.cell? ⟨g, k, none⟩ = some (.string (nth l k)) := by simpa using hV.line.2 k (by omega)
      have c1 : wr.cell? ⟨g, 1, none⟩ = some (.string (nth l 1)) := by simpa using hV.line.2 1 (by omega)
      have cR : wr.cell? ⟨gb, 3, none⟩ = some aR := hV.gr.cells.2.2.2
      have cr0 : wr.cell? ⟨rb, 0, none⟩ = some (.string (nth l 1)) := by simpa using block_cell hV.blk (j := 0)
      have cr1 : wr.cell? ⟨rb, 1, none⟩ = some vP := by simpa using block_cell hV.blk (j := 1)
      have f3 : wr.frozen? ⟨gb, 3, none⟩ = false := block_free hV.gr.blk
      have fr1 : wr.frozen? ⟨rb, 1, none⟩ = false := block_free hV.blk
      have fr0 : wr.frozen? ⟨rb, 0, none⟩ = false := block_free hV.blk
      obtain ⟨x, hx⟩ : ∃ x, x = nth l k := ⟨_, rfl⟩
      rw [← hx] at ck
      have HX : Hid (x = nth l k) := hx
      have HN : Hid (rst G.rules (nth l 1) ((l.take (k + 1)).drop 3) = rstep (nth l 1) (R, cur, bad) x) := hid (by rw [rst_next hk3 (by omega), hst.out, hx])
      clear hx
      obtain ⟨aP, kP, hvP⟩ := own_slice hV.part.1
      have hkI : ((k : Nat) : Int) < (n : Int) := by omega
      have hgl := hV.line.1
      have hrl := lt_of_block hV.blk
      have hbl := lt_of_block hV.gr.blk
      have hBw : B ≤ wr.heap.size := by omega
      have pg : some g ≠ vP.ownBlock := fun e => hV.pg e.symm
      have pr : some rb ≠ vP.ownBlock := fun e => hV.rows.2.2.2.2.2 rb e.symm rfl
      have rg : some g ≠ aR.ownBlock := fun e => hV.rg e.symm
      have rr : some rb ≠ aR.ownBlock := fun e => hV.vr e.symm
      have rgb : some gb ≠ aR.ownBlock := fun e => hV.gr.off.2.2.2 gb e.symm rfl
      have Hbr := hbr
      have hP := hV.part.1
      have hRR : wr.ownsRow B 172 2 aR R.length (ruleCells R pw) := hV.gr.rules
      have HV : Hid _ := hid hV
      subst hvP
      cases hbar : (x.toList == [124])
      · have hstep : rstep (nth l 1) (R, cur, bad) x = (R, cur ++ [x], bad || decide (8 < cur.length + 1)) := by unfold rstep barB; rw [hbar]; rfl
        have HN2 : Hid _ := hid (HN.out.trans hstep)
        clear HN hstep
        go_wp2
        refine wp_region_last (fun w' => w'.cell? ⟨rb, 1, none⟩ = some (.slice aP cur.length kP) ∧ w'.cell? ⟨g, k, none⟩ = some (.string x)) (by kernel_rfl) (by kernel_rfl) ?_ (fun hHeld => ?_)
        · go_keep
        simp only [cutLast, idle, lastOf]
        refine tkA 0 ?vv61 rfl ?hy61 hHeld ?_
        case hy61 => (intro w hSw; (try dsimp only at hSw); first | (go_simp; done) | (go_simp; with_reducible rfl))
        try simp only [zA, zB, zC, Act.put, zD, zE, zF]
        refine tkA 1 ?vv62 rfl ?hy62 hHeld ?_
        case hy62 => (intro w hSw; (try dsimp only at hSw); first | (go_simp; done) | (go_simp; with_reducible rfl))
        try simp only [zA, zB, zC, Act.put, zD, zE, zF]
        refine tkA 2 ?vv63 rfl ?hy63 hHeld ?_
        case hy63 => (intro w hSw; (try dsimp only at hSw); first | (go_simp; done) | (go_simp; with_reducible rfl))
        try simp only [zA, zB, zC, Act.put, zD, zE, zF]
        refine tkA 3 ?vv64 rfl ?hy64 hHeld ?_
        case hy64 => (intro w hSw; (try dsimp only at hSw); first | (go_simp; done) | (go_simp; with_reducible rfl))
        try simp only [zA, zB, zC, Act.put, zD, zE, zF]
        refine tkA 4 ?vv65 rfl ?hy65 hHeld ?_
        case hy65 => (intro w hSw; (try dsimp only at hSw); first | (go_simp; done) | (go_simp; with_reducible rfl))
        try simp only [zA, zB, zC, Act.put, zD, zE, zF]
        refine tkA 5 ?vv66 rfl ?hy66 hHeld ?_
        case hy66 => (intro w hSw; (try dsimp only at hSw); first | (go_simp; done) | (go_simp; with_reducible rfl))
        try simp only [zA, zB, zC, Act.put, zD, zE, zF]
        refine wpAnyH_ready (rs := [6]) (by kernel_rfl) (by simp) ?_
        refine AllReadyH.cons rfl (fun K hK => ?_) AllReadyH.nil
        try simp only [zA, zB, zC]
        go_simp
        refine hK.out _ _ ?_ (fun hHeld => ?_)
        · go_keep
        clear hK K
        try simp only [zA, zB, zC, Act.put, zD, zE, zF]
        refine wpAnyH_ready (rs := [7]) (by kernel_rfl) (by simp) ?_
        refine AllReadyH.cons rfl (fun K hK => ?_) AllReadyH.nil
        try simp only [zA, zB, zC]
        rw [if_pos (by rfl)]; refine wp_append_lies _ (.tmp 110) (.tmp 115) 39 rfl B 9 i0 (.string ByteArray.empty) 1 16 Tryz.underlying39 hi hz0 hz1 hz2 rfl (by decide) (.slice aP cur.length kP) _ _ rfl (hP.alloc _) ⟨wr.heap.size, 0, none⟩ 1 1 [.string x] rfl rfl (World.news_of_block (fr := (0, 0)) (heap_alloc_new wr _)) (by simp [Value.oneCell']) (by omega) (by unfold maxLen; omega) (by omega) (by simp; omega) _ rfl ?_; intro g2 cap2 w2 hown hgrow hat hlt2
        refine hK.out _ _ ?_ (fun hHeld => ?_)
        · exact ⟨(hgrow.cell_far _ (by simp; omega) (by exact pr)).trans hHeld.1, (hgrow.cell_far _ (by simp; omega) (by exact pg)).trans hHeld.2⟩
        clear hK K
        try simp only [zA, zB, zC, Act.put, zD, zE, zF]
        refine tkA 8 ?vv67 rfl ?hy67 hHeld ?_
        case hy67 => (intro w hSw; (try dsimp only at hSw); first | (go_simp; done) | (go_simp; with_reducible rfl))
        try simp only [zA, zB, zC, Act.put, zD, zE, zF]
        refine tkA 9 ?vv68 rfl ?hy68 hHeld ?_
        case hy68 => (intro w hSw; (try dsimp only at hSw); first | (go_simp; done) | (go_simp; with_reducible rfl))
        try simp only [zA, zB, zC, Act.put, zD, zE, zF]
        refine wpAnyH_done (by kernel_rfl) ?_ _
        have HS := hHeld.1
        have hfr : w2.frozen? ⟨rb, 1, none⟩ = false := (hgrow.frozen_far _ (by simp; omega) (by exact pr)).trans ((((Below.refl wr.heap.size wr).alloc (Nat.le_refl _) _).drew.frozen (by exact hrl)).trans fr1)
        show wpList _ _ _ _ _ _
        have hkeep := ((Keeps.refl wr (Value.slice aP cur.length kP).ownBlock.toList).alloc (Obj.cells #[.string x] 9)).drew.grown hgrow (fun k hk => .inl (by rw [hk]; simp))
        have hend := HV.out.add (x := x) hkeep rfl (by rcases hat with e | e; exact .inl e; exact .inr (by rw [e]; simp)) hown
        have hbel := Hbr.out.trans ((hkeep.below hBw (own_ge hP)).setCell (p := ⟨rb, 1, none⟩) (by exact HV.out.hb) (.slice (some ⟨g2, 0, none⟩) (cur.length + 1) cap2))
        have HE2 : Hid _ := hid hend
        have HB2 : Hid _ := hid hbel
        clear hend hbel hkeep hown hgrow hat hHeld hbr hV hP hRR
        go_wp2
        · go_roundw
          case rel => exact ⟨k + 1, R, cur ++ [x], bad || decide (8 < cur.length + 1), by omega, by omega, by go_num, by rw [show (bad || decide (8 < cur.length + 1)) = true by rw [decide_eq_true (by omega)]; simp]; rfl, HN2, ⟨_, _, _, _, _, _, HE2.out⟩, HB2.out, by omega, by simp; omega⟩
          case measure => simp [intOf]; omega
        · go_roundw
          case rel => exact ⟨k + 1, R, cur ++ [x], bad || decide (8 < cur.length + 1), by omega, by omega, by go_num, by rw [show (bad || decide (8 < cur.length + 1)) = bad by rw [decide_eq_false (by omega)]; simp], HN2, ⟨_, _, _, _, _, _, HE2.out⟩, HB2.out, by omega, by simp; omega⟩
          case measure => simp [intOf]; omega
      · have hstep : rstep (nth l 1) (R, cur, bad) x = (R ++ [(nth l 1, cur)], [], bad) := by unfold rstep barB; rw [hbar]; rfl
        have HN2 : Hid _ := hid (HN.out.trans hstep)
        clear HN hstep
        go_wp2
        refine wp_region_last (fun w' => w'.cell? ⟨gb, 3, none⟩ = some aR ∧ w'.cell? ⟨rb, 0, none⟩ = some (.string (nth l 1)) ∧ w'.cell? ⟨rb, 1, none⟩ = some (.slice aP cur.length kP) ∧ w'.cell? ⟨g, 1, none⟩ = some (.string (nth l 1))) (by kernel_rfl) (by kernel_rfl) ?_ (fun hHeld => ?_)
        · go_keep
        simp only [cutLast, idle, lastOf]
        refine tkA 0 ?vv69 rfl ?hy69 hHeld ?_
        case hy69 => (intro w hSw; (try dsimp only at hSw); first | (go_simp; done) | (go_simp; with_reducible rfl))
        try simp only [zA, zB, zC, Act.put, zD, zE, zF]
        refine tkA 1 ?vv70 rfl ?hy70 hHeld ?_
        case hy70 => (intro w hSw; (try dsimp only at hSw); first | (go_simp; done) | (go_simp; with_reducible rfl))
        try simp only [zA, zB, zC, Act.put, zD, zE, zF]
        refine tkA 2 ?vv71 rfl ?hy71 hHeld ?_
        case hy71 => (intro w hSw; (try dsimp only at hSw); first | (go_simp; done) | (go_simp; with_reducible rfl))
        try simp only [zA, zB, zC, Act.put, zD, zE, zF]
        refine tkA 3 ?vv72 rfl ?hy72 hHeld ?_
        case hy72 => (intro w hSw; (try dsimp only at hSw); first | (go_simp; done) | (go_simp; with_reducible rfl))
        try simp only [zA, zB, zC, Act.put, zD, zE, zF]
        refine tkA 4 ?vv73 rfl ?hy73 hHeld ?_
        case hy73 => (intro w hSw; (try dsimp only at hSw); first | (go_simp; done) | (go_simp; with_reducible rfl))
        try simp only [zA, zB, zC, Act.put, zD, zE, zF]
        refine tkA 5 ?vv74 rfl ?hy74 hHeld ?_
        case hy74 => (intro w hSw; (try dsimp only at hSw); first | (go_simp; done) | (go_simp; with_reducible rfl))
        try simp only [zA, zB, zC, Act.put, zD, zE, zF]
        refine wpAnyH_ready (rs := [6]) (by kernel_rfl) (by simp) ?_
        refine AllReadyH.cons rfl (fun K hK => ?_) AllReadyH.nil
        try simp only [zA, zB, zC]
        go_simp
        refine hK.out _ _ ?_ (fun hHeld => ?_)
        · go_keep
        clear hK K
        try simp only [zA, zB, zC, Act.put, zD, zE, zF]
        refine wpAnyH_ready (rs := [7]) (by kernel_rfl) (by simp) ?_
        refine AllReadyH.cons rfl (fun K hK => ?_) AllReadyH.nil
        try simp only [zA, zB, zC]
        rw [if_pos (by rfl)]; refine wp_append_lies _ (.tmp 99) (.tmp 101) 158 rfl B 172 j0 (.agg #[.string ByteArray.empty, .slice none 0 0]) 2 40 Tryz.underlying158 hj hy0 hy1 hy2 rfl (by decide) aR _ _ rfl (hRR.alloc _) ⟨wr.heap.size, 0, none⟩ 1 1 [.string (nth l 1), .slice aP cur.length kP] rfl rfl (World.news_of_block (fr := (0, 0)) (heap_alloc_new wr _)) (by simp [Value.oneCell']) (by omega) (by unfold maxLen; omega) (by omega) (by simp; omega) _ rfl ?_; intro g2 cap2 w2 hown hgrow hat hlt2
        refine hK.out _ _ ?_ (fun hHeld => ?_)
        · exact ⟨(hgrow.cell_far _ (by simp; omega) (by exact rgb)).trans hHeld.1, (hgrow.cell_far _ (by simp; omega) (by exact rr)).trans hHeld.2.1, (hgrow.cell_far _ (by simp; omega) (by exact rr)).trans hHeld.2.2.1, (hgrow.cell_far _ (by simp; omega) (by exact rg)).trans hHeld.2.2.2⟩
        clear hK K
        try simp only [zA, zB, zC, Act.put, zD, zE, zF]
        refine tkA 8 ?vv75 rfl ?hy75 hHeld ?_
        case hy75 => (intro w hSw; (try dsimp only at hSw); first | (go_simp; done) | (go_simp; with_reducible rfl))
        try simp only [zA, zB, zC, Act.put, zD, zE, zF]
        refine tkA 9 ?vv76 rfl ?hy76 hHeld ?_
        case hy76 => (intro w hSw; (try dsimp only at hSw); first | (go_simp; done) | (go_simp; with_reducible rfl))
        try simp only [zA, zB, zC, Act.put, zD, zE, zF]
        refine tkA 10 ?vv77 rfl ?hy77 hHeld ?_
        case hy77 => (intro w hSw; (try dsimp only at hSw); first | (go_simp; done) | (go_simp; with_reducible rfl))
        try simp only [zA, zB, zC, Act.put, zD, zE, zF]
        refine wpAnyH_done (by kernel_rfl) ?_ _
        obtain ⟨q3, q0, q1, qg⟩ := hHeld
        have hfr : w2.frozen? ⟨gb, 3, none⟩ = false := (hgrow.frozen_far _ (by simp; omega) (by exact rgb)).trans ((((Below.refl wr.heap.size wr).alloc (Nat.le_refl _) _).drew.frozen (by exact hbl)).trans f3)
        have hfr1 : w2.frozen? ⟨rb, 1, none⟩ = false := (hgrow.frozen_far _ (by simp; omega) (by exact rr)).trans ((((Below.refl wr.heap.size wr).alloc (Nat.le_refl _) _).drew.frozen (by exact hrl)).trans fr1)
        have hfr2 : w2.frozen? ⟨rb, 0, none⟩ = false := (hgrow.frozen_far _ (by simp; omega) (by exact rr)).trans ((((Below.refl wr.heap.size wr).alloc (Nat.le_refl _) _).drew.frozen (by exact hrl)).trans fr0)
        show wpList _ _ _ _ _ _
        have ngr : gb ≠ rb := HV.out.rows.1
        have ngr' : rb ≠ gb := fun e => ngr e.symm
        have ngg : g ≠ gb := fun e => HV.out.gbg e.symm
        have hkeep := ((Keeps.refl wr aR.ownBlock.toList).alloc (Obj.cells #[.string (nth l 1), .slice aP cur.length kP] 172)).drew.grown hgrow (fun k hk => .inl (by rw [hk]; simp))
        have hend := HV.out.bar hkeep rfl (by rcases hat with e | e; exact .inl e; exact .inr (by rw [e]; simp)) hown
        have hbel := Hbr.out.trans ((((hkeep.below hBw (own_ge hRR)).setCell (p := ⟨gb, 3, none⟩) (by exact HV.out.gr.hb) (.slice (some ⟨g2, 0, none⟩) (R.length + 1) cap2)).setCell (p := ⟨rb, 0, none⟩) (by exact HV.out.hb) (.string (nth l 1))).setCell (p := ⟨rb, 1, none⟩) (by exact HV.out.hb) (.slice none 0 0))
        have HE2 : Hid _ := hid hend
        have HB2 : Hid _ := hid hbel
        clear hend hbel hkeep hown hgrow hat hbr hV hP hRR
        go_wp2
        go_roundw
        case rel => exact ⟨k + 1, R ++ [(nth l 1, cur)], [], bad, by omega, by omega, by go_num, rfl, HN2, ⟨_, _, _, _, _, _, HE2.out⟩, HB2.out, by simp; omega, by simp⟩
        case measure => simp [intOf]; omega
    · have hfin : rst G.rules (nth l 1) (l.drop 3) = (R, cur, bad) := by
        rw [← hst.out, List.take_of_length_le (by omega)]
      have HF : Hid (rst G.rules (nth l 1) (l.drop 3) = (R, cur, bad)) := hid hfin
      have cR : wr.cell? ⟨gb, 3, none⟩ = some aR := hV.gr.cells.2.2.2
      have cr0 : wr.cell? ⟨rb, 0, none⟩ = some (.string (nth l 1)) := by simpa using block_cell hV.blk (j := 0)
      have cr1 : wr.cell? ⟨rb, 1, none⟩ = some vP := by simpa using block_cell hV.blk (j := 1)
      have f3 : wr.frozen? ⟨gb, 3, none⟩ = false := block_free hV.gr.blk
      obtain ⟨aP, kP, hvP⟩ := own_slice hV.part.1
      obtain ⟨bT, kT, hvT⟩ := own_slice hV.gr.toks
      obtain ⟨bN, kN, hvN⟩ := own_slice hV.gr.names
      have hrl := lt_of_block hV.blk
      have hbl := lt_of_block hV.gr.blk
      have hBw : B ≤ wr.heap.size := by omega
      have rr : some rb ≠ aR.ownBlock := fun e => hV.vr e.symm
      have rgb : some gb ≠ aR.ownBlock := fun e => hV.gr.off.2.2.2 gb e.symm rfl
      have Hbr := hbr
      have hRR : wr.ownsRow B 172 2 aR R.length (ruleCells R pw) := hV.gr.rules
      have HV : Hid _ := hid hV
      subst hvP
      subst hvT
      subst hvN
      clear hfin
      go_wp2
      refine wp_region_last (fun w' => w'.cell? ⟨gb, 3, none⟩ = some aR ∧ w'.cell? ⟨rb, 0, none⟩ = some (.string (nth l 1)) ∧ w'.cell? ⟨rb, 1, none⟩ = some (.slice aP cur.length kP)) (by kernel_rfl) (by kernel_rfl) ?_ (fun hHeld => ?_)
      · go_keep
      simp only [cutLast, idle, lastOf]
      refine tkA 0 ?vv78 rfl ?hy78 hHeld ?_
      case hy78 => (intro w hSw; (try dsimp only at hSw); first | (go_simp; done) | (go_simp; with_reducible rfl))
      try simp only [zA, zB, zC, Act.put, zD, zE, zF]
      refine tkA 1 ?vv79 rfl ?hy79 hHeld ?_
      case hy79 => (intro w hSw; (try dsimp only at hSw); first | (go_simp; done) | (go_simp; with_reducible rfl))
      try simp only [zA, zB, zC, Act.put, zD, zE, zF]
      refine tkA 2 ?vv80 rfl ?hy80 hHeld ?_
      case hy80 => (intro w hSw; (try dsimp only at hSw); first | (go_simp; done) | (go_simp; with_reducible rfl))
      try simp only [zA, zB, zC, Act.put, zD, zE, zF]
      refine tkA 3 ?vv81 rfl ?hy81 hHeld ?_
      case hy81 => (intro w hSw; (try dsimp only at hSw); first | (go_simp; done) | (go_simp; with_reducible rfl))
      try simp only [zA, zB, zC, Act.put, zD, zE, zF]
      refine tkA 4 ?vv82 rfl ?hy82 hHeld ?_
      case hy82 => (intro w hSw; (try dsimp only at hSw); first | (go_simp; done) | (go_simp; with_reducible rfl))
      try simp only [zA, zB, zC, Act.put, zD, zE, zF]
      refine tkA 5 ?vv83 rfl ?hy83 hHeld ?_
      case hy83 => (intro w hSw; (try dsimp only at hSw); first | (go_simp; done) | (go_simp; with_reducible rfl))
      try simp only [zA, zB, zC, Act.put, zD, zE, zF]
      refine wpAnyH_ready (rs := [6]) (by kernel_rfl) (by simp) ?_
      refine AllReadyH.cons rfl (fun K hK => ?_) AllReadyH.nil
      try simp only [zA, zB, zC]
      go_simp
      refine hK.out _ _ ?_ (fun hHeld => ?_)
      · go_keep
      clear hK K
      try simp only [zA, zB, zC, Act.put, zD, zE, zF]
      refine wpAnyH_ready (rs := [7]) (by kernel_rfl) (by simp) ?_
      refine AllReadyH.cons rfl (fun K hK => ?_) AllReadyH.nil
      try simp only [zA, zB, zC]
      rw [if_pos (by rfl)]; refine wp_append_lies _ (.tmp 126) (.tmp 128) 158 rfl B 172 j0 (.agg #[.string ByteArray.empty, .slice none 0 0]) 2 40 Tryz.underlying158 hj hy0 hy1 hy2 rfl (by decide) aR _ _ rfl (hRR.alloc _) ⟨wr.heap.size, 0, none⟩ 1 1 [.string (nth l 1), .slice aP cur.length kP] rfl rfl (World.news_of_block (fr := (0, 0)) (heap_alloc_new wr _)) (by simp [Value.oneCell']) (by omega) (by unfold maxLen; omega) (by omega) (by simp; omega) _ rfl ?_; intro g2 cap2 w2 hown hgrow hat hlt2
      refine hK.out _ _ ?_ (fun hHeld => ?_)
      · exact ⟨(hgrow.cell_far _ (by simp; omega) (by exact rgb)).trans hHeld.1, (hgrow.cell_far _ (by simp; omega) (by exact rr)).trans hHeld.2.1, (hgrow.cell_far _ (by simp; omega) (by exact rr)).trans hHeld.2.2⟩
      clear hK K
      try simp only [zA, zB, zC, Act.put, zD, zE, zF]
      refine tkA 8 ?vv84 rfl ?hy84 hHeld ?_
      case hy84 => (intro w hSw; (try dsimp only at hSw); first | (go_simp; done) | (go_simp; with_reducible rfl))
      try simp only [zA, zB, zC, Act.put, zD, zE, zF]
      refine tkA 9 ?vv85 rfl ?hy85 hHeld ?_
      case hy85 => (intro w hSw; (try dsimp only at hSw); first | (go_simp; done) | (go_simp; with_reducible rfl))
      try simp only [zA, zB, zC, Act.put, zD, zE, zF]
      refine tkA 10 ?vv86 rfl ?hy86 hHeld ?_
      case hy86 => (intro w hSw; (try dsimp only at hSw); first | (go_simp; done) | (go_simp; with_reducible rfl))
      try simp only [zA, zB, zC, Act.put, zD, zE, zF]
      refine wpAnyH_done (by kernel_rfl) ?_ _
      obtain ⟨q3, q0, q1⟩ := hHeld
      have hfr : w2.frozen? ⟨gb, 3, none⟩ = false := (hgrow.frozen_far _ (by simp; omega) (by exact rgb)).trans ((((Below.refl wr.heap.size wr).alloc (Nat.le_refl _) _).drew.frozen (by exact hbl)).trans f3)
      have k0 : w2.cell? ⟨gb, 0, none⟩ = some (.slice bT G.toks.length kT) := (hgrow.cell_far _ (by simp; omega) (by exact rgb)).trans (cell_later ((Below.refl _ _).alloc (Nat.le_refl _) _).drew HV.out.gr.cells.1)
      have k2 : w2.cell? ⟨gb, 2, none⟩ = some (.slice bN (G.names ++ [nth l 1]).length kN) := (hgrow.cell_far _ (by simp; omega) (by exact rgb)).trans (cell_later ((Below.refl _ _).alloc (Nat.le_refl _) _).drew HV.out.gr.cells.2.2.1)
      show wpList _ _ _ _ _ _
      have hkeep := ((Keeps.refl wr aR.ownBlock.toList).alloc (Obj.cells #[.string (nth l 1), .slice aP cur.length kP] 172)).drew.grown hgrow (fun k hk => .inl (by rw [hk]; simp))
      have hend := HV.out.gr.addRule (r := (nth l 1, cur)) hkeep HV.out.part hown
      have hbel := Hbr.out.trans ((hkeep.below hBw (own_ge hRR)).setCell (p := ⟨gb, 3, none⟩) (by exact HV.out.gr.hb) (.slice (some ⟨g2, 0, none⟩) (R.length + 1) cap2))
      have HE2 : Hid _ := hid hend
      have HB2 : Hid _ := hid hbel
      have hnl : (G.names ++ [nth l 1]).length = G.names.length + 1 := by simp
      rw [hnl] at k2
      clear hend hbel hkeep hown hgrow hat hbr hV hRR hnl
      go_wp2
      all_goals
        go_ret
        rw [HF.out]
        refine ⟨ret_int ?_, ⟨_, _, _, _, _, HE2.out⟩, HB2.out⟩
        unfold totI
        simp only [List.length_append, List.length_singleton]
        first | rw [if_pos (by omega)] | (rw [if_neg (by omega)]; rfl)

end Go.Proofs.YtjjggdcnpndgjaaGreatDoor

namespace Go.Proofs.YtjjggdcnpndgjaaGreatDoor
open Go.RowKit

theorem GrV.below {w w1 : World} {B gb : Nat} {G : Gr} {vT vS vN vR : Value} {pv : List Value} (h : GrV w B gb G vT vS vN vR pv) (hb : Below w.heap.size w w1) : GrV w1 B gb G vT vS vN vR pv :=
  h.keeps (Keeps.of_below hb []) (by simp) (by simp) (by simp) (by simp) (by simp) (by simp)

theorem GrAt.below {w w1 : World} {B gb : Nat} {G : Gr} (h : GrAt w B gb G) (hb : Below w.heap.size w w1) : GrAt w1 B gb G := by
  obtain ⟨vT, vS, vN, vR, pv, hV⟩ := h
  exact ⟨vT, vS, vN, vR, pv, hV.below hb⟩

/-- (*Grammar).give: whatever line: what it makes of the grammar, and what it tells. w0: the world ahead of the line's words. -/
theorem give_any (l : List ByteArray) (g n cap : Nat) (G : Gr) (w0 w : World) (B gb : Nat) (hG : GrAt w0 B gb G) (hb : Below w0.heap.size w0 w) (hB : B ≤ w0.heap.size) (hle : GrLe G 100000) (hg : w0.heap.size ≤ g)
    (hl : l.length = n) (hn : 1 ≤ n) (hnb : n ≤ 4001) (hc : StrsAt w g 0 l) (hline : isLineB l = true) :
    Calls Tryz.prog 122 #[.pointer (some ⟨gb, 0, none⟩), .slice (some ⟨g, 0, none⟩) n cap] w fun e w' =>
      e = .returned (.int .i64 (giveB G l).2) ∧ GrAt w' B gb (giveB G l).1 ∧ Below B w w' := by
  obtain ⟨vT, vS, vN, vR, pv, hV0⟩ := hG
  have hgb := lt_of_block hV0.blk
  have hV := hV0.below hb
  obtain ⟨l1, l2, l3, l4⟩ := hle
  have hBw : B ≤ w.heap.size := Nat.le_trans hB hb.size
  have ne : ∀ {v : Value}, (∀ k, v.ownBlock = some k → k < w0.heap.size) → v.ownBlock ≠ some g := fun h e => by have := h g e; omega
  have nT := ne fun k hk => own_lt hV0.toks hk
  have nS := ne fun k hk => own_lt hV0.swps hk
  have nN := ne fun k hk => own_lt hV0.names hk
  have nR := ne fun k hk => own_lt hV0.rules hk
  have ngb : g ≠ gb := by omega
  have hGw : GrAt w B gb G := ⟨_, _, _, _, _, hV⟩
  have same : ∀ {G' : Gr} {x : Int}, G' = G → (∀ {e : Ending} {w' : World}, e = .returned (.int .i64 x) ∧ w = w' → e = .returned (.int .i64 x) ∧ GrAt w' B gb G' ∧ Below B w w') := by
    intro G' x hGG e w' h
    obtain ⟨h1, rfl⟩ := h
    subst hGG
    exact ⟨h1, hGw, Below.refl _ _⟩
  cases ht : ((nth l 0).toList == [116, 111, 107, 101, 110])
  case true =>
    obtain ⟨h4, _, hn2, hn3⟩ := line_tok hline ht
    have hx : giveB G l = (if hasTok G.toks (nth l 1) then (G, 3) else ({ G with toks := G.toks ++ [(nth l 1, valD (nth l 2).data.toList, valD (nth l 3).data.toList)] }, totI { G with toks := G.toks ++ [(nth l 1, valD (nth l 2).data.toList, valD (nth l 3).data.toList)] } false)) := by
      unfold giveB; rw [if_pos ht]
    cases hh : hasTok G.toks (nth l 1)
    · rw [hx, hh]
      exact give_tok l g n cap G w B gb vT vS vN vR pv hV (by omega) (by omega) (by omega) hBw hl (by omega) hc ht (num_size hn2).1 (num_size hn3).1 (num_size hn2).2 (num_size hn3).2 hh ngb nT
    · rw [hx, hh]
      exact (give_twice l g n cap G w B gb hGw (by omega) hl (by omega) hc ht hh).mono fun e w' h => same rfl h
  case false =>
  cases hw : ((nth l 0).toList == [115, 119, 97, 112])
  case true =>
    obtain ⟨h4, _, _, hn3⟩ := line_swap hline ht hw
    have hx : giveB G l = ({ G with swps := G.swps ++ [(nth l 1, nth l 2, valD (nth l 3).data.toList)] }, totI { G with swps := G.swps ++ [(nth l 1, nth l 2, valD (nth l 3).data.toList)] } false) := by
      unfold giveB; rw [if_neg (by simp [ht]), if_pos hw]
    rw [hx]
    exact give_swap l g n cap G w B gb vT vS vN vR pv hV (by omega) (by omega) (by omega) (by omega) hBw hl (by omega) hc ht hw (num_size hn3).1 (num_size hn3).2 ngb nS
  case false =>
  cases hr : ((nth l 0).toList == [114, 117, 108, 101])
  case true =>
    obtain ⟨h3, _, _⟩ := line_rule hline ht hw hr
    have hx : giveB G l = (if hasNam G.names (nth l 1) then (G, 3)
     else ({ G with names := G.names ++ [nth l 1], rules := (rst G.rules (nth l 1) (l.drop 3)).1 ++ [(nth l 1, (rst G.rules (nth l 1) (l.drop 3)).2.1)] },
      totI { G with names := G.names ++ [nth l 1], rules := (rst G.rules (nth l 1) (l.drop 3)).1 ++ [(nth l 1, (rst G.rules (nth l 1) (l.drop 3)).2.1)] } (rst G.rules (nth l 1) (l.drop 3)).2.2)) := by
      unfold giveB; rw [if_neg (by simp [ht]), if_neg (by simp [hw]), if_pos hr]
    cases hh : hasNam G.names (nth l 1)
    · rw [hx, hh]
      exact give_rule l g n cap G w B gb vT vS vN vR pv hV (by omega) (by omega) (by omega) hBw hl (by omega) hnb hc ht hw hr hh ngb nN nR
    · rw [hx, hh]
      exact (give_twiceName l g n cap G w B gb hGw (by omega) hl (by omega) hc ht hw hr hh).mono fun e w' h => same rfl h
  case false =>
    have hx : giveB G l = (G, totI G false) := by
      unfold giveB; rw [if_neg (by simp [ht]), if_neg (by simp [hw]), if_neg (by simp [hr])]
    rw [hx]
    exact (give_none l g n cap G w B gb vT vS vN vR pv hV (by omega) (by omega) (by omega) hl hn hc ht hw hr).mono fun e w' h => same rfl h

end Go.Proofs.YtjjggdcnpndgjaaGreatDoor

namespace Go.Proofs.YtjjggdcnpndgjaaGreatDoor
open Go.RowKit

theorem wst_all (l : List UInt8) : ∀ x ∈ (wst l).1, x.size ≤ l.length := by
  suffices h : ∀ (l : List UInt8) (p : List ByteArray × ByteArray) (n : Nat), (∀ x ∈ p.1, x.size ≤ n) → p.2.size ≤ n → ∀ x ∈ (l.foldl wstep p).1, x.size ≤ n + l.length by
    have := h l ([], ByteArray.empty) 0 (by simp) (by simp)
    simpa [wst] using this
  intro l
  induction l with
  | nil => intro p n h1 _ x hx; simpa using h1 x hx
  | cons b r ih =>
    intro p n h1 h2 x hx
    rw [List.foldl_cons] at hx
    have h3 := wstep_bd p b
    have := ih (wstep p b) (n + 1) (by
      intro y hy
      unfold wstep at hy
      split at hy
      · rcases List.mem_append.1 hy with hy | hy
        · have := h1 y hy; omega
        · simp at hy; subst hy; omega
      · have := h1 y hy; omega) (by omega) x hx
    simp only [List.length_cons]
    omega

theorem wordsB_len (s : ByteArray) : 1 ≤ (wordsB s).length ∧ (wordsB s).length ≤ s.size + 1 := by
  have h := wst_bd s.data.toList
  have hlen : s.data.toList.length = s.size := by simp
  unfold wordsB
  simp only [List.length_append, List.length_singleton]
  omega

theorem wordsB_size (s : ByteArray) (j : Nat) : (nth (wordsB s) j).size ≤ s.size := by
  have hlen : s.data.toList.length = s.size := by simp
  have h1 := wst_all s.data.toList
  have h2 := (wst_bd s.data.toList).2
  unfold nth
  rw [List.getD_eq_getElem?_getD]
  cases h : (wordsB s)[j]? with
  | none => simp
  | some x =>
    have hm := List.mem_of_getElem? h
    unfold wordsB at hm
    rcases List.mem_append.1 hm with hm | hm
    · have := h1 x hm; simp only [Option.getD_some]; omega
    · simp at hm; subst hm; simp only [Option.getD_some]; omega

theorem lineB_size (s : ByteArray) (a : Nat) : (lineB s a).1.size ≤ s.size := by
  unfold lineB
  split
  · simp [ByteArray.size_extract]; omega
  · simp

/-- How Read ends. -/
def ReadEnd (s : ByteArray) (w : World) (e : Ending) (w' : World) : Prop :=
  ∃ p, e = .returned (.tuple #[p, .int .i64 (readB s).1, .int .i64 (readB s).2.1]) ∧ Below w.heap.size w w' ∧ ((readB s).1 ≠ 0 → p = .pointer none) ∧
    ((readB s).1 = 0 → ∃ gb, p = .pointer (some ⟨gb, 0, none⟩) ∧ GrAt w' w.heap.size gb (readB s).2.2)

theorem readEnd_err {s : ByteArray} {w w' : World} {x y : Int} (h : readB s = (x, y, G0)) (hx : x ≠ 0) (hb : Below w.heap.size w w') : ReadEnd s w (.returned (.tuple #[.pointer none, .int .i64 x, .int .i64 y])) w' := by
  refine ⟨.pointer none, by rw [h], hb, fun _ => rfl, fun h0 => ?_⟩
  rw [h] at h0; exact absurd h0 hx

theorem readEnd_ok {s : ByteArray} {w w' : World} {gb : Nat} {G : Gr} (h : readB s = (0, 0, G)) (hb : Below w.heap.size w w') (hG : GrAt w' w.heap.size gb G) : ReadEnd s w (.returned (.tuple #[.pointer (some ⟨gb, 0, none⟩), .int .i64 0, .int .i64 0])) w' := by
  refine ⟨.pointer (some ⟨gb, 0, none⟩), by rw [h], hb, fun h0 => ?_, fun _ => ⟨gb, rfl, by rw [h]; exact hG⟩⟩
  rw [h] at h0; exact absurd rfl h0

theorem read_long (s : ByteArray) (w : World) (hs : 4000 < s.size) (hs2 : s.size ≤ 9223372036854775807) : Calls Tryz.prog 74 #[.string s] w fun e w' => ReadEnd s w e w' := by
  have hr : readB s = (1, 0, G0) := by unfold readB; rw [if_pos hs]
  have HR : Hid _ := hid hr
  clear hr
  go_enter Tryz.func74, Tryz.ntmps74
  go_wp2
  go_ret3
  exact readEnd_err HR.out (by decide) (Below.refl _ _)

set_option maxHeartbeats 1000000 in
set_option maxRecDepth 100000 in
theorem read_form (s : ByteArray) (w : World) (hs : s.size ≤ 4000) (hbad : (scanA s 0).2 < s.size) :
    Calls Tryz.prog 74 #[.string s] w fun e w' => ReadEnd s w e w' := by
  have HR : Hid (readB s = (2, ((scanA s 0).2 : Int), G0)) := hid (by unfold readB; rw [if_neg (by omega), if_pos hbad])
  go_enter Tryz.func74, Tryz.ntmps74
  go_wp2
  go_loopw [5] (fun a wr => ∃ k : Nat, k ≤ s.size ∧ a = .int .i64 k ∧ Hid ((scanA s 0).2 = (scanA s k).2) ∧ Hid (Below w.heap.size w wr)) (fun a _ => s.size - (intOf a).toNat)
  case atStart => exact ⟨0, Nat.zero_le _, rfl, rfl, Below.refl _ _⟩
  case round =>
    obtain ⟨k, hk, rfl, hsc, hbr⟩ := hrel
    have hlt : k < s.size := by
      rcases Nat.lt_or_ge k s.size with h | h
      · exact h
      · have h1 := hsc.out
        rw [scanA_end (a := k) (by omega)] at h1
        simp only at h1
        omega
    have HBad : Hid ((scanA s 0).2 < s.size) := hid hbad
    obtain ⟨ln, nx, hln⟩ : ∃ ln nx, lineB s k = (ln, nx) := ⟨_, _, rfl⟩
    have hlz : ln.size ≤ 4000 := by have := lineB_size s k; rw [hln] at this; simp only at this; omega
    have cL : Hid (∀ W, Calls Tryz.prog 119 #[.string s, .int .i64 k] W fun e w' => e = .returned (.tuple #[.string ln, .int .i64 nx]) ∧ W = w') := hid fun W => by
      have := lineAt_any s k W hs hk
      rw [hln] at this
      exact this
    have HL : Hid (lineB s k = (ln, nx)) := hid hln
    have hwl := wordsB_len ln
    clear hbad hln
    have hend : isLineB (wordsB ln) = false ∨ nx = 0 → (scanA s 0).2 = k := fun h => by
      have h1 := hsc.out
      rw [scanA_bad hlt (by rw [HL.out]; rcases h with h | h; exact .inr h; exact .inl h)] at h1
      exact h1
    have HEnd : Hid (isLineB (wordsB ln) = false ∨ nx = 0 → (scanA s 0).2 = k) := hid hend
    clear hend
    cases hL : isLineB (wordsB ln)
    · go_wp2_with (first
        | (go_at_call 119; refine (cL.out _).mono ?_; rintro e w' ⟨rfl, rfl⟩)
        | (go_at_call 121; refine (words_any ln _ hlz).mono ?_; rintro e w1 ⟨g, cap, rfl, hg, hst, hb1⟩)
        | (go_at_call 120; refine (isLine_any (wordsB ln) g _ cap _ rfl (by omega) (by omega) (fun j => Nat.le_trans (wordsB_size ln j) hlz) hst).mono ?_; rintro e w2 ⟨rfl, rfl⟩; rw [hL]))
      all_goals
        go_ret3
        rw [← HEnd.out (.inl hL)]
        exact readEnd_err HR.out (by decide) (hbr.out.trans (hb1.mono hbr.out.size))
    · by_cases h0 : nx = 0
      · subst h0
        go_wp2_with (first
          | (go_at_call 119; refine (cL.out _).mono ?_; rintro e w' ⟨rfl, rfl⟩)
          | (go_at_call 121; refine (words_any ln _ hlz).mono ?_; rintro e w1 ⟨g, cap, rfl, hg, hst, hb1⟩)
          | (go_at_call 120; refine (isLine_any (wordsB ln) g _ cap _ rfl (by omega) (by omega) (fun j => Nat.le_trans (wordsB_size ln j) hlz) hst).mono ?_; rintro e w2 ⟨rfl, rfl⟩; rw [hL]))
        go_ret3
        rw [← HEnd.out (.inr trivial)]
        exact readEnd_err HR.out (by decide) (hbr.out.trans (hb1.mono hbr.out.size))
      · have hgt : Hid (k < nx.toNat ∧ nx.toNat ≤ s.size ∧ 0 ≤ nx) := hid (by
          have h1 := lineB_next_gt (s := s) (a := k) (by rw [HL.out]; exact h0)
          rw [HL.out] at h1
          simp only at h1
          omega)
        have hnext : Hid ((scanA s 0).2 = (scanA s nx.toNat).2) := hid (by
          have h1 := hsc.out
          rw [scanA_line hlt (by rw [HL.out]; exact h0) (by rw [HL.out]; exact hL), HL.out] at h1
          exact h1)
        go_wp2_with (first
          | (go_at_call 119; refine (cL.out _).mono ?_; rintro e w' ⟨rfl, rfl⟩)
          | (go_at_call 121; refine (words_any ln _ hlz).mono ?_; rintro e w1 ⟨g, cap, rfl, hg, hst, hb1⟩)
          | (go_at_call 120; refine (isLine_any (wordsB ln) g _ cap _ rfl (by omega) (by omega) (fun j => Nat.le_trans (wordsB_size ln j) hlz) hst).mono ?_; rintro e w2 ⟨rfl, rfl⟩; rw [hL]))
        go_roundw
        case rel => exact ⟨nx.toNat, hgt.out.2.1, by rw [Int.toNat_of_nonneg hgt.out.2.2], hnext, hid (hbr.out.trans (hb1.mono hbr.out.size))⟩
        case measure => have := hgt.out; simp [intOf]; omega

end Go.Proofs.YtjjggdcnpndgjaaGreatDoor

namespace Go.Proofs.YtjjggdcnpndgjaaGreatDoor
open Go.RowKit

/-- Where the lines go on to the text's end, each place ahead of it begins one. -/
theorem line_here {s : ByteArray} {k : Nat} {ln : ByteArray} {nx : Int} (hln : lineB s k = (ln, nx)) (hlt : k < s.size) (hend : (scanA s k).2 = s.size) :
    ¬ nx = 0 ∧ isLineB (wordsB ln) = true ∧ k + ln.size + 1 = nx.toNat ∧ nx.toNat ≤ s.size ∧ 0 ≤ nx ∧ scanA s k = ((k, wordsB ln) :: (scanA s nx.toNat).1, (scanA s nx.toNat).2) := by
  have hb : ¬ ((lineB s k).2 = 0 ∨ isLineB (wordsB (lineB s k).1) = false) := fun hb => by
    rw [scanA_bad hlt hb] at hend
    simp only at hend
    omega
  have h0 : ¬ (lineB s k).2 = 0 := fun e => hb (.inl e)
  have h1 : isLineB (wordsB (lineB s k).1) = true := by
    cases hq : isLineB (wordsB (lineB s k).1) with
    | true => rfl
    | false => exact absurd (.inr hq) hb
  have h2 := lineB_next_gt h0
  have h3 := scanA_line hlt h0 h1
  rw [hln] at h0 h1 h2 h3
  exact ⟨h0, h1, h2.1, h2.2.1, h2.2.2, h3⟩

theorem grV_new {w : World} {B : Nat} (hB : B ≤ w.heap.size) : GrV (w.alloc (.cells #[.slice none 0 0, .slice none 0 0, .slice none 0 0, .slice none 0 0] 160)) B w.heap.size G0 (.slice none 0 0) (.slice none 0 0) (.slice none 0 0) (.slice none 0 0) [] where
  blk := heap_alloc_new w _
  hb := hB
  toks := World.ownsRow_nil _ _ _ _
  swps := World.ownsRow_nil _ _ _ _
  names := World.ownsRow_nil _ _ _ _
  rules := World.ownsRow_nil _ _ _ _
  pvl := rfl
  parts := fun i r p hr => by simp [G0] at hr

set_option maxHeartbeats 2000000 in
set_option maxRecDepth 100000 in
theorem read_lines (s : ByteArray) (w : World) (hs : s.size ≤ 4000) (hok : (scanA s 0).2 = s.size) :
    Calls Tryz.prog 74 #[.string s] w fun e w' => ReadEnd s w e w' := by
  have HR : Hid (readB s = match pass2 (scanA s 0).1 G0 (-1) with
    | (_, _, some a) => (3, (a : Int), G0)
    | (G, m, none) => if 0 ≤ m then (4, m, G0) else if G.names.length = 0 then (4, (s.size : Int), G0) else match (scanA s 0).1.find? fun x => unknownB G x.2 with
        | some x => (5, (x.1 : Int), G0)
        | none => (0, 0, G)) := hid (by unfold readB; rw [if_neg (by omega), if_neg (by omega)]; first | done | rfl)
  have HOk : Hid ((scanA s 0).2 = s.size) := hid hok
  clear hok
  go_enter Tryz.func74, Tryz.ntmps74
  go_wp2
  go_loopw [5] (fun a wr => ∃ k : Nat, k ≤ s.size ∧ a = .int .i64 k ∧ Hid ((scanA s k).2 = s.size) ∧ Hid (Below w.heap.size w wr)) (fun a _ => s.size - (intOf a).toNat)
  case atStart => exact ⟨0, Nat.zero_le _, rfl, HOk, Below.refl _ _⟩
  case round =>
    obtain ⟨k, hk, rfl, hsc, hbr⟩ := hrel
    by_cases hlt : k < s.size
    · obtain ⟨ln, nx, hln⟩ : ∃ ln nx, lineB s k = (ln, nx) := ⟨_, _, rfl⟩
      have hlz : ln.size ≤ 4000 := by have := lineB_size s k; rw [hln] at this; simp only at this; omega
      have cL : Hid (∀ W, Calls Tryz.prog 119 #[.string s, .int .i64 k] W fun e w' => e = .returned (.tuple #[.string ln, .int .i64 nx]) ∧ W = w') := hid fun W => by
        have := lineAt_any s k W hs hk
        rw [hln] at this
        exact this
      have hwl := wordsB_len ln
      obtain ⟨h0, hL, h1, h2, h3, h4⟩ := line_here hln hlt hsc.out
      have HH : Hid (k < nx.toNat ∧ nx.toNat ≤ s.size ∧ 0 ≤ nx) := hid ⟨by omega, h2, h3⟩
      have HN : Hid ((scanA s nx.toNat).2 = s.size) := hid (by have h5 := hsc.out; rw [h4] at h5; exact h5)
      clear hln h1 h2 h3 h4
      go_wp2_with (first
        | (go_at_call 119; refine (cL.out _).mono ?_; rintro e w' ⟨rfl, rfl⟩)
        | (go_at_call 121; refine (words_any ln _ hlz).mono ?_; rintro e w1 ⟨g, cap, rfl, hg, hst, hb1⟩)
        | (go_at_call 120; refine (isLine_any (wordsB ln) g _ cap _ rfl (by omega) (by omega) (fun j => Nat.le_trans (wordsB_size ln j) hlz) hst).mono ?_; rintro e w2 ⟨rfl, rfl⟩; rw [hL]))
      go_roundw
      case rel => exact ⟨nx.toNat, HH.out.2.1, by rw [Int.toNat_of_nonneg HH.out.2.2], HN, hid (hbr.out.trans (hb1.mono hbr.out.size))⟩
      case measure => have := HH.out; simp [intOf]; omega
    · obtain ⟨W, hW⟩ : ∃ W, W = wr := ⟨_, rfl⟩
      subst hW
      have hsz := hbr.out.size
      have HG0 : Hid _ := hid (grV_new (w := W) hsz)
      have HB0 : Hid _ := hid (hbr.out.alloc hsz (.cells #[.slice none 0 0, .slice none 0 0, .slice none 0 0, .slice none 0 0] 160))
      go_wp2
      obtain ⟨gb, hgb⟩ : ∃ gb, gb = W.heap.size := ⟨_, rfl⟩
      rw [← hgb]
      have HG1 : Hid (GrAt (W.alloc (.cells #[.slice none 0 0, .slice none 0 0, .slice none 0 0, .slice none 0 0] 160)) w.heap.size gb G0) := hid (by rw [hgb]; exact ⟨_, _, _, _, _, HG0.out⟩)
      clear hgb HG0 hsc hbr
      go_loopw [10, 11] (fun m a wr => ∃ (k : Nat) (G : Gr) (mm : Int), k ≤ s.size ∧ a = .int .i64 k ∧ m = .int .i64 mm ∧ -1 ≤ mm ∧ mm ≤ 4000 ∧ Hid (pass2 (scanA s 0).1 G0 (-1) = pass2 (scanA s k).1 G mm) ∧
          Hid ((scanA s k).2 = s.size) ∧ Hid (GrAt wr w.heap.size gb G) ∧ Hid (GrLe G k) ∧ Hid (Below w.heap.size w wr)) (fun _ a _ => s.size - (intOf a).toNat)
      case atStart => exact ⟨0, G0, -1, Nat.zero_le _, rfl, rfl, by omega, by omega, rfl, HOk, HG1, ⟨by simp [G0], by simp [G0], by simp [G0], by simp [G0]⟩, HB0⟩
      case round =>
        clear HG1 HB0
        obtain ⟨k, G, mm, hk, rfl, rfl, hm1, hm2, hp2, hsc, hG, hle, hbr⟩ := hrel
        by_cases hlt : k < s.size
        · obtain ⟨ln, nx, hln⟩ : ∃ ln nx, lineB s k = (ln, nx) := ⟨_, _, rfl⟩
          have hlz : ln.size ≤ 4000 := by have := lineB_size s k; rw [hln] at this; simp only at this; omega
          have cL : Hid (∀ W, Calls Tryz.prog 119 #[.string s, .int .i64 k] W fun e w' => e = .returned (.tuple #[.string ln, .int .i64 nx]) ∧ W = w') := hid fun W => by
            have := lineAt_any s k W hs hk
            rw [hln] at this
            exact this
          have hwl := wordsB_len ln
          obtain ⟨h0, hL, h1, h2, h3, h4⟩ := line_here hln hlt hsc.out
          have hsz := hbr.out.size
          obtain ⟨G', ee, hgv⟩ : ∃ G' ee, giveB G (wordsB ln) = (G', ee) := ⟨_, _, rfl⟩
          have hle' : GrLe G' nx.toNat := by
            have h5 := hle.out.give hL
            rw [hgv] at h5
            obtain ⟨a1, a2, a3, a4⟩ := h5
            exact ⟨by simp only at a1; omega, by simp only at a2; omega, by simp only at a3; omega, by simp only at a4; omega⟩
          have HH : Hid (k < nx.toNat ∧ nx.toNat ≤ s.size ∧ 0 ≤ nx) := hid ⟨by omega, h2, h3⟩
          have HN : Hid ((scanA s nx.toNat).2 = s.size) := hid (by have h5 := hsc.out; rw [h4] at h5; exact h5)
          have HP : Hid (pass2 (scanA s 0).1 G0 (-1) = if ee = 3 then (G, mm, some k) else pass2 (scanA s nx.toNat).1 G' (if ee = 4 ∧ mm < 0 then (k : Int) else mm)) := hid (by
            rw [hp2.out, h4]
            simp only [pass2, hgv])
          have HLe : Hid (GrLe G' nx.toNat) := hid hle'
          have cG : Hid (∀ (g cap : Nat) (W : World), wr.heap.size ≤ g → Below wr.heap.size wr W → StrsAt W g 0 (wordsB ln) →
              Calls Tryz.prog 122 #[.pointer (some ⟨gb, 0, none⟩), .slice (some ⟨g, 0, none⟩) (wordsB ln).length cap] W fun e w' => e = .returned (.int .i64 ee) ∧ GrAt w' w.heap.size gb G' ∧ Below w.heap.size W w') := hid fun g cap W hg hb hst => by
            have h5 := hle.out
            have := give_any (wordsB ln) g _ cap G wr W w.heap.size gb hG.out hb hsz ⟨by have := h5.1; omega, by have := h5.2.1; omega, by have := h5.2.2.1; omega, by have := h5.2.2.2; omega⟩ hg rfl (by omega) (by omega) hst hL
            rw [hgv] at this
            exact this
          clear hln h1 h2 h3 h4 h0 hgv hle' hp2 hle hG
          by_cases e3 : ee = 3
          · have HPc : Hid (pass2 (scanA s 0).1 G0 (-1) = (G, mm, some k)) := hid (HP.out.trans (by rw [if_pos e3]))
            clear HP
            subst e3
            go_wp2_with (first
              | (go_at_call 119; refine (cL.out _).mono ?_; rintro e w' ⟨rfl, rfl⟩)
              | (go_at_call 121; refine (words_any ln _ hlz).mono ?_; rintro e w1 ⟨g, cap, rfl, hg, hst, hb1⟩)
              | (go_at_call 122; refine (cG.out g cap _ hg hb1 hst).mono ?_; rintro e w2 ⟨rfl, hg2, hb2⟩))
            go_ret3
            exact readEnd_err (by rw [HR.out, HPc.out]) (by decide) ((hbr.out.trans (hb1.mono hsz)).trans hb2)
          · by_cases e4 : ee = 4
            · have HPa : Hid (mm < 0 → pass2 (scanA s 0).1 G0 (-1) = pass2 (scanA s nx.toNat).1 G' k) := hid fun h => HP.out.trans (by rw [if_neg e3, if_pos ⟨e4, h⟩])
              have HPb : Hid (¬ mm < 0 → pass2 (scanA s 0).1 G0 (-1) = pass2 (scanA s nx.toNat).1 G' mm) := hid fun h => HP.out.trans (by rw [if_neg e3, if_neg (fun h' => h h'.2)])
              clear HP
              subst e4
              by_cases hmm : mm < 0
              · have HPc : Hid _ := hid (HPa.out hmm)
                clear HPa HPb
                go_wp2_with (first
                  | (go_at_call 119; refine (cL.out _).mono ?_; rintro e w' ⟨rfl, rfl⟩)
                  | (go_at_call 121; refine (words_any ln _ hlz).mono ?_; rintro e w1 ⟨g, cap, rfl, hg, hst, hb1⟩)
                  | (go_at_call 122; refine (cG.out g cap _ hg hb1 hst).mono ?_; rintro e w2 ⟨rfl, hg2, hb2⟩))
                go_roundw
                case rel => exact ⟨nx.toNat, G', k, HH.out.2.1, by rw [Int.toNat_of_nonneg HH.out.2.2], rfl, by omega, by omega, HPc, HN, hid hg2, HLe, hid ((hbr.out.trans (hb1.mono hsz)).trans hb2)⟩
                case measure => have := HH.out; simp [intOf]; omega
              · have HPc : Hid _ := hid (HPb.out hmm)
                clear HPa HPb
                go_wp2_with (first
                  | (go_at_call 119; refine (cL.out _).mono ?_; rintro e w' ⟨rfl, rfl⟩)
                  | (go_at_call 121; refine (words_any ln _ hlz).mono ?_; rintro e w1 ⟨g, cap, rfl, hg, hst, hb1⟩)
                  | (go_at_call 122; refine (cG.out g cap _ hg hb1 hst).mono ?_; rintro e w2 ⟨rfl, hg2, hb2⟩))
                go_roundw
                case rel => exact ⟨nx.toNat, G', mm, HH.out.2.1, by rw [Int.toNat_of_nonneg HH.out.2.2], rfl, by omega, by omega, HPc, HN, hid hg2, HLe, hid ((hbr.out.trans (hb1.mono hsz)).trans hb2)⟩
                case measure => have := HH.out; simp [intOf]; omega
            · have HPc : Hid (pass2 (scanA s 0).1 G0 (-1) = pass2 (scanA s nx.toNat).1 G' mm) := hid (HP.out.trans (by rw [if_neg e3, if_neg (by omega)]))
              clear HP
              go_wp2_with (first
                | (go_at_call 119; refine (cL.out _).mono ?_; rintro e w' ⟨rfl, rfl⟩)
                | (go_at_call 121; refine (words_any ln _ hlz).mono ?_; rintro e w1 ⟨g, cap, rfl, hg, hst, hb1⟩)
                | (go_at_call 122; refine (cG.out g cap _ hg hb1 hst).mono ?_; rintro e w2 ⟨rfl, hg2, hb2⟩))
              go_roundw
              case rel => exact ⟨nx.toNat, G', mm, HH.out.2.1, by rw [Int.toNat_of_nonneg HH.out.2.2], rfl, by omega, by omega, HPc, HN, hid hg2, HLe, hid ((hbr.out.trans (hb1.mono hsz)).trans hb2)⟩
              case measure => have := HH.out; simp [intOf]; omega
        · have hpe : pass2 (scanA s 0).1 G0 (-1) = (G, mm, none) := by
            rw [hp2.out, scanA_end hlt]; rfl
          have HR2 : Hid (readB s = if 0 ≤ mm then ((4, mm, G0) : Int × Int × Gr) else if G.names.length = 0 then (4, (s.size : Int), G0) else match (scanA s 0).1.find? fun x => unknownB G x.2 with
              | some x => (5, (x.1 : Int), G0)
              | none => (0, 0, G)) := hid (by rw [HR.out, hpe])
          obtain ⟨vT, vS, vN, vR, pv, hV⟩ := hG.out
          obtain ⟨aN, kN, hvN⟩ := own_slice hV.names
          have cN := hV.cells.2.2.1
          rw [hvN] at cN
          have hsz := hbr.out.size
          have hle2 := hle.out
          have hb5 : G.toks.length ≤ 4000 ∧ G.names.length ≤ 4000 := ⟨by have := hle2.1; omega, by have := hle2.2.2.1; omega⟩
          clear hpe hp2 hV hvN hle hle2
          by_cases hm : 0 ≤ mm
          · have HR3 : Hid (readB s = (4, mm, G0)) := hid (by rw [HR2.out, if_pos hm])
            clear HR HR2
            go_wp2
            go_ret3
            exact readEnd_err HR3.out (by decide) hbr.out
          · by_cases hn0 : G.names.length = 0
            · have HR3 : Hid (readB s = (4, (s.size : Int), G0)) := hid (by rw [HR2.out, if_neg hm, if_pos hn0])
              clear HR HR2
              go_wp2
              go_ret3
              exact readEnd_err HR3.out (by decide) hbr.out
            · have HR3 : Hid (readB s = match (scanA s 0).1.find? fun x => unknownB G x.2 with
                  | some x => (5, (x.1 : Int), G0)
                  | none => (0, 0, G)) := hid (by rw [HR2.out, if_neg hm, if_neg hn0])
              clear HR HR2
              go_wp2
              go_loopw [15] (fun a wr => ∃ k : Nat, k ≤ s.size ∧ a = .int .i64 k ∧ Hid ((scanA s 0).1.find? (fun x => unknownB G x.2) = (scanA s k).1.find? fun x => unknownB G x.2) ∧ Hid ((scanA s k).2 = s.size) ∧
                  Hid (GrAt wr w.heap.size gb G) ∧ Hid (Below w.heap.size w wr)) (fun a _ => s.size - (intOf a).toNat)
              case atStart => exact ⟨0, Nat.zero_le _, rfl, rfl, HOk, hG, hbr⟩
              case round =>
                clear hbr hG cN hsz
                obtain ⟨k, hk, rfl, hfd, hsc, hG, hbr⟩ := hrel
                by_cases hlt : k < s.size
                · obtain ⟨ln, nx, hln⟩ : ∃ ln nx, lineB s k = (ln, nx) := ⟨_, _, rfl⟩
                  have hlz : ln.size ≤ 4000 := by have := lineB_size s k; rw [hln] at this; simp only at this; omega
                  have cL : Hid (∀ W, Calls Tryz.prog 119 #[.string s, .int .i64 k] W fun e w' => e = .returned (.tuple #[.string ln, .int .i64 nx]) ∧ W = w') := hid fun W => by
                    have := lineAt_any s k W hs hk
                    rw [hln] at this
                    exact this
                  have hwl := wordsB_len ln
                  obtain ⟨h0, hL, h1, h2, h3, h4⟩ := line_here hln hlt hsc.out
                  have hsz := hbr.out.size
                  have HH : Hid (k < nx.toNat ∧ nx.toNat ≤ s.size ∧ 0 ≤ nx) := hid ⟨by omega, h2, h3⟩
                  have HN : Hid ((scanA s nx.toNat).2 = s.size) := hid (by have h5 := hsc.out; rw [h4] at h5; exact h5)
                  have HF : Hid ((scanA s 0).1.find? (fun x => unknownB G x.2) = if unknownB G (wordsB ln) = true then some (k, wordsB ln) else (scanA s nx.toNat).1.find? fun x => unknownB G x.2) := hid (by
                    rw [hfd.out, h4]
                    simp only [List.find?_cons]
                    cases unknownB G (wordsB ln) <;> rfl)
                  have cU : Hid (∀ (g cap : Nat) (W : World), Below wr.heap.size wr W → StrsAt W g 0 (wordsB ln) →
                      Calls Tryz.prog 123 #[.pointer (some ⟨gb, 0, none⟩), .slice (some ⟨g, 0, none⟩) (wordsB ln).length cap] W fun e w' => e = .returned (.bool (unknownB G (wordsB ln))) ∧ ∃ q, w' = W.drewN q) := hid fun g cap W hb hst =>
                    unknown_any (wordsB ln) g _ cap G W w.heap.size gb (hG.out.below hb) (by omega) (by omega) rfl (by omega) (by omega) (fun hsw => by
                      cases ht : ((nth (wordsB ln) 0).toList == [116, 111, 107, 101, 110])
                      · have := (line_swap hL ht hsw).1; omega
                      · have := (line_tok hL ht).1; omega) hst
                  clear hln h1 h2 h3 h4 h0 hfd
                  cases hun : unknownB G (wordsB ln)
                  · have HF2 : Hid ((scanA s 0).1.find? (fun x => unknownB G x.2) = (scanA s nx.toNat).1.find? fun x => unknownB G x.2) := hid (by rw [HF.out, hun, if_neg (by decide)])
                    clear HF
                    go_wp2_with (first
                      | (go_at_call 119; refine (cL.out _).mono ?_; rintro e w' ⟨rfl, rfl⟩)
                      | (go_at_call 121; refine (words_any ln _ hlz).mono ?_; rintro e w1 ⟨g, cap, rfl, hg, hst, hb1⟩)
                      | (go_at_call 123; refine (cU.out g cap _ hb1 hst).mono ?_; rintro e w2 ⟨rfl, hw2⟩; obtain ⟨q, hw2⟩ := hw2; subst hw2; rw [hun]))
                    have hbq : Below wr.heap.size wr (w1.drewN q) := below_drewN hb1 q
                    go_roundw
                    case rel => exact ⟨nx.toNat, HH.out.2.1, by rw [Int.toNat_of_nonneg HH.out.2.2], HF2, HN, hid (hG.out.below hbq), hid (hbr.out.trans (hbq.mono hsz))⟩
                    case measure => have := HH.out; simp [intOf]; omega
                  · have HF2 : Hid (readB s = (5, (k : Int), G0)) := hid (by rw [HR3.out, HF.out, if_pos hun])
                    clear HF HR3
                    go_wp2_with (first
                      | (go_at_call 119; refine (cL.out _).mono ?_; rintro e w' ⟨rfl, rfl⟩)
                      | (go_at_call 121; refine (words_any ln _ hlz).mono ?_; rintro e w1 ⟨g, cap, rfl, hg, hst, hb1⟩)
                      | (go_at_call 123; refine (cU.out g cap _ hb1 hst).mono ?_; rintro e w2 ⟨rfl, hw2⟩; obtain ⟨q, hw2⟩ := hw2; subst hw2; rw [hun]))
                    go_ret3
                    exact readEnd_err HF2.out (by decide) (hbr.out.trans ((below_drewN hb1 q).mono hsz))
                · have HF2 : Hid (readB s = (0, 0, G)) := hid (by rw [HR3.out, hfd.out, scanA_end hlt]; rfl)
                  clear HR3
                  go_wp2
                  go_ret3
                  exact readEnd_ok HF2.out hbr.out hG.out

/-- darnref.Read, whatever the text. -/
theorem read_any (s : ByteArray) (w : World) (hs : s.size ≤ 9223372036854775807) : Calls Tryz.prog 74 #[.string s] w fun e w' => ReadEnd s w e w' := by
  by_cases h1 : 4000 < s.size
  · exact read_long s w h1 hs
  · by_cases h2 : (scanA s 0).2 < s.size
    · exact read_form s w (by omega) h2
    · have := scanA_le s s.size 0 (by omega) (by omega)
      exact read_lines s w (by omega) (by omega)

end Go.Proofs.YtjjggdcnpndgjaaGreatDoor
