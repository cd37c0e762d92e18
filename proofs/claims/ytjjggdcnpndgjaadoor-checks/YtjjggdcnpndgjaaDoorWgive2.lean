import Derived.Test.YtjjggdcnpndgjaaDoorWgive1
namespace Go.Proofs.YtjjggdcnpndgjaaDoor
open Go.RowKit

set_option linter.unusedSimpArgs false in
set_option maxHeartbeats 1000000 in
set_option maxRecDepth 100000 in
theorem give_swap (l : List ByteArray) (g n cap : Nat) (G : Gr) (w : World) (B gb : Nat) (vT vS vN vR : Value) (pv : List Value) (hV : GrV w B gb G vT vS vN vR pv)
    (_hn1 : G.toks.length ≤ 100000) (hn4 : G.swps.length ≤ 100000) (_hn2 : G.names.length ≤ 100000) (_hn3 : G.rules.length ≤ 100000) (hB : B ≤ w.heap.size)
    (hl : l.length = n) (hn : n = 4) (hc : StrsAt w g 0 l) (ht0 : ((nth l 0).toList == [116, 111, 107, 101, 110]) = false) (ht : ((nth l 0).toList == [115, 119, 97, 112]) = true)
    (hs3 : (nth l 3).size ≤ 2) (hd3 : allIn (nth l 3).data.toList 48 57 = true) (hgne : g ≠ gb) (hgT : vS.ownBlock ≠ some g) :
    Calls Tryd.prog 11 #[.pointer (some ⟨gb, 0, none⟩), .slice (some ⟨g, 0, none⟩) n cap] w fun e w' =>
      e = .returned (.int .i64 (totI { G with swps := G.swps ++ [(nth l 1, nth l 2, valD (nth l 3).data.toList)] } false)) ∧
        GrAt w' B gb { G with swps := G.swps ++ [(nth l 1, nth l 2, valD (nth l 3).data.toList)] } ∧ Below B w w' := by
  obtain ⟨aT, kT, rfl⟩ := own_slice hV.toks
  obtain ⟨aN, kN, rfl⟩ := own_slice hV.names
  obtain ⟨aR, kR, rfl⟩ := own_slice hV.rules
  obtain ⟨i0, hi, hz0, hz1, hz2⟩ := info_parts Tryd.info48
  have c0 : w.cell? ⟨g, 0, none⟩ = some (.string (nth l 0)) := by simpa using hc.2 0 (by omega)
  have c1 : w.cell? ⟨g, 1, none⟩ = some (.string (nth l 1)) := by simpa using hc.2 1 (by omega)
  have c2 : w.cell? ⟨g, 2, none⟩ = some (.string (nth l 2)) := by simpa using hc.2 2 (by omega)
  have c3 : w.cell? ⟨g, 3, none⟩ = some (.string (nth l 3)) := by simpa using hc.2 3 (by omega)
  have d0 := hV.cells.2.1
  have hc0 := hc.1
  subst hn
  clear hc hl
  go_enter Tryd.func11, Tryd.ntmps11
  go_wp2_with fail
  have hT := hV.swps
  have hge : g ≠ gb := hgne
  have fT : some g ≠ vS.ownBlock := fun e => hgT e.symm
  have fB : some gb ≠ vS.ownBlock := fun e => hV.off.2.1 gb e.symm rfl
  have hfr0 : w.frozen? ⟨gb, 1, none⟩ = false := block_free hV.blk
  have hfo : ∀ o, (w.alloc o).frozen? ⟨gb, 1, none⟩ = false := fun o => (((Below.refl w.heap.size w).alloc (Nat.le_refl _) o).frozen (by exact lt_of_block hV.blk)).trans hfr0
  have hgl := hc0
  have hbl := lt_of_block hV.blk
  refine wp_region_last (fun w' => w'.cell? ⟨g, 1, none⟩ = some (.string (nth l 1)) ∧ w'.cell? ⟨g, 2, none⟩ = some (.string (nth l 2)) ∧ w'.cell? ⟨g, 3, none⟩ = some (.string (nth l 3)) ∧ w'.cell? ⟨gb, 1, none⟩ = some vS) (by kernel_rfl) (by kernel_rfl) ?_ (fun hHeld => ?_)
  · go_keep
  simp only [cutLast, idle, lastOf]
  refine wpAnyH_take (i := 0) (v := ?vv19) rfl (by kernel_rfl) (by kernel_rfl) (by kernel_rfl) (fun _ _ _ h => h) (Or.inl ⟨by rfl, ?hy19⟩) hHeld ?_
  case hy19 => (intro w hSw; (try dsimp only at hSw); first | (go_simp; done) | (go_simp; with_reducible rfl))
  try simp only [List.getElem_toArray, List.getElem_cons_succ, List.getElem_cons_zero, Act.put, List.setIfInBounds_toArray, List.set_cons_zero, List.set_cons_succ]
  refine wpAnyH_take (i := 1) (v := ?vv20) rfl (by kernel_rfl) (by kernel_rfl) (by kernel_rfl) (fun _ _ _ h => h) (Or.inl ⟨by rfl, ?hy20⟩) hHeld ?_
  case hy20 => (intro w hSw; (try dsimp only at hSw); first | (go_simp; done) | (go_simp; with_reducible rfl))
  try simp only [List.getElem_toArray, List.getElem_cons_succ, List.getElem_cons_zero, Act.put, List.setIfInBounds_toArray, List.set_cons_zero, List.set_cons_succ]
  refine wpAnyH_take (i := 2) (v := ?vv21) rfl (by kernel_rfl) (by kernel_rfl) (by kernel_rfl) (fun _ _ _ h => h) (Or.inl ⟨by rfl, ?hy21⟩) hHeld ?_
  case hy21 => (intro w hSw; (try dsimp only at hSw); first | (go_simp; done) | (go_simp; with_reducible rfl))
  try simp only [List.getElem_toArray, List.getElem_cons_succ, List.getElem_cons_zero, Act.put, List.setIfInBounds_toArray, List.set_cons_zero, List.set_cons_succ]
  refine wpAnyH_take (i := 3) (v := ?vv22) rfl (by kernel_rfl) (by kernel_rfl) (by kernel_rfl) (fun _ _ _ h => h) (Or.inl ⟨by rfl, ?hy22⟩) hHeld ?_
  case hy22 => (intro w hSw; (try dsimp only at hSw); first | (go_simp; done) | (go_simp; with_reducible rfl))
  try simp only [List.getElem_toArray, List.getElem_cons_succ, List.getElem_cons_zero, Act.put, List.setIfInBounds_toArray, List.set_cons_zero, List.set_cons_succ]
  refine wpAnyH_take (i := 4) (v := ?vv23) rfl (by kernel_rfl) (by kernel_rfl) (by kernel_rfl) (fun _ _ _ h => h) (Or.inl ⟨by rfl, ?hy23⟩) hHeld ?_
  case hy23 => (intro w hSw; (try dsimp only at hSw); first | (go_simp; done) | (go_simp; with_reducible rfl))
  try simp only [List.getElem_toArray, List.getElem_cons_succ, List.getElem_cons_zero, Act.put, List.setIfInBounds_toArray, List.set_cons_zero, List.set_cons_succ]
  refine wpAnyH_take (i := 5) (v := ?vv24) rfl (by kernel_rfl) (by kernel_rfl) (by kernel_rfl) (fun _ _ _ h => h) (Or.inl ⟨by rfl, ?hy24⟩) hHeld ?_
  case hy24 => (intro w hSw; (try dsimp only at hSw); first | (go_simp; done) | (go_simp; with_reducible rfl))
  try simp only [List.getElem_toArray, List.getElem_cons_succ, List.getElem_cons_zero, Act.put, List.setIfInBounds_toArray, List.set_cons_zero, List.set_cons_succ]
  refine wpAnyH_take (i := 6) (v := ?vv25) rfl (by kernel_rfl) (by kernel_rfl) (by kernel_rfl) (fun _ _ _ h => h) (Or.inl ⟨by rfl, ?hy25⟩) hHeld ?_
  case hy25 => (intro w hSw; (try dsimp only at hSw); first | (go_simp; done) | (go_simp; with_reducible rfl))
  try simp only [List.getElem_toArray, List.getElem_cons_succ, List.getElem_cons_zero, Act.put, List.setIfInBounds_toArray, List.set_cons_zero, List.set_cons_succ]
  refine wpAnyH_take (i := 7) (v := ?vv26) rfl (by kernel_rfl) (by kernel_rfl) (by kernel_rfl) (fun _ _ _ h => h) (Or.inl ⟨by rfl, ?hy26⟩) hHeld ?_
  case hy26 => (intro w hSw; (try dsimp only at hSw); first | (go_simp; done) | (go_simp; with_reducible rfl))
  try simp only [List.getElem_toArray, List.getElem_cons_succ, List.getElem_cons_zero, Act.put, List.setIfInBounds_toArray, List.set_cons_zero, List.set_cons_succ]
  refine wpAnyH_take (i := 8) (v := ?vv27) rfl (by kernel_rfl) (by kernel_rfl) (by kernel_rfl) (fun _ _ _ h => h) (Or.inl ⟨by rfl, ?hy27⟩) hHeld ?_
  case hy27 => (intro w hSw; (try dsimp only at hSw); first | (go_simp; done) | (go_simp; with_reducible rfl))
  try simp only [List.getElem_toArray, List.getElem_cons_succ, List.getElem_cons_zero, Act.put, List.setIfInBounds_toArray, List.set_cons_zero, List.set_cons_succ]
  refine wpAnyH_take (i := 9) (v := ?vv28) rfl (by kernel_rfl) (by kernel_rfl) (by kernel_rfl) (fun _ _ _ h => h) (Or.inl ⟨by rfl, ?hy28⟩) hHeld ?_
  case hy28 => (intro w hSw; (try dsimp only at hSw); first | (go_simp; done) | (go_simp; with_reducible rfl))
  try simp only [List.getElem_toArray, List.getElem_cons_succ, List.getElem_cons_zero, Act.put, List.setIfInBounds_toArray, List.set_cons_zero, List.set_cons_succ]
  refine wpAnyH_take (i := 10) (v := ?vv29) rfl (by kernel_rfl) (by kernel_rfl) (by kernel_rfl) (fun _ _ _ h => h) (Or.inl ⟨by rfl, ?hy29⟩) hHeld ?_
  case hy29 => (intro w hSw; (try dsimp only at hSw); first | (go_simp; done) | (go_simp; with_reducible rfl))
  try simp only [List.getElem_toArray, List.getElem_cons_succ, List.getElem_cons_zero, Act.put, List.setIfInBounds_toArray, List.set_cons_zero, List.set_cons_succ]
  refine wpAnyH_take (i := 11) (v := ?vv30) rfl (by kernel_rfl) (by kernel_rfl) (by kernel_rfl) (fun _ _ _ h => h) (Or.inl ⟨by rfl, ?hy30⟩) hHeld ?_
  case hy30 => (intro w hSw; (try dsimp only at hSw); first | (go_simp; done) | (go_simp; with_reducible rfl))
  try simp only [List.getElem_toArray, List.getElem_cons_succ, List.getElem_cons_zero, Act.put, List.setIfInBounds_toArray, List.set_cons_zero, List.set_cons_succ]
  refine wpAnyH_take (i := 12) (v := ?vv31) rfl (by kernel_rfl) (by kernel_rfl) (by kernel_rfl) (fun _ _ _ h => h) (Or.inl ⟨by rfl, ?hy31⟩) hHeld ?_
  case hy31 => (intro w hSw; (try dsimp only at hSw); first | (go_simp; done) | (go_simp; with_reducible rfl))
  try simp only [List.getElem_toArray, List.getElem_cons_succ, List.getElem_cons_zero, Act.put, List.setIfInBounds_toArray, List.set_cons_zero, List.set_cons_succ]
  refine wpAnyH_take (i := 13) (v := ?vv32) rfl (by kernel_rfl) (by kernel_rfl) (by kernel_rfl) (fun _ _ _ h => h) (Or.inl ⟨by rfl, ?hy32⟩) hHeld ?_
  case hy32 => (intro w hSw; (try dsimp only at hSw); first | (go_simp; done) | (go_simp; with_reducible rfl))
  try simp only [List.getElem_toArray, List.getElem_cons_succ, List.getElem_cons_zero, Act.put, List.setIfInBounds_toArray, List.set_cons_zero, List.set_cons_succ]
  refine wpAnyH_ready (rs := [14]) (by kernel_rfl) (by simp) ?_
  refine AllReadyH.cons rfl (fun K hK => ?_) AllReadyH.nil
  try simp only [List.getElem_toArray, List.getElem_cons_succ, List.getElem_cons_zero]
  go_simp; refine (cost_any _ _ hs3 hd3).mono ?_; rintro e w' ⟨rfl, rfl⟩; try dsimp only
  refine hK.out _ _ ?_ (fun hHeld => ?_)
  · exact hHeld
  clear hK K
  try simp only [List.getElem_toArray, List.getElem_cons_succ, List.getElem_cons_zero, Act.put, List.setIfInBounds_toArray, List.set_cons_zero, List.set_cons_succ]
  refine wpAnyH_take (i := 15) (v := ?vv33) rfl (by kernel_rfl) (by kernel_rfl) (by kernel_rfl) (fun _ _ _ h => h) (Or.inl ⟨by rfl, ?hy33⟩) hHeld ?_
  case hy33 => (intro w hSw; (try dsimp only at hSw); first | (go_simp; done) | (go_simp; with_reducible rfl))
  try simp only [List.getElem_toArray, List.getElem_cons_succ, List.getElem_cons_zero, Act.put, List.setIfInBounds_toArray, List.set_cons_zero, List.set_cons_succ]
  refine wpAnyH_ready (rs := [16]) (by kernel_rfl) (by simp) ?_
  refine AllReadyH.cons rfl (fun K hK => ?_) AllReadyH.nil
  try simp only [List.getElem_toArray, List.getElem_cons_succ, List.getElem_cons_zero]
  go_simp
  refine hK.out _ _ ?_ (fun hHeld => ?_)
  · go_keep
  clear hK K
  try simp only [List.getElem_toArray, List.getElem_cons_succ, List.getElem_cons_zero, Act.put, List.setIfInBounds_toArray, List.set_cons_zero, List.set_cons_succ]
  refine wpAnyH_ready (rs := [17]) (by kernel_rfl) (by simp) ?_
  refine AllReadyH.cons rfl (fun K hK => ?_) AllReadyH.nil
  try simp only [List.getElem_toArray, List.getElem_cons_succ, List.getElem_cons_zero]
  rw [if_pos (by rfl)]; refine wp_append_lies _ (.tmp 45) (.tmp 57) 36 rfl B 48 i0 (.agg #[.string ByteArray.empty, .string ByteArray.empty, .int .i64 0]) 3 40 Tryd.underlying36 hi hz0 hz1 hz2 rfl (by decide) vS _ _ rfl (hT.alloc _) ⟨w.heap.size, 0, none⟩ 1 1 [.string (nth l 1), .string (nth l 2), .int .i64 (valD (nth l 3).data.toList)] rfl rfl (World.news_of_block (fr := (0, 0)) (heap_alloc_new w _)) (by simp [Value.oneCell']) (by omega) (by unfold maxLen; omega) (by omega) (by simp; omega) _ rfl ?_; intro g' cap' w1 hown hgrow hat hlt
  refine hK.out _ _ ?_ (fun hHeld => ?_)
  · exact ⟨(hgrow.cell_far _ (by simp; omega) (by exact fT)).trans hHeld.1, (hgrow.cell_far _ (by simp; omega) (by exact fT)).trans hHeld.2.1, (hgrow.cell_far _ (by simp; omega) (by exact fT)).trans hHeld.2.2.1, (hgrow.cell_far _ (by simp; omega) (by exact fB)).trans hHeld.2.2.2⟩
  clear hK K
  try simp only [List.getElem_toArray, List.getElem_cons_succ, List.getElem_cons_zero, Act.put, List.setIfInBounds_toArray, List.set_cons_zero, List.set_cons_succ]
  refine wpAnyH_take (i := 18) (v := ?vv34) rfl (by kernel_rfl) (by kernel_rfl) (by kernel_rfl) (fun _ _ _ h => h) (Or.inl ⟨by rfl, ?hy34⟩) hHeld ?_
  case hy34 => (intro w hSw; (try dsimp only at hSw); first | (go_simp; done) | (go_simp; with_reducible rfl))
  try simp only [List.getElem_toArray, List.getElem_cons_succ, List.getElem_cons_zero, Act.put, List.setIfInBounds_toArray, List.set_cons_zero, List.set_cons_succ]
  refine wpAnyH_take (i := 19) (v := ?vv35) rfl (by kernel_rfl) (by kernel_rfl) (by kernel_rfl) (fun _ _ _ h => h) (Or.inl ⟨by rfl, ?hy35⟩) hHeld ?_
  case hy35 => (intro w hSw; (try dsimp only at hSw); first | (go_simp; done) | (go_simp; with_reducible rfl))
  try simp only [List.getElem_toArray, List.getElem_cons_succ, List.getElem_cons_zero, Act.put, List.setIfInBounds_toArray, List.set_cons_zero, List.set_cons_succ]
  refine wpAnyH_take (i := 20) (v := ?vv36) rfl (by kernel_rfl) (by kernel_rfl) (by kernel_rfl) (fun _ _ _ h => h) (Or.inl ⟨by rfl, ?hy36⟩) hHeld ?_
  case hy36 => (intro w hSw; (try dsimp only at hSw); first | (go_simp; done) | (go_simp; with_reducible rfl))
  try simp only [List.getElem_toArray, List.getElem_cons_succ, List.getElem_cons_zero, Act.put, List.setIfInBounds_toArray, List.set_cons_zero, List.set_cons_succ]
  refine wpAnyH_done (by kernel_rfl) ?_ _
  have HS := hHeld.2.2.2
  have hfr : w1.frozen? ⟨gb, 1, none⟩ = false := (hgrow.frozen_far _ (by simp; omega) (by exact fB)).trans (by exact hfo _)
  show wpList _ _ _ _ _ _
  have k0 : w1.cell? ⟨gb, 0, none⟩ = some (.slice aT G.toks.length kT) := (hgrow.cell_far _ (by simp; omega) (by exact fB)).trans (cell_later ((Below.refl _ _).alloc (Nat.le_refl _) _).drew hV.cells.1)
  have k2 : w1.cell? ⟨gb, 2, none⟩ = some (.slice aN G.names.length kN) := (hgrow.cell_far _ (by simp; omega) (by exact fB)).trans (cell_later ((Below.refl _ _).alloc (Nat.le_refl _) _).drew hV.cells.2.2.1)
  have k3 : w1.cell? ⟨gb, 3, none⟩ = some (.slice aR G.rules.length kR) := (hgrow.cell_far _ (by simp; omega) (by exact fB)).trans (cell_later ((Below.refl _ _).alloc (Nat.le_refl _) _).drew hV.cells.2.2.2)
  have hkeep := ((Keeps.refl w vS.ownBlock.toList).alloc (Obj.cells #[.string (nth l 1), .string (nth l 2), .int .i64 (valD (nth l 3).data.toList)] 48)).drew.grown hgrow (fun k hk => .inl (by rw [hk]; simp))
  have hend := hV.addSwp (t := (nth l 1, nth l 2, valD (nth l 3).data.toList)) hkeep hown
  have hbel : Below B w (w1.setCell ⟨gb, 1, none⟩ (.slice (some ⟨g', 0, none⟩) (G.swps.length + 1) cap')) := (hkeep.below hB (own_ge hT)).setCell (by exact hV.hb) _
  have HE : Hid _ := hid hend
  have HB : Hid _ := hid hbel
  clear hend hbel hkeep hown hgrow hat hT hHeld hV hfo
  go_wp2
  all_goals
    go_ret
    refine ⟨ret_int ?_, ⟨_, _, _, _, _, HE.out⟩, HB.out⟩
    unfold totI
    dsimp only
    first | rw [if_pos (by omega)] | (rw [if_neg (by omega)]; rfl)

end Go.Proofs.YtjjggdcnpndgjaaDoor
