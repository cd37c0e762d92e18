/- darnlaw.clashed and Clashes, over what wanted, Clash and the reference's Clashes tell. -/
import Derived.Test.YtjjggdcnpndgjaaGreatDoorJWclash3
namespace Go.Proofs.YtjjggdcnpndgjaaGreatDoor
open Go.RowKit

set_option maxHeartbeats 1000000 in
set_option maxRecDepth 100000 in
/-- The text is refused: the pair speaks of the name. -/
theorem clashed_bad (s : ByteArray) (w : World) (nm : ByteArray) (err : Int) (he : err ≠ 0)
    (hW : ∀ W, Below w.heap.size w W → Calls Tryz.prog 46 #[.string s] W fun e w' => ∃ p, e = .returned (.tuple #[.pointer p, .string nm, .int .i64 err]) ∧ Below W.heap.size W w') :
    Calls Tryz.prog 16 #[.string s, .agg #[.string nm, .int .i64 0, .int .i64 0, .string ByteArray.empty], .int .i64 err] w fun e w' => e = .returned (.tuple #[.int .i64 err, .bool true]) ∧ Below w.heap.size w w' := by
  have HW : Hid _ := hid hW
  have hne : (err == 0) = false := by simpa using he
  have heq : (err == err) = true := by simp
  have hnm : (nm.toList == nm.toList) = true := by simp
  clear hW
  go_enter Tryz.func16, Tryz.ntmps16
  go_wp2_with (go_at_call 46; refine (HW.out _ (box4 w _ _ _ _ _)).mono ?_; rintro e w1 ⟨p, rfl, hb1⟩; rw [World.size_alloc] at hb1; obtain ⟨p0, p1, p2, p3, hlw⟩ := pair_cells _ _ _ _ _ hb1; have HB1 : Hid _ := hid (below_box hb1); clear hb1 HW)
  go_quiet (fail)
  go_wp2
  go_ret2
  exact ⟨rfl, HB1.out.trans ((below_draws _ _).mono HB1.out.size)⟩

set_option maxHeartbeats 1000000 in
set_option maxRecDepth 100000 in
/-- A clash is told. -/
theorem clashed_hit (s : ByteArray) (w : World) (pn pt : ByteArray) (pr po : Int)
    (hW : ∀ W, Below w.heap.size w W → Calls Tryz.prog 46 #[.string s] W fun e w' => ∃ gb nm, e = .returned (.tuple #[.pointer (some ⟨gb, 0, none⟩), .string nm, .int .i64 0]) ∧ Below W.heap.size W w' ∧
      Calls Tryz.prog 50 #[.pointer (some ⟨gb, 0, none⟩), .agg #[.string pn, .int .i64 pr, .int .i64 po, .string pt]] w' fun e w'' => e = .returned (.tuple #[.bool true, .bool false]) ∧ Below w'.heap.size w' w'') :
    Calls Tryz.prog 16 #[.string s, .agg #[.string pn, .int .i64 pr, .int .i64 po, .string pt], .int .i64 9] w fun e w' => e = .returned (.tuple #[.int .i64 9, .bool true]) ∧ Below w.heap.size w w' := by
  have HW : Hid _ := hid hW
  clear hW
  go_enter Tryz.func16, Tryz.ntmps16
  go_wp2_with (first
    | (go_at_call 46; refine (HW.out _ (box4 w _ _ _ _ _)).mono ?_; rintro e w1 ⟨gb, nm, rfl, hb1, hC⟩; rw [World.size_alloc] at hb1; obtain ⟨p0, p1, p2, p3, hlw⟩ := pair_cells _ _ _ _ _ hb1; have HB1 : Hid _ := hid (below_box hb1); have HC : Hid _ := hid hC; clear hb1 hC HW)
    | (go_at_call 50; refine HC.out.mono ?_; rintro e w2 ⟨rfl, hb2⟩; have HB2 : Hid _ := hid hb2; clear hb2 HC))
  go_ret2
  exact ⟨rfl, HB1.out.trans (HB2.out.mono HB1.out.size)⟩

set_option maxHeartbeats 1000000 in
set_option maxRecDepth 100000 in
/-- None is told. -/
theorem clashed_none (s : ByteArray) (w : World)
    (hW : ∀ W, Below w.heap.size w W → Calls Tryz.prog 46 #[.string s] W fun e w' => ∃ gb nm, e = .returned (.tuple #[.pointer (some ⟨gb, 0, none⟩), .string nm, .int .i64 0]) ∧ Below W.heap.size W w' ∧
      Calls Tryz.prog 50 #[.pointer (some ⟨gb, 0, none⟩), .agg #[.string ByteArray.empty, .int .i64 0, .int .i64 0, .string ByteArray.empty]] w' fun e w'' => ∃ a, e = .returned (.tuple #[.bool a, .bool false]) ∧ Below w'.heap.size w' w'') :
    Calls Tryz.prog 16 #[.string s, .agg #[.string ByteArray.empty, .int .i64 0, .int .i64 0, .string ByteArray.empty], .int .i64 0] w fun e w' => e = .returned (.tuple #[.int .i64 0, .bool true]) ∧ Below w.heap.size w w' := by
  have HW : Hid _ := hid hW
  clear hW
  go_enter Tryz.func16, Tryz.ntmps16
  go_wp2_with (first
    | (go_at_call 46; refine (HW.out _ (box4 w _ _ _ _ _)).mono ?_; rintro e w1 ⟨gb, nm, rfl, hb1, hC⟩; rw [World.size_alloc] at hb1; obtain ⟨p0, p1, p2, p3, hlw⟩ := pair_cells _ _ _ _ _ hb1; have HB1 : Hid _ := hid (below_box hb1); have HC : Hid _ := hid hC; clear hb1 hC HW)
    | (go_at_call 50; refine HC.out.mono ?_; rintro e w2 ⟨a, rfl, hb2⟩; have q0 := (hb2.cell (p := ⟨w.heap.size, 0, none⟩) (by exact hlw)).trans p0; have q1 := (hb2.cell (p := ⟨w.heap.size, 1, none⟩) (by exact hlw)).trans p1; have q2 := (hb2.cell (p := ⟨w.heap.size, 2, none⟩) (by exact hlw)).trans p2; have q3 := (hb2.cell (p := ⟨w.heap.size, 3, none⟩) (by exact hlw)).trans p3; have HB2 : Hid _ := hid hb2; have hlw2 := Nat.lt_of_lt_of_le hlw hb2.size; clear hb2 HC p0 p1 p2 p3))
  go_quiet (fail)
  go_wp2
  go_ret2
  exact ⟨rfl, HB1.out.trans ((HB2.out.trans ((below_draws _ _).mono HB2.out.size)).mono HB1.out.size)⟩

theorem num_any' (n : Int) (w : World) : Calls Tryz.prog 17 #[.int .i64 n] w fun e w' => e = .returned (.int .i64 n) ∧ w = w' := by
  go_enter Tryz.func17, Tryz.ntmps17
  go_wp2
  go_ret
  exact ⟨rfl, rfl⟩

set_option linter.unusedSimpArgs false in
set_option maxHeartbeats 1000000 in
set_option maxRecDepth 100000 in
/-- darnlaw.Clashes is true where clashed is, of what Clash tells. -/
theorem clashes_of (s : ByteArray) (w : World) (hC : Calls Tryz.prog 15 #[.string s] w fun e w' => ∃ pn pt pr po err, e = .returned (.tuple #[.agg #[.string pn, .int .i64 pr, .int .i64 po, .string pt], .int .i64 err]) ∧ Below w.heap.size w w' ∧
      ∀ W, Below w.heap.size w W → Calls Tryz.prog 16 #[.string s, .agg #[.string pn, .int .i64 pr, .int .i64 po, .string pt], .int .i64 err] W fun e w' => ∃ m, e = .returned (.tuple #[.int .i64 m, .bool true]) ∧ Below W.heap.size W w') :
    Calls Tryz.prog 4 #[.string s] w fun e w' => e = .returned (.bool true) ∧ Below w.heap.size w w' := by
  have HC : Hid _ := hid hC
  clear hC
  go_enter Tryz.func4, Tryz.ntmps4
  go_wp2_with (go_at_call 15; refine HC.out.mono ?_; rintro e w1 ⟨pn, pt, pr, po, err, rfl, hb1, hK⟩; have HB1 : Hid _ := hid hb1; have HK : Hid _ := hid hK; clear hb1 hK HC)
  have g0 := box_cell w1 #[.string pn, .int .i64 pr, .int .i64 po, .string pt] 27 0
  have g1 := box_cell w1 #[.string pn, .int .i64 pr, .int .i64 po, .string pt] 27 1
  have g2 := box_cell w1 #[.string pn, .int .i64 pr, .int .i64 po, .string pt] 27 2
  have g3 := box_cell w1 #[.string pn, .int .i64 pr, .int .i64 po, .string pt] 27 3
  have hbw : Below w.heap.size w (w1.alloc (.cells #[.string pn, .int .i64 pr, .int .i64 po, .string pt] 27)) := HB1.out.alloc HB1.out.size _
  have hlw : w1.heap.size < (w1.alloc (.cells #[.string pn, .int .i64 pr, .int .i64 po, .string pt] 27)).heap.size := by rw [World.size_alloc]; omega
  obtain ⟨W2, hW2⟩ : ∃ W2, w1.alloc (.cells #[.string pn, .int .i64 pr, .int .i64 po, .string pt] 27) = W2 := ⟨_, rfl⟩
  rw [hW2] at g0 g1 g2 g3 hbw hlw ⊢
  have g0 : W2.cell? ⟨w1.heap.size, 0, none⟩ = some (.string pn) := g0
  have g1 : W2.cell? ⟨w1.heap.size, 1, none⟩ = some (.int .i64 pr) := g1
  have g2 : W2.cell? ⟨w1.heap.size, 2, none⟩ = some (.int .i64 po) := g2
  have g3 : W2.cell? ⟨w1.heap.size, 3, none⟩ = some (.string pt) := g3
  have hlw2 : w1.heap.size < W2.drew.heap.size := hlw
  clear hW2
  refine wp_region_held_drew (S := fun w' => w'.cell? ⟨w1.heap.size, 0, none⟩ = some (.string pn) ∧ w'.cell? ⟨w1.heap.size, 1, none⟩ = some (.int .i64 pr) ∧ w'.cell? ⟨w1.heap.size, 2, none⟩ = some (.int .i64 po) ∧ w'.cell? ⟨w1.heap.size, 3, none⟩ = some (.string pt) ∧ Below w.heap.size w w') (by kernel_rfl) ⟨g0, g1, g2, g3, hbw.drew⟩ (fun hHeld => ?_)
  refine tkA 0 ?vv34 rfl ?hy34 hHeld ?_
  case hy34 => (intro w hSw; (try dsimp only at hSw); first | (go_simp; done) | (go_simp; with_reducible rfl))
  try simp only [zA, zC, Act.put, zD, zE, zF]
  refine tkA 1 ?vv27 rfl ?hy27 hHeld ?_
  case hy27 => (intro w hSw; (try dsimp only at hSw); first | (go_simp; done) | (go_simp; with_reducible rfl))
  try simp only [zA, zB, zC, Act.put, zD, zE, zF]
  refine tkA 2 ?vv28 rfl ?hy28 hHeld ?_
  case hy28 => (intro w hSw; (try dsimp only at hSw); first | (go_simp; done) | (go_simp; with_reducible rfl))
  try simp only [zA, zB, zC, Act.put, zD, zE, zF]
  refine wpAnyH_ready (rs := [3]) (by kernel_rfl) (by simp) ?_
  refine AllReadyH.cons rfl (fun K hK => ?_) AllReadyH.nil
  try simp only [zA, zB, zC]
  go_simp; refine (num_any' _ _).mono ?_; rintro e w' ⟨rfl, rfl⟩; try dsimp only
  refine hK.out _ _ ?_ (fun hHeld => ?_)
  · exact hHeld
  clear hK K
  try simp only [zA, zB, zC, Act.put, zD, zE, zF]
  refine wpAnyH_ready (rs := [4]) (by kernel_rfl) (by simp) ?_
  refine AllReadyH.cons rfl (fun K hK => ?_) AllReadyH.nil
  try simp only [zA, zB, zC]
  go_simp; refine (HK.out _ hHeld.2.2.2.2).mono ?_; rintro e w5 ⟨m, rfl, hb5⟩; try dsimp only
  refine hK.out _ _ ?_ (fun hHeld => ?_)
  · exact ⟨(hb5.cell (by exact hlw2)).trans hHeld.1, (hb5.cell (by exact hlw2)).trans hHeld.2.1, (hb5.cell (by exact hlw2)).trans hHeld.2.2.1, (hb5.cell (by exact hlw2)).trans hHeld.2.2.2.1, hHeld.2.2.2.2.trans (hb5.mono hHeld.2.2.2.2.size)⟩
  clear hK K
  try simp only [zA, zB, zC, Act.put, zD, zE, zF]
  refine tkA 5 ?vv29 rfl ?hy29 hHeld ?_
  case hy29 => (intro w hSw; (try dsimp only at hSw); first | (go_simp; done) | (go_simp; with_reducible rfl))
  try simp only [zA, zB, zC, Act.put, zD, zE, zF]
  refine tkA 6 ?vv30 rfl ?hy30 hHeld ?_
  case hy30 => (intro w hSw; (try dsimp only at hSw); first | (go_simp; done) | (go_simp; with_reducible rfl))
  try simp only [zA, zB, zC, Act.put, zD, zE, zF]
  refine tkA 7 ?vv31 rfl ?hy31 hHeld ?_
  case hy31 => (intro w hSw; (try dsimp only at hSw); first | (go_simp; done) | (go_simp; with_reducible rfl))
  try simp only [zA, zB, zC, Act.put, zD, zE, zF]
  refine tkA 8 ?vv32 rfl ?hy32 hHeld ?_
  case hy32 => (intro w hSw; (try dsimp only at hSw); first | (go_simp; done) | (go_simp; with_reducible rfl))
  try simp only [zA, zB, zC, Act.put, zD, zE, zF]
  refine tkA 9 ?vv33 rfl ?hy33 hHeld ?_
  case hy33 => (intro w hSw; (try dsimp only at hSw); first | (go_simp; done) | (go_simp; with_reducible rfl))
  try simp only [zA, zB, zC, Act.put, zD, zE, zF]
  refine wpAnyH_done (by kernel_rfl) ?_ _
  have HBE : Hid _ := hid hHeld.2.2.2.2
  clear hHeld g0 g1 g2 g3 hb5
  go_wp2
  go_ret
  exact ⟨rfl, HBE.out⟩

end Go.Proofs.YtjjggdcnpndgjaaGreatDoor
