/- darn.Clash and darn.Compile, over what table.Read tells. -/
import Derived.Test.YtjjggdcnpndgjaaGreatDoorJ14
namespace Go.Proofs.YtjjggdcnpndgjaaGreatDoor
open Go.RowKit

set_option maxHeartbeats 2000000 in
set_option maxRecDepth 100000 in
theorem clash_over (s : ByteArray) (w : World) (H : Option Addr → ByteArray → Int → Int → ByteArray → Int → Prop)
    (hR : ∀ W, Below w.heap.size w W → Calls Tryz.prog 49 #[.string s] W fun e w' => ∃ p pn pr po pt err, e = .returned (.tuple #[.pointer p, .agg #[.string pn, .int .i64 pr, .int .i64 po, .string pt], .int .i64 err]) ∧ H p pn pr po pt err ∧ Below W.heap.size W w') :
    Calls Tryz.prog 15 #[.string s] w fun e w' => ∃ p pn pr po pt err, e = .returned (.tuple #[.agg #[.string pn, .int .i64 pr, .int .i64 po, .string pt], .int .i64 err]) ∧ H p pn pr po pt err ∧ Below w.heap.size w w' := by
  have HR : Hid _ := hid hR
  clear hR
  go_enter Tryz.func15, Tryz.ntmps15
  go_wp2_with (go_at_call 49; refine (HR.out _ (bal (Below.refl _ _))).mono ?_; rintro e w2 ⟨p, pn, pr, po, pt, err, rfl, hH, hb2⟩; rw [World.size_alloc] at hb2; have HH : Hid _ := hid hH; have HB : Hid (Below w.heap.size w w2) := hid ((bal (Below.refl _ _)).trans (hb2.mono (by omega))); have h0 := (hb2.block w.heap.size (by omega)).trans (World.alloc_heap_new w _); have HX : Hid _ := hid h0; obtain ⟨g0, g1, g2, g3⟩ : w2.cell? ⟨w.heap.size, 0, none⟩ = some (.string ByteArray.empty) ∧ w2.cell? ⟨w.heap.size, 1, none⟩ = some (.int .i64 0) ∧ w2.cell? ⟨w.heap.size, 2, none⟩ = some (.int .i64 0) ∧ w2.cell? ⟨w.heap.size, 3, none⟩ = some (.string ByteArray.empty) := ⟨block_cell h0, block_cell h0, block_cell h0, block_cell h0⟩; have q0 := block_free (j := 0) h0; have q1 := block_free (j := 1) h0; have q2 := block_free (j := 2) h0; have q3 := block_free (j := 3) h0; have hlt := lt_of_block h0; clear hb2 hH h0 HR)
  have r0 := cells_set (j := 3) (cells_set (j := 2) (cells_set (j := 1) (cells_set (j := 0) HX.out (.string pn)) (.int .i64 pr)) (.int .i64 po)) (.string pt)
  have r1 := (Below.heap_alloc _ (.cells #[.string pn, .int .i64 pr, .int .i64 po, .string pt] 27) _ (lt_of_block r0)).trans r0
  have HBE := ((((HB.out.setCell (p := ⟨w.heap.size, 0, none⟩) (by exact Nat.le_refl _) (.string pn)).setCell (p := ⟨w.heap.size, 1, none⟩) (by exact Nat.le_refl _) (.int .i64 pr)).setCell (p := ⟨w.heap.size, 2, none⟩) (by exact Nat.le_refl _) (.int .i64 po)).setCell (p := ⟨w.heap.size, 3, none⟩) (by exact Nat.le_refl _) (.string pt))
  refine ⟨rfl, _, results_cell1 (p := 2) (t := 3) (ty := 27) rfl _ _ w.heap.size _ _ _ _ rfl r1 Tryz.underlying27 rfl (by kernel_rfl), ?_⟩
  exact ⟨p, pn, pr, po, pt, err, rfl, HH.out, HBE.alloc HBE.size _⟩

set_option maxHeartbeats 2000000 in
set_option maxRecDepth 100000 in
/-- An error: no Parser. -/
theorem compile_bad (s : ByteArray) (w : World) (err : Int) (he : err ≠ 0)
    (hR : Calls Tryz.prog 49 #[.string s] w fun e w' => ∃ p pn pr po pt, e = .returned (.tuple #[.pointer p, .agg #[.string pn, .int .i64 pr, .int .i64 po, .string pt], .int .i64 err]) ∧ Below w.heap.size w w') :
    Calls Tryz.prog 35 #[.string s] w fun e w' => e = .returned (.tuple #[.pointer none, .int .i64 err]) ∧ Below w.heap.size w w' := by
  have HR : Hid _ := hid hR
  have hne : (err == 0) = false := by simpa using he
  clear hR
  go_enter Tryz.func35, Tryz.ntmps35
  go_wp2_with (go_at_call 49; refine HR.out.mono ?_; rintro e w2 ⟨p, pn, pr, po, pt, rfl, hb2⟩; have HB : Hid _ := hid hb2; clear hb2 HR)
  go_ret2
  exact ⟨rfl, bal HB.out⟩

set_option maxHeartbeats 2000000 in
set_option maxRecDepth 100000 in
/-- A Parser of the table. -/
theorem compile_ok (s : ByteArray) (w : World) (Q : World → Nat → Prop) (hQ : ∀ w1 w2 t, Q w1 t → Below w1.heap.size w1 w2 → Q w2 t)
    (hR : Calls Tryz.prog 49 #[.string s] w fun e w' => ∃ tb pn pr po pt, e = .returned (.tuple #[.pointer (some ⟨tb, 0, none⟩), .agg #[.string pn, .int .i64 pr, .int .i64 po, .string pt], .int .i64 0]) ∧ Q w' tb ∧ Below w.heap.size w w') :
    Calls Tryz.prog 35 #[.string s] w fun e w' => ∃ gp, e = .returned (.tuple #[.pointer (some ⟨gp, 0, none⟩), .int .i64 0]) ∧ (∃ tb, w'.cell? ⟨gp, 0, none⟩ = some (.pointer (some ⟨tb, 0, none⟩)) ∧ Q w' tb) ∧ Below w.heap.size w w' := by
  have HR : Hid _ := hid hR
  have HQ : Hid _ := hid hQ
  clear hR hQ
  go_enter Tryz.func35, Tryz.ntmps35
  go_wp2_with (go_at_call 49; refine HR.out.mono ?_; rintro e w2 ⟨tb, pn, pr, po, pt, rfl, hq, hb2⟩; have HB : Hid _ := hid hb2; have HQ2 : Hid _ := hid hq; clear hb2 hq HR)
  go_ret2
  have hbx := box_at (w2.alloc (.cells #[.string pn, .int .i64 pr, .int .i64 po, .string pt] 27)) #[.pointer (some ⟨tb, 0, none⟩)] 113 0
  rw [World.size_alloc] at hbx
  refine ⟨_, rfl, ⟨tb, hbx, HQ.out _ _ _ HQ2.out (bal (bal (Below.refl _ _)))⟩, bal (bal HB.out)⟩

end Go.Proofs.YtjjggdcnpndgjaaGreatDoor
