/- What a Parser that Compile did not make answers; darnlaw.unmade, walked. -/
import Derived.Test.YtjjggdcnpndgjaaGreatDoorJWlaw1
import Derived.Test.YtjjggdcnpndgjaaGreatDoorJ14
import Derived.Deep.RegionWith
namespace Go.Proofs.YtjjggdcnpndgjaaGreatDoor
open Go.RowKit

/-- No Parser, or one without a table. -/
def ShutP (w : World) (p : Option Addr) : Prop := p = none ∨ ∃ g, p = some ⟨g, 0, none⟩ ∧ w.cell? ⟨g, 0, none⟩ = some (.pointer none)

theorem ShutP.below {w w' : World} {p : Option Addr} (h : ShutP w p) (hb : Below w.heap.size w w') : ShutP w' p := by
  rcases h with h | ⟨g, h1, h2⟩
  · exact .inl h
  · exact .inr ⟨g, h1, (hb.cell (by exact World.block_lt_of_cell? _ _ h2)).trans h2⟩

theorem tokens_shut (p : Option Addr) (w : World) (h : ShutP w p) : Calls Tryz.prog 55 #[.pointer p, .slice none 0 0] w fun e w' => e = .returned (.tuple #[.slice none 0 0, .int .i64 11]) ∧ w = w' := by
  rcases h with rfl | ⟨g, rfl, hc⟩
  · go_enter Tryz.func55, Tryz.ntmps55
    go_wp2
    go_ret2
    exact ⟨rfl, rfl⟩
  · go_enter Tryz.func55, Tryz.ntmps55
    go_wp2
    go_ret2
    exact ⟨rfl, rfl⟩

theorem read_shut (p : Option Addr) (w : World) (h : ShutP w p) : Calls Tryz.prog 37 #[.pointer p, .slice none 0 0] w fun e w' => e = .returned (.tuple #[.slice none 0 0, .int .i64 0, .int .i64 11]) ∧ w = w' := by
  have CT := tokens_shut p w h
  have HCT : Hid _ := hid CT
  clear h CT
  go_enter Tryz.func37, Tryz.ntmps37
  go_wp2_with (go_at_call 55; refine HCT.out.mono ?_; rintro e w2 ⟨rfl, rfl⟩)
  go_ret3
  exact ⟨rfl, rfl⟩

set_option maxHeartbeats 1000000 in
theorem mend_shut (p : Option Addr) (w : World) (h : ShutP w p) : Calls Tryz.prog 22 #[.pointer p, .slice none 0 0] w fun e w' => e = .returned (.tuple #[.agg #[.slice none 0 0, .slice none 0 0, .int .i64 0, .slice none 0 0, .slice none 0 0, .slice none 0 0], .int .i64 11]) ∧ Below w.heap.size w w' := by
  have CT := tokens_shut p (w.alloc (.cells #[.slice none 0 0, .slice none 0 0, .int .i64 0, .slice none 0 0, .slice none 0 0, .slice none 0 0] 48)) (h.below (bal (Below.refl _ _)))
  have HCT : Hid _ := hid CT
  have hn := World.alloc_heap_new w (.cells #[.slice none 0 0, .slice none 0 0, .int .i64 0, .slice none 0 0, .slice none 0 0, .slice none 0 0] 48)
  have HX : Hid _ := hid hn
  clear h CT hn
  go_enter Tryz.func22, Tryz.ntmps22
  go_wp2_with (go_at_call 55; refine HCT.out.mono ?_; rintro e w2 ⟨rfl, rfl⟩)
  refine ⟨rfl, _, results_cell1 (p := 4) (t := 5) (ty := 48) rfl _ _ w.heap.size _ _ _ _ rfl HX.out Tryz.underlying48 rfl (by kernel_rfl), ?_⟩
  exact ⟨rfl, bal (Below.refl _ _)⟩

set_option linter.unusedSimpArgs false in
set_option maxHeartbeats 4000000 in
set_option maxRecDepth 100000 in
theorem unmade_any (w : World) : Calls Tryz.prog 19 #[] w fun e w' => e = .returned (.bool true) ∧ Below w.heap.size w w' := by
  have hs : ∀ W, Below (w.heap.size + 1) (w.alloc (.cells #[.pointer none] 113)) W → ShutP W (some ⟨w.heap.size, 0, none⟩) := fun W hb => .inr ⟨w.heap.size, rfl, (hb.cell (by exact Nat.lt_succ_self _)).trans (box_at w #[.pointer none] 113 0)⟩
  have HS : Hid _ := hid hs
  clear hs
  have hB0 : Below (w.heap.size + 1) (w.alloc (.cells #[.pointer none] 113)) (w.alloc (.cells #[.pointer none] 113)) := Below.refl _ _
  have HB0 : Hid _ := hid hB0
  clear hB0
  go_enter Tryz.func19, Tryz.ntmps19
  go_wp2_with (first
    | (go_at_call_of 37 (Value.pointer none); refine (read_shut none _ (.inl rfl)).mono ?_; rintro e w2 ⟨rfl, rfl⟩)
    | (go_at_call_of 37 (Value.pointer (some ⟨w.heap.size, 0, none⟩)); refine (read_shut (some ⟨w.heap.size, 0, none⟩) _ (HS.out _ HB0.out)).mono ?_; rintro e w2 ⟨rfl, rfl⟩)
    | (go_at_call_of 22 (Value.pointer none); refine (mend_shut none _ (.inl rfl)).mono ?_; rintro e w3 ⟨rfl, hb3⟩; have hs3 := hb3.size; rw [World.size_alloc] at hb3 hs3; have HB3 : Hid _ := hid hb3; clear hb3)
    | (go_at_call_of 22 (Value.pointer (some ⟨w.heap.size, 0, none⟩)); refine (mend_shut (some ⟨w.heap.size, 0, none⟩) _ (HS.out _ (HB3.out.alloc hs3 _))).mono ?_; rintro e w4 ⟨rfl, hb4⟩; rw [World.size_alloc] at hb4; have hl4 : w3.heap.size < w4.heap.size := (by have := hb4.size; rw [World.size_alloc] at this; omega); have m0 : w4.cell? ⟨w3.heap.size, 0, none⟩ = some (.slice none 0 0) := (hb4.cell (by exact Nat.lt_succ_self _)).trans (box_at w3 _ _ 0); have m1 : w4.cell? ⟨w3.heap.size, 1, none⟩ = some (.slice none 0 0) := (hb4.cell (by exact Nat.lt_succ_self _)).trans (box_at w3 _ _ 1); have m2 : w4.cell? ⟨w3.heap.size, 2, none⟩ = some (.int .i64 0) := (hb4.cell (by exact Nat.lt_succ_self _)).trans (box_at w3 _ _ 2); have m3 : w4.cell? ⟨w3.heap.size, 3, none⟩ = some (.slice none 0 0) := (hb4.cell (by exact Nat.lt_succ_self _)).trans (box_at w3 _ _ 3); have m4 : w4.cell? ⟨w3.heap.size, 4, none⟩ = some (.slice none 0 0) := (hb4.cell (by exact Nat.lt_succ_self _)).trans (box_at w3 _ _ 4); have m5 : w4.cell? ⟨w3.heap.size, 5, none⟩ = some (.slice none 0 0) := (hb4.cell (by exact Nat.lt_succ_self _)).trans (box_at w3 _ _ 5); have HB4 : Hid _ := hid hb4; clear hb4)
    | (go_at_call 17; refine (num_any' _ _).mono ?_; rintro e w5 ⟨rfl, rfl⟩))
  go_ret
  exact ⟨rfl, bal (((bal (Below.refl _ _)).trans (HB3.out.mono (by omega))).trans ((bal (Below.refl w3.heap.size w3)).mono (by omega) |>.trans (HB4.out.mono (by omega))))⟩

end Go.Proofs.YtjjggdcnpndgjaaGreatDoor
