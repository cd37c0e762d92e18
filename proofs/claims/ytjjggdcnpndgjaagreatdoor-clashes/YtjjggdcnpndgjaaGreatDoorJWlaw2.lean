/- darnlaw.begun, over what wanted, Compile and the reference's Clashes tell. -/
import Derived.Test.YtjjggdcnpndgjaaGreatDoorJWlaw1
namespace Go.Proofs.YtjjggdcnpndgjaaGreatDoor
open Go.RowKit

set_option maxHeartbeats 1000000 in
set_option maxRecDepth 100000 in
/-- The text is refused by both. -/
theorem begun_bad (s : ByteArray) (w : World) (nm : ByteArray) (err : Int) (he : err ≠ 0)
    (hC : Calls Tryz.prog 35 #[.string s] w fun e w' => e = .returned (.tuple #[.pointer none, .int .i64 err]) ∧ Below w.heap.size w w')
    (hW : ∀ W, Below w.heap.size w W → Calls Tryz.prog 46 #[.string s] W fun e w' => ∃ p, e = .returned (.tuple #[.pointer p, .string nm, .int .i64 err]) ∧ Below W.heap.size W w') :
    Calls Tryz.prog 18 #[.string s] w fun e w' => ∃ p, e = .returned (.tuple #[.pointer none, .pointer p, .bool true]) ∧ Below w.heap.size w w' := by
  have HC : Hid _ := hid hC
  have HW : Hid _ := hid hW
  have hne : (err == 0) = false := by simpa using he
  have heq : (err == err) = true := by simp
  have hnn : (err != 0) = true := by simpa using he
  clear hC hW
  go_enter Tryz.func18, Tryz.ntmps18
  go_wp2_with (first
    | (go_at_call 35; refine HC.out.mono ?_; rintro e w1 ⟨rfl, hb1⟩; have HB1 : Hid _ := hid hb1; clear hb1 HC)
    | (go_at_call 46; refine (HW.out _ HB1.out).mono ?_; rintro e w2 ⟨p, rfl, hb2⟩; have HB2 : Hid _ := hid hb2; clear hb2 HW)
    | (go_at_call 17; refine (num_any' _ _).mono ?_; rintro e w3 ⟨rfl, rfl⟩))
  go_ret3
  exact ⟨p, rfl, HB1.out.trans (HB2.out.mono HB1.out.size)⟩

set_option maxHeartbeats 1000000 in
set_option maxRecDepth 100000 in
/-- A clash: Compile gives none. -/
theorem begun_clash (s : ByteArray) (w : World)
    (hC : Calls Tryz.prog 35 #[.string s] w fun e w' => e = .returned (.tuple #[.pointer none, .int .i64 9]) ∧ Below w.heap.size w w')
    (hW : ∀ W, Below w.heap.size w W → Calls Tryz.prog 46 #[.string s] W fun e w' => ∃ gb nm, e = .returned (.tuple #[.pointer (some ⟨gb, 0, none⟩), .string nm, .int .i64 0]) ∧ Below W.heap.size W w' ∧
      Calls Tryz.prog 50 #[.pointer (some ⟨gb, 0, none⟩), .agg #[.string ByteArray.empty, .int .i64 0, .int .i64 0, .string ByteArray.empty]] w' fun e w'' => ∃ a, e = .returned (.tuple #[.bool a, .bool true]) ∧ Below w'.heap.size w' w'') :
    Calls Tryz.prog 18 #[.string s] w fun e w' => ∃ p, e = .returned (.tuple #[.pointer none, .pointer p, .bool true]) ∧ Below w.heap.size w w' := by
  have HC : Hid _ := hid hC
  have HW : Hid _ := hid hW
  clear hC hW
  go_enter Tryz.func18, Tryz.ntmps18
  go_wp2_with (first
    | (go_at_call 35; refine HC.out.mono ?_; rintro e w1 ⟨rfl, hb1⟩; have HB1 : Hid _ := hid hb1; clear hb1 HC)
    | (go_at_call 46; refine (HW.out _ HB1.out).mono ?_; rintro e w2 ⟨gb, nm, rfl, hb2, hk⟩; have HB2 : Hid _ := hid hb2; have HK : Hid _ := hid hk; clear hb2 hk HW)
    | (go_at_call 50; refine HK.out.mono ?_; rintro e w4 ⟨a, rfl, hb4⟩; have HB4 : Hid _ := hid hb4; clear hb4 HK)
    | (go_at_call 17; refine (num_any' _ _).mono ?_; rintro e w3 ⟨rfl, rfl⟩))
  go_ret3
  exact ⟨_, rfl, (HB1.out.trans (HB2.out.mono HB1.out.size)).trans (HB4.out.mono (Nat.le_trans HB1.out.size HB2.out.size))⟩

set_option maxHeartbeats 1000000 in
set_option maxRecDepth 100000 in
/-- A Parser. -/
theorem begun_ok (s : ByteArray) (w : World) (Q : World → Nat → Prop) (hQ : ∀ w1 w2 g, Q w1 g → Below w1.heap.size w1 w2 → Q w2 g)
    (hC : Calls Tryz.prog 35 #[.string s] w fun e w' => ∃ gp, e = .returned (.tuple #[.pointer (some ⟨gp, 0, none⟩), .int .i64 0]) ∧ Q w' gp ∧ Below w.heap.size w w')
    (hW : ∀ W, Below w.heap.size w W → Calls Tryz.prog 46 #[.string s] W fun e w' => ∃ gb nm, e = .returned (.tuple #[.pointer (some ⟨gb, 0, none⟩), .string nm, .int .i64 0]) ∧ Below W.heap.size W w' ∧
      Calls Tryz.prog 50 #[.pointer (some ⟨gb, 0, none⟩), .agg #[.string ByteArray.empty, .int .i64 0, .int .i64 0, .string ByteArray.empty]] w' fun e w'' => ∃ a, e = .returned (.tuple #[.bool a, .bool false]) ∧ Below w'.heap.size w' w'') :
    Calls Tryz.prog 18 #[.string s] w fun e w' => ∃ gp gb, e = .returned (.tuple #[.pointer (some ⟨gp, 0, none⟩), .pointer (some ⟨gb, 0, none⟩), .bool true]) ∧ Q w' gp ∧ Below w.heap.size w w' := by
  have HC : Hid _ := hid hC
  have HW : Hid _ := hid hW
  have HQ : Hid _ := hid hQ
  clear hC hW hQ
  go_enter Tryz.func18, Tryz.ntmps18
  go_wp2_with (first
    | (go_at_call 35; refine HC.out.mono ?_; rintro e w1 ⟨gp, rfl, hq, hb1⟩; have HB1 : Hid _ := hid hb1; have HQ1 : Hid _ := hid hq; clear hb1 hq HC)
    | (go_at_call 46; refine (HW.out _ HB1.out).mono ?_; rintro e w2 ⟨gb, nm, rfl, hb2, hk⟩; have HB2 : Hid _ := hid hb2; have HK : Hid _ := hid hk; clear hb2 hk HW)
    | (go_at_call 50; refine HK.out.mono ?_; rintro e w4 ⟨a, rfl, hb4⟩; have HB4 : Hid _ := hid hb4; clear hb4 HK)
    | (go_at_call 17; refine (num_any' _ _).mono ?_; rintro e w3 ⟨rfl, rfl⟩))
  go_ret3
  exact ⟨gp, gb, rfl, HQ.out _ _ _ HQ1.out (HB2.out.trans (HB4.out.mono HB2.out.size)), (HB1.out.trans (HB2.out.mono HB1.out.size)).trans (HB4.out.mono (Nat.le_trans HB1.out.size HB2.out.size))⟩

end Go.Proofs.YtjjggdcnpndgjaaGreatDoor
