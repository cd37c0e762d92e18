/- darn.Check and the law Checks over it. -/
import Derived.Test.YtjjggdcnpndgjaaDoorPcheck
import Derived.Test.YtjjggdcnpndgjaaDoorWread2
namespace Go.Proofs.YtjjggdcnpndgjaaDoor
open Go.RowKit

theorem dcheck_any (s : ByteArray) (w : World) (hG : Glob w) (hs : s.size ≤ 9223372036854775807) (hok : s.size ≤ 4000 → LinesOk (progL (scanA s 0).1)) :
    Calls Tryd.prog 4 #[.string s] w fun e w' => e = .returned (okRet (progB s)) ∧ Below w.heap.size w w' := by
  have cC := check_any s w hG hs hok
  obtain ⟨r1, r2, hr⟩ : ∃ r1 r2, progB s = (r1, r2) := ⟨_, _, rfl⟩
  rw [hr] at cC ⊢
  have CC : Hid (Calls Tryd.prog 7 #[.string s] w fun e w' => e = .returned (.tuple #[.int .i64 r1, .int .i64 r2]) ∧ Below w.heap.size w w') := hid cC
  clear cC hr hok hG
  go_enter Tryd.func4, Tryd.ntmps4
  go_wp2_with (first | (go_at_call 7; refine CC.out.mono ?_; rintro e w1 ⟨rfl, hb1⟩))
  go_ret2
  exact ⟨rfl, hb1⟩

theorem num_any (n : Int) (w : World) : Calls Tryd.prog 6 #[.int .i64 n] w fun e w' => e = .returned (.int .i64 n) ∧ w = w' := by
  go_enter Tryd.func6, Tryd.ntmps6
  go_wp2
  go_ret
  exact ⟨rfl, rfl⟩

set_option maxHeartbeats 1000000 in
set_option maxRecDepth 100000 in
theorem law_any (s : ByteArray) (w : World) (hG : Glob w) (hs : s.size ≤ 9223372036854775807) (hok : s.size ≤ 4000 → LinesOk (progL (scanA s 0).1)) (hpr : progB s = ((readB s).1, (readB s).2.1)) :
    Calls Tryd.prog 3 #[.string s] w fun e w' => e = .returned (.bool true) ∧ Below w.heap.size w w' := by
  have cC := dcheck_any s w hG hs hok
  obtain ⟨r1, r2, hr⟩ : ∃ r1 r2, progB s = (r1, r2) := ⟨_, _, rfl⟩
  rw [hr] at cC hpr
  injection hpr with e1 e2
  have CC : Hid (Calls Tryd.prog 4 #[.string s] w fun e w' => e = .returned (.tuple #[.int .i64 r1, .int .i64 r2]) ∧ Below w.heap.size w w') := hid cC
  have CR : Hid (∀ W, Calls Tryd.prog 5 #[.string s] W fun e w' => (∃ p, e = .returned (.tuple #[p, .int .i64 r1, .int .i64 r2])) ∧ Below W.heap.size W w') := hid fun W => by
    refine (read_any s W hs).mono ?_
    rintro e w' ⟨p, he, hb, _⟩
    exact ⟨⟨p, by rw [he, e1, e2]⟩, hb⟩
  clear cC hr hok hG e1 e2
  go_enter Tryd.func3, Tryd.ntmps3
  go_wp2_with (first
    | (go_at_call 4; refine CC.out.mono ?_; rintro e w1 ⟨rfl, hb1⟩)
    | (go_at_call 5; refine (CR.out _).mono ?_; rintro e w2 ⟨⟨p, rfl⟩, hb2⟩)
    | (go_at_call 6; refine (num_any _ _).mono ?_; rintro e w3 ⟨rfl, rfl⟩))
  go_ret
  exact ⟨rfl, hb1.trans (hb2.mono hb1.size)⟩

end Go.Proofs.YtjjggdcnpndgjaaDoor
