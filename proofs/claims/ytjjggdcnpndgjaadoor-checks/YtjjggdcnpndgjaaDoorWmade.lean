import Derived.Test.YtjjggdcnpndgjaaDoorProg
import Derived.WalkKit
import Derived.WalkSpells
import Derived.WalkLawsBesides
import Derived.Test.YtjjggdcnpndgjaaDoorPure
namespace Go.Proofs.YtjjggdcnpndgjaaDoor
open Go.RowKit

theorem ret_bool {a b : Bool} (h : a = b) : Ending.returned (.bool b) = .returned (.bool a) := by rw [h]

set_option maxHeartbeats 400000 in
theorem made_any (s : ByteArray) (lo hi n : Int) (w : World) (hs : s.size ≤ 9223372036854775807) :
    Calls Tryd.prog 25 #[.string s, .int .u8 lo, .int .u8 hi, .int .i64 n] w fun e w' => e = .returned (.bool (madeB s.data.toList lo hi n)) ∧ w = w' := by
  go_enter Tryd.func25, Tryd.ntmps25
  go_wp2
  · rename_i h1 h2
    go_ret
    exact ⟨ret_bool (madeB_short h2), rfl⟩
  · rename_i h1 h2
    go_loop [9] (fun i => ∃ k : Nat, k ≤ s.size ∧ i = .int .i64 k ∧ allIn (s.data.toList.take k) lo hi = true) (fun i => s.size - (intOf i).toNat)
    case atStart => exact ⟨0, Nat.zero_le _, rfl, by simp [allIn]⟩
    case round =>
      obtain ⟨k, hk, rfl, hall⟩ := hrel
      by_cases hlt : k < s.size
      · go_wp2
        · go_ret
          exact ⟨ret_bool (madeB_stop hlt (by assumption)), rfl⟩
        · go_round
          case rel => exact ⟨k + 1, by omega, by go_num, allIn_step hlt hall (by assumption)⟩
          case measure => simp [intOf]; omega
        · go_ret
          exact ⟨ret_bool (madeB_stop hlt (.inl (by assumption))), rfl⟩
      · go_wp2
        go_ret
        exact ⟨ret_bool (madeB_yes hlt hall (by assumption)), rfl⟩
  · go_ret
    exact ⟨ret_bool (madeB_short (.inl (by assumption))), rfl⟩

theorem isToken_any (s : ByteArray) (w : World) (hs : s.size ≤ 9223372036854775807) :
    Calls Tryd.prog 14 #[.string s] w fun e w' => e = .returned (.bool (madeB s.data.toList 97 122 8)) ∧ w = w' := by
  go_enter Tryd.func14, Tryd.ntmps14
  go_wp2_with (go_at_call 25; refine (made_any _ _ _ _ _ hs).mono ?_; rintro e w' ⟨rfl, rfl⟩)
  go_ret
  exact ⟨rfl, rfl⟩

theorem isName_any (s : ByteArray) (w : World) (hs : s.size ≤ 9223372036854775807) :
    Calls Tryd.prog 16 #[.string s] w fun e w' => e = .returned (.bool (madeB s.data.toList 65 90 8)) ∧ w = w' := by
  go_enter Tryd.func16, Tryd.ntmps16
  go_wp2_with (go_at_call 25; refine (made_any _ _ _ _ _ hs).mono ?_; rintro e w' ⟨rfl, rfl⟩)
  go_ret
  exact ⟨rfl, rfl⟩

set_option maxHeartbeats 400000 in
theorem rcost_any (s : ByteArray) (w : World) (hs : s.size ≤ 9223372036854775807) :
    Calls Tryd.prog 15 #[.string s] w fun e w' => e = .returned (.bool (costB s.data.toList)) ∧ w = w' := by
  cases hm : madeB s.data.toList 48 57 2
  · go_enter Tryd.func15, Tryd.ntmps15
    go_wp2_with (go_at_call 25; refine (made_any _ _ _ _ _ hs).mono ?_; rintro e w' ⟨rfl, rfl⟩; rw [hm])
    go_ret
    exact ⟨ret_bool (by unfold costB; rw [hm]; rfl), rfl⟩
  · have hpos : 0 < s.size := madeB_pos hm
    go_enter Tryd.func15, Tryd.ntmps15
    go_wp2_with (go_at_call 25; refine (made_any _ _ _ _ _ hs).mono ?_; rintro e w' ⟨rfl, rfl⟩; rw [hm])
    go_ret
    exact ⟨ret_bool (costB_eq hm hpos), rfl⟩

/-- The value of a cost's word. -/
theorem cost_any (s : ByteArray) (w : World) (hs : s.size ≤ 2) (hd : allIn s.data.toList 48 57 = true) :
    Calls Tryd.prog 18 #[.string s] w fun e w' => e = .returned (.int .i64 (valD s.data.toList)) ∧ w = w' := by
  go_enter Tryd.func18, Tryd.ntmps18
  go_wp2
  go_loop [3, 4] (fun n i => ∃ k : Nat, k ≤ s.size ∧ i = .int .i64 k ∧ n = .int .i64 (valD (s.data.toList.take k))) (fun _ i => s.size - (intOf i).toNat)
  case atStart => exact ⟨0, Nat.zero_le _, rfl, by simp [valD]⟩
  case round =>
    obtain ⟨k, hk, rfl, rfl⟩ := hrel
    have hb := valD_bd hs hd k
    by_cases hlt : k < s.size
    · have hd1 := allIn_at hlt hd
      have HS : Hid (valD (s.data.toList.take (k + 1)) = 10 * valD (s.data.toList.take k) + (s[k].toNat : Int) - 48) := valD_step hlt
      clear hd
      go_wp2
      go_round
      case rel => exact ⟨k + 1, by omega, by go_num, by rw [HS.out]⟩
      case measure => simp [intOf]; omega
    · go_wp2
      go_ret
      exact ⟨by rw [List.take_of_length_le (by simp; omega)]; rfl, rfl⟩

set_option maxHeartbeats 400000 in
theorem lineAt_any (s : ByteArray) (a : Nat) (w : World) (hs : s.size ≤ 4000) (ha : a ≤ s.size) :
    Calls Tryd.prog 8 #[.string s, .int .i64 a] w fun e w' => e = .returned (.tuple #[.string (lineB s a).1, .int .i64 (lineB s a).2]) ∧ w = w' := by
  go_enter Tryd.func8, Tryd.ntmps8
  go_wp2
  go_loop [6] (fun i => ∃ k : Nat, a ≤ k ∧ k ≤ s.size ∧ i = .int .i64 k ∧ ∀ j, a ≤ j → j < k → s.data.toList[j]? ≠ some 10) (fun i => s.size - (intOf i).toNat)
  case atStart => exact ⟨a, Nat.le_refl _, ha, rfl, fun j h1 h2 => by omega⟩
  case round =>
    obtain ⟨k, hak, hk, rfl, hno⟩ := hrel
    have HN : Hid (∀ j, a ≤ j → j < k → s.data.toList[j]? ≠ some 10) := hno
    clear hno
    by_cases hlt : k < s.size
    · go_wp2
      · go_ret2
        rw [lineB_found hak hlt (by assumption) HN.out]
        exact ⟨rfl, rfl⟩
      · go_round
        case rel => exact ⟨k + 1, by omega, by omega, by go_num, lineB_next hlt (by assumption) HN.out⟩
        case measure => simp [intOf]; omega
    · go_wp2
      go_ret2
      rw [lineB_none hlt HN.out]
      exact ⟨rfl, rfl⟩

end Go.Proofs.YtjjggdcnpndgjaaDoor
