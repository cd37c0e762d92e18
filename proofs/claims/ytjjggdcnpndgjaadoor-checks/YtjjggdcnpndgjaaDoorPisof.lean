import Derived.Test.YtjjggdcnpndgjaaDoorShelf
import Derived.Test.YtjjggdcnpndgjaaDoorAtoi
import Derived.Test.YtjjggdcnpndgjaaDoorHeap
import Derived.Test.YtjjggdcnpndgjaaDoorWmade
namespace Go.Proofs.YtjjggdcnpndgjaaDoor
open Go.RowKit

set_option maxHeartbeats 400000 in
theorem isOf_any (s : ByteArray) (lo hi : Int) (w : World) (hs : s.size ≤ 9223372036854775807) :
    Calls Tryd.prog 40 #[.string s, .int .u8 lo, .int .u8 hi] w fun e w' => e = .returned (.bool (allIn s.data.toList lo hi && !s.toList.isEmpty)) ∧ w = w' := by
  go_enter Tryd.func40, Tryd.ntmps40
  go_wp2
  go_loop [10] (fun i => ∃ k : Nat, k ≤ s.size ∧ i = .int .i64 k ∧ Hid (allIn (s.data.toList.take k) lo hi = true)) (fun i => s.size - (intOf i).toNat)
  case atStart => exact ⟨0, Nat.zero_le _, rfl, by show _ = _; simp [allIn]⟩
  case round =>
    obtain ⟨k, hk, rfl, hall⟩ := hrel
    by_cases hlt : k < s.size
    · go_wp2
      · go_ret
        exact ⟨ret_bool (by rw [allIn_stop hlt (by assumption)]; rfl), rfl⟩
      · go_round
        case rel => exact ⟨k + 1, by omega, by go_num, allIn_step hlt hall.out (by assumption)⟩
        case measure => simp [intOf]; omega
      · go_ret
        exact ⟨ret_bool (by rw [allIn_stop hlt (.inl (by assumption))]; rfl), rfl⟩
    · go_wp2
      go_ret
      exact ⟨ret_bool (by rw [allIn_done hlt hall.out]; rfl), rfl⟩

end Go.Proofs.YtjjggdcnpndgjaaDoor
