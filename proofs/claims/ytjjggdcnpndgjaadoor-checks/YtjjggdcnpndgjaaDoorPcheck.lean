/- source.Check. -/
import Derived.Test.YtjjggdcnpndgjaaDoorPchk
namespace Go.Proofs.YtjjggdcnpndgjaaDoor
open Go.RowKit

theorem check_any (s : ByteArray) (w : World) (hG : Glob w) (hs : s.size ≤ 9223372036854775807) (hok : s.size ≤ 4000 → LinesOk (progL (scanA s 0).1)) :
    Calls Tryd.prog 7 #[.string s] w fun e w' => e = .returned (okRet (progB s)) ∧ Below w.heap.size w w' := by
  have cC := checked_any s w hG hs hok
  obtain ⟨r1, r2, hr⟩ : ∃ r1 r2, progB s = (r1, r2) := ⟨_, _, rfl⟩
  have CC : Hid (Calls Tryd.prog 13 #[.string s] w fun e w' => (∃ v, e = .returned (.tuple #[v, .int .i64 r1, .int .i64 r2])) ∧ Below w.heap.size w w') := hid (cC.mono (by
    rintro e w' ⟨v, he, _, hb⟩
    rw [hr] at he
    exact ⟨⟨v, he⟩, hb⟩))
  rw [hr]
  clear cC hr hok hG
  go_enter Tryd.func7, Tryd.ntmps7
  go_wp2_with (first | (go_at_call 13; refine CC.out.mono ?_; rintro e w1 ⟨⟨v, rfl⟩, hb1⟩))
  go_ret2
  exact ⟨rfl, hb1⟩

end Go.Proofs.YtjjggdcnpndgjaaDoor
