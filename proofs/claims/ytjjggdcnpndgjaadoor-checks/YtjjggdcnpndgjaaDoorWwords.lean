import Derived.Test.YtjjggdcnpndgjaaDoorProg
import Derived.Test.YtjjggdcnpndgjaaDoorHeap
namespace Go.Proofs.YtjjggdcnpndgjaaDoor
open Go.RowKit

theorem Tryd.info9 : (Tryd.prog.info? 9).map (fun i => (i.zero, i.size, i.bytes)) = some (some (.string ByteArray.empty), 1, 16) := by kernel_rfl

set_option maxHeartbeats 400000 in
set_option maxRecDepth 100000 in
theorem words_any (s : ByteArray) (w : World) (hs : s.size ≤ 4000) :
    Calls Tryd.prog 10 #[.string s] w fun e w' => ∃ g cap, e = .returned (.slice (some ⟨g, 0, none⟩) (wordsB s).length cap) ∧ w.heap.size ≤ g ∧
      StrsAt w' g 0 (wordsB s) ∧ Below w.heap.size w w' := by
  obtain ⟨i0, hi, hz0, hz1, hz2⟩ := info_parts Tryd.info9
  go_enter Tryd.func10, Tryd.ntmps10
  go_wp2
  go_loopw [3, 4, 5] (fun v c i wr => ∃ (k : Nat) (d : List ByteArray) (cb : ByteArray), k ≤ s.size ∧ i = .int .i64 k ∧ c = .string cb ∧ Hid (wst (s.data.toList.take k) = (d, cb)) ∧
      d.length ≤ k ∧ cb.size ≤ k ∧ wr.ownsRow w.heap.size 9 1 v d.length (d.map Value.string) ∧ Below w.heap.size w wr) (fun _ _ i _ => s.size - (intOf i).toNat)
  case atStart => exact ⟨0, [], ByteArray.empty, Nat.zero_le _, rfl, rfl, by show wst _ = _; rfl, by simp, by simp, World.ownsRow_nil _ _ _ _, Below.refl _ _⟩
  case round =>
    obtain ⟨k, d, cb, hk, rfl, rfl, hw, hdl, hcl, hown, hbel⟩ := hrel
    have hsz := hbel.size
    by_cases hlt : k < s.size
    · cases hb : ((s[k].toNat : Int) == 32)
      · have hadd := fun wx => run_string_add_sum (P := Tryd.prog) wx cb (s.extract k (k + 1)) (by simp; omega)
        go_wp2
        go_roundw
        case rel => exact ⟨k + 1, d, cb ++ s.extract k (k + 1), by omega, by go_num, rfl, wst_other hlt hw.out hb, by omega, by simp; omega, hown, hbel⟩
        case measure => simp [intOf]; omega
      · go_wp2_with (at_builtin; refine wpList_append_own _ rfl _ _ 33 rfl w.heap.size 9 i0 (.string ByteArray.empty) 1 16 Tryd.underlying33 hi hz0 hz1 hz2 rfl (by decide) _ _ _ rfl (hown.alloc _) ⟨wr.heap.size, 0, none⟩ 1 1 [.string cb] rfl rfl (cell_one_new _ _ _) ?c2 ?c3 ?c4 ?c5 ?_)
        case c2 => intro u hu; simp at hu; subst hu; rfl
        case c3 => unfold maxLen; omega
        case c4 => omega
        case c5 => simp; omega
        intro v' w1 hown' hgrow _
        have hbel' := ((hbel.alloc hsz (Obj.cells #[.string cb] 9)).grown hgrow (by simp; omega) (fun g hg => (hown.lt g hg).1))
        go_wp2
        go_roundw
        case rel => exact ⟨k + 1, d ++ [cb], ByteArray.empty, by omega, by go_num, rfl, wst_space hlt hw.out hb, by simp; omega, by simp, by simpa using hown', hbel'⟩
        case measure => simp [intOf]; omega
    · have hend : wordsB s = d ++ [cb] := by
        have h1 := hw.out
        rw [List.take_of_length_le (by simp; omega)] at h1
        unfold wordsB; rw [h1]
      have HE : Hid (wordsB s = d ++ [cb]) := hend
      clear hend
      go_wp2_with (at_builtin; refine wpList_append_own _ rfl _ _ 33 rfl w.heap.size 9 i0 (.string ByteArray.empty) 1 16 Tryd.underlying33 hi hz0 hz1 hz2 rfl (by decide) _ _ _ rfl (hown.alloc _) ⟨wr.heap.size, 0, none⟩ 1 1 [.string cb] rfl rfl (cell_one_new _ _ _) ?d2 ?d3 ?d4 ?d5 ?_)
      case d2 => intro u hu; simp at hu; subst hu; rfl
      case d3 => unfold maxLen; omega
      case d4 => omega
      case d5 => simp; omega
      intro v' w1 hown' hgrow _
      have hbel' := ((hbel.alloc hsz (Obj.cells #[.string cb] 9)).grown hgrow (by simp; omega) (fun g hg => (hown.lt g hg).1))
      obtain ⟨g, cap, hv, hg1, hg2, hg3⟩ := owned_shape hown' (by omega)
      subst hv
      go_wp2
      go_ret
      rw [HE.out]
      exact ⟨g, cap, by simp, hg1, strsAt_owned (by simpa using hown') (by simp), hbel'⟩

end Go.Proofs.YtjjggdcnpndgjaaDoor
