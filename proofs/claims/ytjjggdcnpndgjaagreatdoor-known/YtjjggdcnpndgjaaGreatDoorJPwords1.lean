/- (Grammar).Word. -/
import Derived.Test.YtjjggdcnpndgjaaGreatDoorJPset4
import Derived.Test.YtjjggdcnpndgjaaGreatDoorJPround2
import Derived.Test.YtjjggdcnpndgjaaGreatDoorJ1
import Derived.RangeFuncBox
import Derived.Maps.AppendAt
namespace Go.Proofs.YtjjggdcnpndgjaaGreatDoor
open Go.RowKit Go.Shelf

/-- How a token is spelt; the END as the empty string. -/
def wordT (tws : List ByteArray) (nT t : Nat) : ByteArray := if t = nT then ByteArray.empty else nth tws t

set_option maxHeartbeats 1000000 in
set_option maxRecDepth 100000 in
theorem word_any (w : World) (n₀ : Nat) (N : NG) (tws : List ByteArray) (pg : List Nm) (adT : Option Addr) (capT gN capN : Nat) (h : PGr w n₀ N tws pg adT capT gN capN) (hn : n₀ ≤ w.heap.size) (t : Nat) (ht : t ≤ N.nT) :
    Calls Tryz.prog 129 #[.agg #[.slice adT N.nT capT, .slice (some ⟨gN, 0, none⟩) N.nN capN], .int .i64 t] w fun e w' => e = .returned (.string (wordT tws N.nT t)) ∧ Below w.heap.size w w' := by
  have hT20 := h.leT
  have CE := end_any (w.alloc (.cells #[.slice adT N.nT capT, .slice (some ⟨gN, 0, none⟩) N.nN capN] 135)) adT N.nT capT gN N.nN capN
  have H : Hid _ := hid h
  clear h
  obtain ⟨nT, hn1⟩ : ∃ n, n = N.nT := ⟨_, rfl⟩
  rw [← hn1] at ht hT20 CE ⊢
  obtain ⟨nN, hn2⟩ : ∃ n, n = N.nN := ⟨_, rfl⟩
  rw [← hn2] at CE ⊢
  have HCE : Hid _ := hid CE
  have HN : Hid (nT = N.nT) := hid hn1
  clear hn1 hn2 CE
  by_cases he : t = nT
  · have HR : Hid (wordT tws nT t = ByteArray.empty) := hid (by unfold wordT; rw [if_pos he])
    subst he
    go_enter Tryz.func129, Tryz.ntmps129
    go_wp2_with (go_at_call 115; refine HCE.out.mono ?_; rintro e w2 ⟨rfl, hb2⟩; have HB : Hid _ := hid hb2; clear hb2)
    go_ret
    exact ⟨by rw [HR.out]; rfl, ((Below.refl _ _).alloc (Nat.le_refl _) _).trans (HB.out.mono (by simp))⟩
  · have hlt : t < nT := by omega
    obtain ⟨gT, rfl, hg, hc, _⟩ := H.out.toks t (by rw [← HN.out]; exact hlt)
    have hgw : gT < w.heap.size := by omega
    have HR : Hid (wordT tws nT t = nth tws t) := hid (by unfold wordT; rw [if_neg he])
    have hne : ((t : Int) == (nT : Int)) = false := by simp; omega
    obtain ⟨s, hs⟩ : ∃ s, nth tws t = s := ⟨_, rfl⟩
    rw [hs] at hc HR
    clear hs
    go_enter Tryz.func129, Tryz.ntmps129
    go_wp2_with (go_at_call 115; refine HCE.out.mono ?_; rintro e w2 ⟨rfl, hb2⟩; have HB : Hid _ := hid hb2; have hx := (hb2.cell (p := ⟨w.heap.size, 0, none⟩) (by simp)).trans (box_at w #[.slice (some ⟨gT, 0, none⟩) nT capT, .slice (some ⟨gN, 0, none⟩) nN capN] 135 0); have hy := (hb2.cell (p := ⟨gT, t * 4, none⟩) (by simp; omega)).trans (box_alloc (.cells #[.slice (some ⟨gT, 0, none⟩) nT capT, .slice (some ⟨gN, 0, none⟩) nN capN] 135) hc); clear hb2)
    go_ret
    exact ⟨by rw [HR.out]; rfl, ((Below.refl _ _).alloc (Nat.le_refl _) _).trans (HB.out.mono (by simp))⟩

end Go.Proofs.YtjjggdcnpndgjaaGreatDoor
