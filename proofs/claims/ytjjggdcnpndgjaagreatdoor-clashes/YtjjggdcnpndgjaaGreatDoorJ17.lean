/- The program's source.Read of a text that is a grammar. darnlaw.wanted. -/
import Derived.Test.YtjjggdcnpndgjaaGreatDoorJPblt3
import Derived.Test.YtjjggdcnpndgjaaGreatDoorJ9
import Derived.Test.YtjjggdcnpndgjaaGreatDoorJ2
namespace Go.Proofs.YtjjggdcnpndgjaaGreatDoor
open Go.RowKit Go.Shelf

theorem nmW_names {P : List Ln} {G : Gr} (h : GOk P G) : ∀ i, i < (ngL P).nN → nmW (pgL (codeL P) P) i = nth G.names i := by
  intro i hi
  rw [ngL_nN] at hi
  unfold nmW nth
  rw [h.g.names, List.getD_eq_getElem?_getD, List.getD_eq_getElem?_getD, Int.toNat_natCast]
  unfold pgL
  rw [List.getElem?_map, List.getElem?_eq_getElem hi]
  simp [G0, hi, nmOf]

/-- source.Read of a grammar. -/
theorem sread_any (s : ByteArray) (w : World) (hG : Glob w) (hs : s.size ≤ 9223372036854775807) (he : (readB s).1 = 0) :
    Calls Tryz.prog 105 #[.string s] w fun e w' => ∃ adT capT gN capN, e = .returned (.tuple #[.agg #[.slice adT (ngL (progL (scanA s 0).1)).nT capT, .slice (some ⟨gN, 0, none⟩) (ngL (progL (scanA s 0).1)).nN capN], .int .i64 0]) ∧ (∀ W'', (∀ q, w.heap.size ≤ q → q < w'.heap.size → W''.heap[q]? = w'.heap[q]?) → PGr W'' w'.heap.size (ngL (progL (scanA s 0).1)) (twsL (progL (scanA s 0).1)) (pgL (codeL (progL (scanA s 0).1)) (progL (scanA s 0).1)) adT capT gN capN) ∧ Below w.heap.size w w' := by
  have hp : (progB s).1 = 0 := by rw [prog_same]; exact he
  have h4 : s.size ≤ 4000 := by
    rcases Nat.lt_or_ge 4000 s.size with h | h
    · unfold progB at hp; rw [if_pos h] at hp; cases hp
    · exact h
  exact sread_ok s w hG hs (lines_ok s) hp _ _ _ (fun W B v pv hb hV => built_any _ _ (gok_of s he) (lines_ok s h4) W (hG.below hb hG.size) B v pv hV)

end Go.Proofs.YtjjggdcnpndgjaaGreatDoor

namespace Go.Proofs.YtjjggdcnpndgjaaGreatDoor
open Go.RowKit

/-- The text is none. -/
theorem wanted_bad (s : ByteArray) (w : World) (hs : s.size ≤ 9223372036854775807) (he : (readB s).1 ≠ 0) :
    Calls Tryz.prog 46 #[.string s] w fun e w' => ∃ p, e = .returned (.tuple #[.pointer p, .string ByteArray.empty, .int .i64 (readB s).1]) ∧ Below w.heap.size w w' := by
  have CR := read_any s w hs
  have HCR : Hid _ := hid CR
  have HE : Hid ((readB s).1 ≠ 0) := hid he
  obtain ⟨er, her⟩ : ∃ er, (readB s).1 = er := ⟨_, rfl⟩
  rw [her] at he ⊢
  have HER : Hid ((readB s).1 = er) := hid her
  have hne : (er == 0) = false := by simpa using he
  clear CR her
  go_enter Tryz.func46, Tryz.ntmps46
  go_wp2_with (go_at_call 74; refine HCR.out.mono ?_; rintro e w1 ⟨p, rfl, hb1, hp, _⟩; obtain rfl := hp HE.out; rw [HER.out]; have HB1 : Hid _ := hid hb1; clear hb1 hp HCR)
  go_ret3
  exact ⟨none, rfl, HB1.out⟩

/-- The text is a grammar: what is wasted in it. -/
theorem wanted_ok (s : ByteArray) (w : World) (hs : s.size ≤ 9223372036854775807) (he : (readB s).1 = 0) (N : NG) (hR : Rep (readB s).2.2 N) :
    Calls Tryz.prog 46 #[.string s] w fun e w' => ∃ gb, e = .returned (.tuple #[.pointer (some ⟨gb, 0, none⟩), .string (wasteB (readB s).2.2 N).1, .int .i64 (wasteB (readB s).2.2 N).2]) ∧ GrAt w' w.heap.size gb (readB s).2.2 ∧ Below w.heap.size w w' := by
  have CR := read_any s w hs
  have HCR : Hid _ := hid CR
  have HE : Hid ((readB s).1 = 0) := hid he
  have HR : Hid _ := hid hR
  clear CR he hR
  go_enter Tryz.func46, Tryz.ntmps46
  go_wp2_with (first
    | (go_at_call 74; refine HCR.out.mono ?_; rintro e w1 ⟨p, rfl, hb1, _, hg⟩; obtain ⟨gb, rfl, hgr⟩ := hg HE.out; rw [HE.out]; have HB1 : Hid _ := hid hb1; have HG1 : Hid _ := hid hgr; have CW : Hid _ := hid (waste_any _ N HR.out w1 _ gb hgr); clear hb1 hgr hg HCR)
    | (go_at_call 75; refine CW.out.mono ?_; rintro e w2 ⟨rfl, hb2⟩; have HB2 : Hid _ := hid hb2; clear hb2 CW))
  go_ret3
  exact ⟨_, rfl, HG1.out.below HB2.out, HB1.out.trans (HB2.out.mono HB1.out.size)⟩

end Go.Proofs.YtjjggdcnpndgjaaGreatDoor
