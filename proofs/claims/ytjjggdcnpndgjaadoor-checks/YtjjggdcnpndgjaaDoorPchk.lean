/- source.checkedLines: the lines, or the error and the place. -/
import Derived.Test.YtjjggdcnpndgjaaDoorPlines
import Derived.Test.YtjjggdcnpndgjaaDoorPunk
namespace Go.Proofs.YtjjggdcnpndgjaaDoor
open Go.RowKit

/-- What the program answers. -/
def progB (s : ByteArray) : Int × Int :=
  if 4000 < s.size then (1, 0)
  else if (scanA s 0).2 < s.size then (2, ((scanA s 0).2 : Nat))
  else match twiceB (progL (scanA s 0).1) [] with
    | some a => (3, (a : Int))
    | none => match manyB (progL (scanA s 0).1) 0 0 0 with
      | some a => (4, (a : Int))
      | none => if (progL (scanA s 0).1).any (fun x => x.2.1 == 2) then (match unkL (givenB (progL (scanA s 0).1)) (progL (scanA s 0).1) with
          | some a => (5, (a : Int))
          | none => (0, 0))
        else (4, (s.size : Int))

def okRet (r : Int × Int) : Value := .tuple #[.int .i64 r.1, .int .i64 r.2]

/-- Behind checkedLines. -/
def ChkEnd (s : ByteArray) (w : World) (e : Ending) (w' : World) : Prop :=
  ∃ v, e = .returned (.tuple #[v, .int .i64 (progB s).1, .int .i64 (progB s).2]) ∧ ((progB s).1 = 0 → ∃ B pv, w.heap.size ≤ B ∧ LnV w' B v (progL (scanA s 0).1) pv) ∧ Below w.heap.size w w'

theorem chkEnd_err {s : ByteArray} {w w' : World} {v : Value} {a b : Int} (h : progB s = (a, b)) (ha : a ≠ 0) (hb : Below w.heap.size w w') : ChkEnd s w (.returned (.tuple #[v, .int .i64 a, .int .i64 b])) w' :=
  ⟨v, by rw [h], fun h0 => absurd (by rw [h] at h0; exact h0) ha, hb⟩

theorem chkEnd_ok {s : ByteArray} {w w' : World} {v : Value} {pv : List Value} {L : List (Nat × Nat × List ByteArray)} (h : progB s = (0, 0)) (hL : progL (scanA s 0).1 = L) (hV : LnV w' w.heap.size v L pv) (hb : Below w.heap.size w w') : ChkEnd s w (.returned (.tuple #[v, .int .i64 0, .int .i64 0])) w' :=
  ⟨v, by rw [h], fun _ => ⟨_, pv, Nat.le_refl _, by rw [hL]; exact hV⟩, hb⟩

set_option maxHeartbeats 1000000 in
set_option maxRecDepth 100000 in
theorem checked_any (s : ByteArray) (w : World) (hG : Glob w) (hs : s.size ≤ 9223372036854775807) (hok : s.size ≤ 4000 → LinesOk (progL (scanA s 0).1)) :
    Calls Tryd.prog 13 #[.string s] w fun e w' => ChkEnd s w e w' := by
  by_cases h1 : 4000 < s.size
  · have HE : Hid (progB s = (1, 0)) := hid (by unfold progB; rw [if_pos h1])
    have hi1 : (4000 : Int) < s.size := by omega
    go_enter Tryd.func13, Tryd.ntmps13
    go_wp2
    go_ret3
    exact chkEnd_err HE.out (by decide) (Below.refl _ _)
  · have hi1 : ¬ (4000 : Int) < s.size := by omega
    have hs4 : s.size ≤ 4000 := by omega
    have cL := lines_any s w hG hs4
    have HOK : Hid _ := hid (hok hs4)
    obtain ⟨en, hen⟩ : ∃ en, (scanA s 0).2 = en := ⟨_, rfl⟩
    obtain ⟨L, hL⟩ : ∃ L, progL (scanA s 0).1 = L := ⟨_, rfl⟩
    have HP : Hid (progB s = (if en < s.size then (2, (en : Int)) else match twiceB L [] with
      | some a => (3, (a : Int))
      | none => match manyB L 0 0 0 with
        | some a => (4, (a : Int))
        | none => if L.any (fun x => x.2.1 == 2) then (match unkL (givenB L) L with
            | some a => (5, (a : Int))
            | none => (0, 0))
          else (4, (s.size : Int)) : Int × Int)) := hid (by unfold progB; rw [if_neg h1, hen, hL])
    rw [hen, hL] at cL
    rw [hL] at HOK
    have CL : Hid _ := hid cL
    have HLk : Hid (progL (scanA s 0).1 = L) := hid hL
    clear cL hen hL hok hG
    by_cases h2 : en < s.size
    · have HE : Hid (progB s = (2, (en : Int))) := hid (by rw [HP.out, if_pos h2])
      have hi2 : (en : Int) < s.size := by omega
      clear HP
      go_enter Tryd.func13, Tryd.ntmps13
      go_wp2_with (first | (go_at_call 20; refine CL.out.mono ?_; rintro e w1 ⟨v, pv, rfl, hV, hb1⟩))
      go_ret3
      exact chkEnd_err HE.out (by decide) (hb1)
    · have hi2 : ¬ (en : Int) < s.size := by omega
      have HP2 : Hid _ := hid (HP.out.trans (if_neg h2))
      clear HP
      cases ht : twiceB L [] with
      | some a =>
        have HE : Hid (progB s = (3, (a : Int))) := hid (by rw [HP2.out, ht])
        clear HP2
        have CT : Hid (∀ v pv B W, LnV W B v L pv → Calls Tryd.prog 21 #[v] W fun e w' => e = .returned (.tuple #[.int .i64 a, .bool true]) ∧ Below W.heap.size W w') := hid fun v pv B W hV => by
          have := twice_any v L pv B W hV HOK.out.len HOK.out.ok HOK.out.gsz
          rw [ht] at this
          exact this
        clear ht
        go_enter Tryd.func13, Tryd.ntmps13
        go_wp2_with (first
          | (go_at_call 20; refine CL.out.mono ?_; rintro e w1 ⟨v, pv, rfl, hV, hb1⟩)
          | (go_at_call 21; refine (CT.out _ _ _ _ hV).mono ?_; rintro e w2 ⟨rfl, hb2⟩))
        go_ret3
        exact chkEnd_err HE.out (by decide) (hb1.trans (hb2.mono hb1.size))
      | none =>
        have HP3 : Hid _ := hid (HP2.out)
        rw [ht] at HP3
        clear HP2
        have CT : Hid (∀ v pv B W, LnV W B v L pv → Calls Tryd.prog 21 #[v] W fun e w' => e = .returned (.tuple #[.int .i64 0, .bool false]) ∧ Below W.heap.size W w') := hid fun v pv B W hV => by
          have := twice_any v L pv B W hV HOK.out.len HOK.out.ok HOK.out.gsz
          rw [ht] at this
          exact this
        clear ht
        cases hm : manyB L 0 0 0 with
        | some a =>
          have HE : Hid (progB s = (4, (a : Int))) := hid (by rw [HP3.out, hm])
          clear HP3
          have CM : Hid (∀ v pv B W, LnV W B v L pv → Calls Tryd.prog 22 #[v] W fun e w' => e = .returned (.tuple #[.int .i64 a, .bool true]) ∧ Below W.heap.size W w') := hid fun v pv B W hV => by
            have := many_any v L pv B W hV HOK.out.len HOK.out.ok
            rw [hm] at this
            exact this
          clear hm
          go_enter Tryd.func13, Tryd.ntmps13
          go_wp2_with (first
            | (go_at_call 20; refine CL.out.mono ?_; rintro e w1 ⟨v, pv, rfl, hV, hb1⟩)
            | (go_at_call 21; refine (CT.out _ _ _ _ hV).mono ?_; rintro e w2 ⟨rfl, hb2⟩; have hV2 := hV.below hb2)
            | (go_at_call 22; refine (CM.out _ _ _ _ hV2).mono ?_; rintro e w3 ⟨rfl, hb3⟩))
          go_ret3
          exact chkEnd_err HE.out (by decide) ((hb1.trans (hb2.mono hb1.size)).trans (hb3.mono (Nat.le_trans hb1.size hb2.size)))
        | none =>
          rw [hm] at HP3
          have CM : Hid (∀ v pv B W, LnV W B v L pv → Calls Tryd.prog 22 #[v] W fun e w' => e = .returned (.tuple #[.int .i64 0, .bool false]) ∧ Below W.heap.size W w') := hid fun v pv B W hV => by
            have := many_any v L pv B W hV HOK.out.len HOK.out.ok
            rw [hm] at this
            exact this
          clear hm
          cases hn : L.any (fun x => x.2.1 == 2) with
          | false =>
            have HE : Hid (progB s = (4, (s.size : Int))) := hid (by rw [HP3.out, hn]; rfl)
            clear HP3
            have CN : Hid (∀ v pv B W, LnV W B v L pv → Calls Tryd.prog 23 #[v] W fun e w' => e = .returned (.bool false) ∧ Below W.heap.size W w') := hid fun v pv B W hV => by
              have := hasName_any' v L pv B W hV HOK.out.len
              rw [hn] at this
              exact this
            clear hn
            go_enter Tryd.func13, Tryd.ntmps13
            go_wp2_with (first
              | (go_at_call 20; refine CL.out.mono ?_; rintro e w1 ⟨v, pv, rfl, hV, hb1⟩)
              | (go_at_call 21; refine (CT.out _ _ _ _ hV).mono ?_; rintro e w2 ⟨rfl, hb2⟩; have hV2 := hV.below hb2)
              | (go_at_call 22; refine (CM.out _ _ _ _ hV2).mono ?_; rintro e w3 ⟨rfl, hb3⟩; have hV3 := hV2.below hb3)
              | (go_at_call 23; refine (CN.out _ _ _ _ hV3).mono ?_; rintro e w4 ⟨rfl, hb4⟩))
            go_ret3
            exact chkEnd_err HE.out (by decide) (((hb1.trans (hb2.mono hb1.size)).trans (hb3.mono (Nat.le_trans hb1.size hb2.size))).trans (hb4.mono (Nat.le_trans (Nat.le_trans hb1.size hb2.size) hb3.size)))
          | true =>
            have HE : Hid (progB s = (match unkL (givenB L) L with
              | some a => (5, (a : Int))
              | none => (0, 0) : Int × Int)) := hid (by rw [HP3.out, hn]; rfl)
            clear HP3
            have CN : Hid (∀ v pv B W, LnV W B v L pv → Calls Tryd.prog 23 #[v] W fun e w' => e = .returned (.bool true) ∧ Below W.heap.size W w') := hid fun v pv B W hV => by
              have := hasName_any' v L pv B W hV HOK.out.len
              rw [hn] at this
              exact this
            clear hn
            cases hu : unkL (givenB L) L with
            | some a =>
              have HE2 : Hid (progB s = (5, (a : Int))) := hid (by rw [HE.out, hu])
              have CU : Hid (∀ v pv B W, LnV W B v L pv → Calls Tryd.prog 24 #[v] W fun e w' => e = .returned (.tuple #[.int .i64 a, .bool true]) ∧ Below W.heap.size W w') := hid fun v pv B W hV => by
                have := unknown_any' v L pv B W hV HOK.out
                rw [hu] at this
                exact this
              clear hu HE
              go_enter Tryd.func13, Tryd.ntmps13
              go_wp2_with (first
                | (go_at_call 20; refine CL.out.mono ?_; rintro e w1 ⟨v, pv, rfl, hV, hb1⟩)
                | (go_at_call 21; refine (CT.out _ _ _ _ hV).mono ?_; rintro e w2 ⟨rfl, hb2⟩; have hV2 := hV.below hb2)
                | (go_at_call 22; refine (CM.out _ _ _ _ hV2).mono ?_; rintro e w3 ⟨rfl, hb3⟩; have hV3 := hV2.below hb3)
                | (go_at_call 23; refine (CN.out _ _ _ _ hV3).mono ?_; rintro e w4 ⟨rfl, hb4⟩; have hV4 := hV3.below hb4)
                | (go_at_call 24; refine (CU.out _ _ _ _ hV4).mono ?_; rintro e w5 ⟨rfl, hb5⟩))
              go_ret3
              exact chkEnd_err HE2.out (by decide) ((((hb1.trans (hb2.mono hb1.size)).trans (hb3.mono (Nat.le_trans hb1.size hb2.size))).trans (hb4.mono (Nat.le_trans (Nat.le_trans hb1.size hb2.size) hb3.size))).trans (hb5.mono (Nat.le_trans (Nat.le_trans (Nat.le_trans hb1.size hb2.size) hb3.size) hb4.size)))
            | none =>
              have HE2 : Hid (progB s = (0, 0)) := hid (by rw [HE.out, hu])
              have CU : Hid (∀ v pv B W, LnV W B v L pv → Calls Tryd.prog 24 #[v] W fun e w' => e = .returned (.tuple #[.int .i64 0, .bool false]) ∧ Below W.heap.size W w') := hid fun v pv B W hV => by
                have := unknown_any' v L pv B W hV HOK.out
                rw [hu] at this
                exact this
              clear hu HE
              go_enter Tryd.func13, Tryd.ntmps13
              go_wp2_with (first
                | (go_at_call 20; refine CL.out.mono ?_; rintro e w1 ⟨v, pv, rfl, hV, hb1⟩)
                | (go_at_call 21; refine (CT.out _ _ _ _ hV).mono ?_; rintro e w2 ⟨rfl, hb2⟩; have hV2 := hV.below hb2)
                | (go_at_call 22; refine (CM.out _ _ _ _ hV2).mono ?_; rintro e w3 ⟨rfl, hb3⟩; have hV3 := hV2.below hb3)
                | (go_at_call 23; refine (CN.out _ _ _ _ hV3).mono ?_; rintro e w4 ⟨rfl, hb4⟩; have hV4 := hV3.below hb4)
                | (go_at_call 24; refine (CU.out _ _ _ _ hV4).mono ?_; rintro e w5 ⟨rfl, hb5⟩))
              go_ret3
              exact chkEnd_ok HE2.out (HLk.out) (hV4.below hb5) ((((hb1.trans (hb2.mono hb1.size)).trans (hb3.mono (Nat.le_trans hb1.size hb2.size))).trans (hb4.mono (Nat.le_trans (Nat.le_trans hb1.size hb2.size) hb3.size))).trans (hb5.mono (Nat.le_trans (Nat.le_trans (Nat.le_trans hb1.size hb2.size) hb3.size) hb4.size)))

end Go.Proofs.YtjjggdcnpndgjaaDoor
