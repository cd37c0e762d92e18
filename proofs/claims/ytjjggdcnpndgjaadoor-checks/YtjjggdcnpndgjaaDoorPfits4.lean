import Derived.Test.YtjjggdcnpndgjaaDoorPfits2
namespace Go.Proofs.YtjjggdcnpndgjaaDoor
open Go.RowKit

theorem rule_fail {l : List ByteArray} {i : Nat} (hi : i < 2) (h : kindB (if i = 0 then 2 else 4) (nth l (1 + i)) = false) : ruleLineB l = false := by
  have h' : i = 0 ∨ i = 1 := by omega
  unfold ruleLineB headB
  rcases h' with rfl | rfl
  · have h2 : nameB (nth l 1) = false := h
    rw [h2]; simp
  · have h2 : ((nth l 2).toList == [61]) = false := h
    rw [h2]; simp

theorem rule_yes {l : List ByteArray} (hl : 3 ≤ l.length) (h : ∀ i, i < 2 → kindB (if i = 0 then 2 else 4) (nth l (1 + i)) = true) : ruleLineB l = partsFrom l 3 := by
  unfold ruleLineB headB partsFrom
  have h1 : nameB (nth l 1) = true := h 0 (by omega)
  have h2 : ((nth l 2).toList == [61]) = true := h 1 (by omega)
  rw [h1, h2, decide_eq_true hl]; simp

set_option maxHeartbeats 1000000 in
set_option maxRecDepth 100000 in
theorem fits_rule (l : List ByteArray) (ad : Option Addr) (g n cap : Nat) (x : ByteArray) (w : World) (hG : Glob w) (hl : l.length = 1 + n) (hn : n ≤ 4000) (hnc : n ≤ cap) (hcap : cap ≤ 9223372036854775807) (hs : ∀ i, (nth l i).size ≤ 4000) (hc : StrsAt w g 0 l) (had : 0 < n → ad = some ⟨g, 1, none⟩) :
    Calls Tryd.prog 28 #[.agg #[.string x, .int .i64 2, .int .i64 4, .int .i64 5], .slice ad n cap] w fun e w' => e = .returned (.bool (ruleLineB l)) ∧ Below w.heap.size w w' := by
  go_enter Tryd.func28, Tryd.ntmps28
  go_wp2
  have i0 : ∀ w, (Instr.index 61 (.agg #[.int .i64 2, .int .i64 4, .int .i64 5]) (.int .i64 0)).run Tryd.prog w = .ok (.int .i64 2) w := fun _ => by kernel_rfl
  have i1 : ∀ w, (Instr.index 61 (.agg #[.int .i64 2, .int .i64 4, .int .i64 5]) (.int .i64 1)).run Tryd.prog w = .ok (.int .i64 4) w := fun _ => by kernel_rfl
  have i2 : ∀ w, (Instr.index 61 (.agg #[.int .i64 2, .int .i64 4, .int .i64 5]) (.int .i64 2)).run Tryd.prog w = .ok (.int .i64 5) w := fun _ => by kernel_rfl
  have hb0 : Below w.heap.size w (w.alloc (.cells #[.string x, .int .i64 2, .int .i64 4, .int .i64 5] 63)) := (Below.refl _ _).alloc (Nat.le_refl _) _
  have HB0 : Hid _ := hid hb0
  have HC : Hid (StrsAt w g 0 l) := hid hc
  have HG : Hid (Glob w) := hid hG
  have HL : Hid (l.length = 1 + n) := hid hl
  clear hc hG hl hb0
  go_loopw [1, 9] (fun v c wr => ∃ (k m cap' : Nat) (ad' : Option Addr), k ≤ 2 ∧ m ≤ cap' ∧ m ≤ 4000 ∧ cap' ≤ 9223372036854775807 ∧ c = .int .i64 k ∧ v = .slice ad' m cap' ∧ Hid (m + k = n) ∧ Hid (0 < m → ad' = some ⟨g, 1 + k, none⟩) ∧
      Hid (∀ i, i < k → kindB (if i = 0 then 2 else 4) (nth l (1 + i)) = true) ∧ Hid (Below w.heap.size w wr)) (fun _ c _ => 3 - (intOf c).toNat)
  case atStart => exact ⟨0, n, cap, ad, by omega, by omega, by omega, by omega, rfl, rfl, rfl, had, fun i h => by omega, HB0⟩
  case round =>
    clear had HB0
    obtain ⟨k, m, cap', ad', hk3, hmc, hm4, hc6, rfl, rfl, hmk, had, hpre, hbr⟩ := hrel
    have hGr := HG.out.below hbr.out HG.out.size
    have HGr : Hid (Glob wr) := hid hGr
    have HCr : Hid (StrsAt wr g 0 l) := hid (HC.out.later hbr.out)
    clear hGr
    by_cases hk : k = 2
    · subst hk
      have HF : Hid (ruleLineB l = partsFrom l 3) := hid (rule_yes (by have := HL.out; have := hmk.out; omega) hpre.out)
      have hsl := hs
      have hll : l.length ≤ 4001 := by have := HL.out; omega
      have hlm : l.length = 3 + m := by have := HL.out; have := hmk.out; omega
      have HLM : Hid (l.length = 3 + m) := hid hlm
      clear hlm hs
      go_wp2_with (go_at_call 34; refine (allParts_any l _ g 3 m cap' _ HLM.out hll hsl HCr.out had.out).mono ?_; rintro e w1 ⟨rfl, rfl⟩)
      go_ret
      exact ⟨ret_bool HF.out, hbr.out⟩
    · by_cases hm : m = 0
      · have hf : ruleLineB l = false := by
          unfold ruleLineB headB; rw [decide_eq_false (by have := HL.out; have := hmk.out; omega)]; rfl
        have HF : Hid (ruleLineB l = false) := hid hf
        clear hf
        have hk' : k = 0 ∨ k = 1 := by omega
        subst hm
        clear hk
        rcases hk' with rfl | rfl
        all_goals
          go_wp2
          go_ret
          exact ⟨ret_bool HF.out, hbr.out⟩
      · have had2 := had.out (by omega)
        have hk' : k = 0 ∨ k = 1 := by omega
        have ck : wr.cell? ⟨g, 1 + k, none⟩ = some (.string (nth l (1 + k))) := by simpa using HCr.out.2 (1 + k) (by have := HL.out; have := hmk.out; omega)
        have hsk := hs (1 + k)
        subst had2
        clear hk hs
        rcases hk' with rfl | rfl
        · cases hkb : kindB 2 (nth l (1 + 0))
          · have HF : Hid (ruleLineB l = false) := hid (rule_fail (i := 0) (by omega) hkb)
            go_wp2_with (go_at_call 35; refine (has_any _ _ _ (by omega) HGr.out hsk).mono ?_; rintro e w1 ⟨rfl, hb⟩; rw [hkb])
            go_ret
            exact ⟨ret_bool HF.out, hbr.out.trans (hb.mono hbr.out.size)⟩
          · have HP : Hid (∀ i, i < 0 + 1 → kindB (if i = 0 then 2 else 4) (nth l (1 + i)) = true) := hid (upto_next hpre.out hkb)
            go_wp2_with (go_at_call 35; refine (has_any _ _ _ (by omega) HGr.out hsk).mono ?_; rintro e w1 ⟨rfl, hb⟩; rw [hkb])
            go_roundw
            case rel => exact ⟨0 + 1, m - 1, cap' - 1, _, by omega, by omega, by omega, by omega, by go_num, rfl, hid (by have := hmk.out; omega), hid (fun h => by rw [if_neg (by omega)]), HP, hid (hbr.out.trans (hb.mono hbr.out.size))⟩
            case measure => simp [intOf]
        · cases hkb : kindB 4 (nth l (1 + 1))
          · have HF : Hid (ruleLineB l = false) := hid (rule_fail (i := 1) (by omega) hkb)
            go_wp2_with (go_at_call 35; refine (has_any _ _ _ (by omega) HGr.out hsk).mono ?_; rintro e w1 ⟨rfl, hb⟩; rw [hkb])
            go_ret
            exact ⟨ret_bool HF.out, hbr.out.trans (hb.mono hbr.out.size)⟩
          · have HP : Hid (∀ i, i < 1 + 1 → kindB (if i = 0 then 2 else 4) (nth l (1 + i)) = true) := hid (upto_next hpre.out hkb)
            go_wp2_with (go_at_call 35; refine (has_any _ _ _ (by omega) HGr.out hsk).mono ?_; rintro e w1 ⟨rfl, hb⟩; rw [hkb])
            go_roundw
            case rel => exact ⟨1 + 1, m - 1, cap' - 1, _, by omega, by omega, by omega, by omega, by go_num, rfl, hid (by have := hmk.out; omega), hid (fun h => by rw [if_neg (by omega)]), HP, hid (hbr.out.trans (hb.mono hbr.out.size))⟩
            case measure => simp [intOf]

end Go.Proofs.YtjjggdcnpndgjaaDoor
