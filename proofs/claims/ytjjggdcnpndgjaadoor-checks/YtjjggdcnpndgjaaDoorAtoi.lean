/- A cost's word against strconv.Atoi's plain function. Nothing of the program. -/
import Derived.Lib.AtoiAllCases
import Derived.Lib.AtoiTie
import Derived.Test.YtjjggdcnpndgjaaDoorPure
namespace Go.Proofs.YtjjggdcnpndgjaaDoor
open Go.Lib

theorem parse_digits : ∀ (l : List UInt8) (acc : Nat), allIn l 48 57 = true → parseUint10 acc l = .range ∨ ∃ u, parseUint10 acc l = .ok u ∧ acc * 10 ^ l.length ≤ u := by
  intro l
  induction l with
  | nil => intro acc _; exact .inr ⟨acc, rfl, by simp⟩
  | cons c r ih =>
    intro acc hd
    unfold allIn at hd
    simp only [List.all_cons, Bool.and_eq_true, decide_eq_true_eq] at hd
    simp only [parseUint10]
    rw [if_pos ⟨by omega, by omega⟩]
    by_cases h1 : 1844674407370955162 ≤ acc
    · rw [if_pos h1]; exact .inl rfl
    · rw [if_neg h1]
      by_cases h2 : 18446744073709551616 ≤ acc * 10 + (c.toNat - 48)
      · rw [if_pos h2]; exact .inl rfl
      · rw [if_neg h2]
        rcases ih (acc * 10 + (c.toNat - 48)) (by unfold allIn; exact hd.2) with h | ⟨u, h, hu⟩
        · exact .inl h
        · refine .inr ⟨u, h, Nat.le_trans ?_ hu⟩
          rw [List.length_cons, Nat.pow_succ, Nat.mul_comm (10 ^ r.length) 10, ← Nat.mul_assoc]
          exact Nat.mul_le_mul_right _ (by omega)

theorem atoi_cost (l : List UInt8) (hd : allIn l 48 57 = true) (hne : l ≠ []) (h0 : l.head? ≠ some 48) :
    (atoiAll l = .range ∧ costB l = false) ∨ ∃ v, atoiAll l = .ok v ∧ costB l = decide (v ≤ 99) ∧ (costB l = true → v = valD l) := by
  cases l with
  | nil => exact absurd rfl hne
  | cons c r =>
    have hc : 48 ≤ c.toNat ∧ c.toNat ≤ 57 := by
      unfold allIn at hd
      simp only [List.all_cons, Bool.and_eq_true, decide_eq_true_eq] at hd
      omega
    have hr : allIn r 48 57 = true := by
      unfold allIn at hd ⊢
      simp only [List.all_cons, Bool.and_eq_true] at hd
      exact hd.2
    have hc0 : ¬ c.toNat = 48 := fun e => h0 (by
      rw [List.head?_cons, Option.some.injEq, ← UInt8.toNat_inj]; exact e)
    have hcost : costB (c :: r) = decide (r.length ≤ 1) := by
      unfold costB madeB
      rw [hd]
      have : ((c :: r).head? == some 48) = false := by
        rw [beq_eq_false_iff_ne]; exact h0
      rw [this]
      simp only [List.length_cons, Bool.and_true, Bool.not_false]
      rw [decide_eq_true (p := 1 ≤ r.length + 1) (by omega), Bool.true_and]
      by_cases h : r.length ≤ 1
      · rw [decide_eq_true h, decide_eq_true (by omega)]
      · rw [decide_eq_false h, decide_eq_false (by omega)]
    have hmag : parseMag (c :: r) = parseUint10 (c.toNat - 48) r := by
      unfold parseMag
      rw [if_neg (by simp)]
      simp only [parseUint10]
      rw [if_pos hc, if_neg (by omega), if_neg (by omega)]
      congr 1
      omega
    rw [atoiAll_plain c r (by omega) (by omega), hmag, hcost]
    match r, hr with
    | [], _ =>
      right
      simp only [parseUint10, signless]
      rw [if_neg (by omega)]
      exact ⟨_, rfl, by rw [decide_eq_true (by simp), decide_eq_true (by omega)], fun _ => by simp [valD]; omega⟩
    | [d], hr =>
      right
      have hd' : 48 ≤ d.toNat ∧ d.toNat ≤ 57 := by
        unfold allIn at hr
        simp only [List.all_cons, Bool.and_eq_true, decide_eq_true_eq] at hr
        omega
      simp only [parseUint10]
      rw [if_pos hd', if_neg (by omega), if_neg (by omega)]
      simp only [signless]
      rw [if_neg (by omega)]
      exact ⟨_, rfl, by rw [decide_eq_true (by simp), decide_eq_true (by omega)], fun _ => by simp [valD]; omega⟩
    | d :: e :: q, hr =>
      rcases parse_digits (d :: e :: q) (c.toNat - 48) hr with h | ⟨u, h, hu⟩
      · left
        rw [h]
        exact ⟨rfl, by rw [decide_eq_false (by simp)]⟩
      · rw [h]
        simp only [signless]
        have h5 : 100 ≤ u := by
          refine Nat.le_trans ?_ hu
          have h6 : 10 ^ 2 ≤ 10 ^ (d :: e :: q).length := Nat.pow_le_pow_right (by omega) (by simp)
          calc 100 = 1 * 10 ^ 2 := by decide
            _ ≤ (c.toNat - 48) * 10 ^ (d :: e :: q).length := Nat.mul_le_mul (by omega) h6
        by_cases h7 : 9223372036854775808 ≤ u
        · rw [if_pos h7]
          exact .inl ⟨rfl, by rw [decide_eq_false (by simp)]⟩
        · rw [if_neg h7]
          exact .inr ⟨_, rfl, by rw [decide_eq_false (by simp), decide_eq_false (by omega)], fun h => by simp at h⟩

end Go.Proofs.YtjjggdcnpndgjaaDoor
