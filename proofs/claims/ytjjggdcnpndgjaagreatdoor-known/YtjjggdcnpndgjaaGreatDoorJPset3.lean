/- The numbers in a set, the lesser ones first; bits.TrailingZeros32; (Set).All. -/
import Derived.Test.YtjjggdcnpndgjaaGreatDoorJ11
import Derived.Shelf.Spec.TrailingZeros
namespace Go.Proofs.YtjjggdcnpndgjaaGreatDoor
open Go.RowKit Go.Shelf

attribute [local go_sem] Oper.semAt_some

def bitsOf (x : Nat) : List Nat := (List.range 21).filter fun i => x.testBit i

theorem filter_none {α : Type} {p : α → Bool} {l : List α} (h : ∀ a ∈ l, p a = false) : l.filter p = [] := by
  rw [List.filter_eq_nil_iff]
  intro a ha
  rw [h a ha]; simp

theorem bitsOf_low {x y k : Nat} (hk : k < 21) (hb : x.testBit k = true) (hl : ∀ i, i < k → x.testBit i = false) (hy : ∀ i, y.testBit i = (x.testBit i && decide (i ≠ k))) : bitsOf x = k :: bitsOf y := by
  obtain ⟨d, e⟩ : ∃ d, 21 = k + 1 + d := ⟨20 - k, by omega⟩
  unfold bitsOf
  rw [e, List.range_add, List.range_succ]
  simp only [List.filter_append]
  have h1 : (List.range k).filter (fun i => x.testBit i) = [] := filter_none fun i hi => hl i (List.mem_range.1 hi)
  have h2 : (List.range k).filter (fun i => y.testBit i) = [] := filter_none fun i hi => by rw [hy, hl i (List.mem_range.1 hi)]; rfl
  have h3 : ((List.range d).map (k + 1 + ·)).filter (fun i => y.testBit i) = ((List.range d).map (k + 1 + ·)).filter (fun i => x.testBit i) := by
    apply List.filter_congr
    intro i hi
    obtain ⟨j, _, rfl⟩ := List.mem_map.1 hi
    rw [hy]
    simp; omega
  rw [h1, h2, h3]
  have h4 : y.testBit k = false := by rw [hy]; simp
  simp [hb, h4]

theorem bitsOf_zero : bitsOf 0 = [] := filter_none fun i _ => Nat.zero_testBit i

/-- The lowest bit taken away. -/
theorem low_bits (k m : Nat) : (∀ i, i < k → (2 ^ k * (2 * m + 1)).testBit i = false) ∧ (2 ^ k * (2 * m + 1)).testBit k = true ∧ ∀ i, ((2 ^ k * (2 * m + 1)) &&& (2 ^ k * (2 * m + 1) - 1)).testBit i = ((2 ^ k * (2 * m + 1)).testBit i && decide (i ≠ k)) := by
  have h1 : ∀ i, i < k → (2 ^ k * (2 * m + 1)).testBit i = false := fun i hi => by
    rw [Nat.mul_comm, Nat.testBit_mul_two_pow]; simp; omega
  have hp : 0 < 2 ^ k := Nat.pow_pos (by decide)
  have hd1 : (2 ^ k * (2 * m + 1)) / 2 ^ k = 2 * m + 1 := Nat.mul_div_cancel_left _ hp
  have hd2 : (2 ^ k * (2 * m + 1) - 1) / 2 ^ k = 2 * m := by
    rw [Nat.div_eq_iff hp]
    rw [Nat.mul_add, Nat.mul_one, Nat.mul_comm (2 ^ k)]
    omega
  refine ⟨h1, ?_, fun i => ?_⟩
  · have h : ((2 ^ k * (2 * m + 1)) / 2 ^ k).testBit 0 = (2 ^ k * (2 * m + 1)).testBit (0 + k) := Nat.testBit_div_two_pow _ _
    rw [hd1, Nat.zero_add] at h
    rw [← h]
    simp
  · rw [Nat.testBit_and]
    by_cases hi : i < k
    · rw [h1 i hi]; simp
    · obtain ⟨j, rfl⟩ : ∃ j, i = j + k := ⟨i - k, by omega⟩
      have e1 : ((2 ^ k * (2 * m + 1)) / 2 ^ k).testBit j = (2 ^ k * (2 * m + 1)).testBit (j + k) := Nat.testBit_div_two_pow _ _
      have e2 : ((2 ^ k * (2 * m + 1) - 1) / 2 ^ k).testBit j = (2 ^ k * (2 * m + 1) - 1).testBit (j + k) := Nat.testBit_div_two_pow _ _
      rw [hd1] at e1
      rw [hd2] at e2
      cases j with
      | zero =>
        simp only [Nat.zero_add] at e1 e2 ⊢
        rw [← e2]
        simp
      | succ j =>
        rw [← e1, ← e2, Nat.testBit_succ, Nat.testBit_succ, show (2 * m + 1) / 2 = m from by omega, show 2 * m / 2 = m from by omega]
        simp

theorem bitsOf_next {x : Nat} (h0 : x ≠ 0) (hx : x < 2 ^ 21) : bitsOf x = Lib.ctz 32 x :: bitsOf (x &&& (x - 1)) ∧ Lib.ctz 32 x < 21 := by
  have he : Lib.ctz 32 x = Lib.ctzFrom 32 x := by unfold Lib.ctz; rw [if_neg h0]
  rw [he]
  obtain ⟨m, hm, _⟩ := Lib.ctzFrom_spec 32 x (by omega) (by omega)
  obtain ⟨k, hk⟩ : ∃ k, Lib.ctzFrom 32 x = k := ⟨_, rfl⟩
  rw [hk] at hm ⊢
  have hk21 : k < 21 := by
    apply Nat.lt_of_not_le
    intro hle
    have h1 : 2 ^ 21 ≤ 2 ^ k := Nat.pow_le_pow_right (by decide) hle
    have h2 : 2 ^ k ≤ 2 ^ k * (2 * m + 1) := Nat.le_mul_of_pos_right _ (by omega)
    omega
  subst hm
  obtain ⟨l1, l2, l3⟩ := low_bits k m
  exact ⟨bitsOf_low hk21 l2 l1 l3, hk21⟩

theorem and_lt {x : Nat} (h : x < 2 ^ 21) : x &&& (x - 1) < 2 ^ 21 := Nat.lt_of_le_of_lt Nat.and_le_left h

set_option maxHeartbeats 1000000 in
theorem tz_core (x k idx : Nat) (w : World) (hx0 : ((x : Int) == 0) = false)
    (key : bits BinOp.and IntKind.u32 (x : Int) (-(x : Int) % 4294967296) * 125613361 % 4294967296 / 134217728 = (idx : Int))
    (hi : idx < 32) (hk : k < 32) (hcell : w.cell? ⟨1, idx, none⟩ = some (.int .u8 k)) :
    Calls Tryz.prog 182 #[.int .u32 x] w fun e w' => e = .returned (.int .i64 k) ∧ w = w' := by
  go_enter Tryz.func182, Tryz.ntmps182
  go_wp2_with (simp only [key])
  go_ret
  exact ⟨rfl, rfl⟩

theorem tz_any (x : Nat) (hx0 : x ≠ 0) (hx : x < 4294967296) (w : World) (hT : TabAt 1 Lib.deBruijn32tab w) :
    Calls Tryz.prog 182 #[.int .u32 x] w fun e w' => e = .returned (.int .i64 (Lib.ctz 32 x)) ∧ w = w' := by
  obtain ⟨hlow, hk⟩ := Lib.lowest_bit 32 x hx0 hx
  obtain ⟨hi, htab⟩ := Lib.deBruijn32_at _ hk
  have hcell := hT _ hi
  rw [htab] at hcell
  exact tz_core x _ _ w (by simp; omega) (tz32_key x _ hx hx0 hlow) hi hk hcell

theorem TabAt.below {g : Nat} {tab : List Nat} {w w' : World} {B : Nat} (h : TabAt g tab w) (hb : Below B w w') (hg : g < B) : TabAt g tab w' := fun j hj => (hb.cell (by exact hg)).trans (h j hj)

theorem setAll_in (F : Fence) (n : Nat) (hF : F.fn 128) (hro : F.round = none) (s : Int) (w : World) :
    CallsIn F n Tryz.prog 128 #[.int .u32 s] w fun e w' => e = .returned (.func (.func 181) #[] #[.pointer (some ⟨w.heap.size, 0, none⟩)]) ∧ w' = w.alloc (.cells #[.int .u32 s] 214) := by
  refine callsIn_of_wp Tryz.func128 rfl hF ?_ hro
  simp only [Tryz.ntmps128, List.size_toArray, List.length_cons, List.length_nil, Nat.reduceAdd, Nat.reduceSub, Array.replicate_succ, Array.replicate_zero, List.push_toArray, List.append_toArray, List.nil_append, List.cons_append]
  gi_wp2
  go_ret
  exact ⟨rfl, rfl⟩

end Go.Proofs.YtjjggdcnpndgjaaGreatDoor
