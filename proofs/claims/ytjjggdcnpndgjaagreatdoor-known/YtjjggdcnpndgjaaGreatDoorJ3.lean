/- A cost's word against strconv.Atoi's plain function. Nothing of the program. strings.Split at a blank, strings.Cut at a line's end, as the reference's words and lines. Nothing of the program. The program's lines, as lists, and as they lie in a world. -/
import Derived.Lib.AtoiAllCases
import Derived.Lib.AtoiTie
import Derived.Test.YtjjggdcnpndgjaaGreatDoorJ1
import Derived.Test.YtjjggdcnpndgjaaGreatDoorShelf
import Derived.Deep.RegionWith
import Derived.Lib.SplitLaws
import Derived.Test.YtjjggdcnpndgjaaGreatDoorJ2
namespace Go.Proofs.YtjjggdcnpndgjaaGreatDoor
open Go.Lib

theorem parse_digits : ∀ (l : List UInt8) (acc : Nat), allIn l 48 57 = true → parseUint10 acc l = .range ∨ ∃ u, parseUint10 acc l = .ok u ∧ acc * 10 ^ l.length ≤ u := by
  intro l
  induction l with
  | nil => intro acc _; exact .inr ⟨acc, rfl, by simp⟩
  | cons c r ih =>
    intro acc hd
    unfold allIn at hd
    simp only [List.all_cons, Bool.and_eq_true, decide_eq_true_eq] at hd
    simp only [parseUint10]
    rw [if_pos ⟨by omega, by omega⟩]
    by_cases h1 : 1844674407370955162 ≤ acc
    · rw [if_pos h1]; exact .inl rfl
    · rw [if_neg h1]
      by_cases h2 : 18446744073709551616 ≤ acc * 10 + (c.toNat - 48)
      · rw [if_pos h2]; exact .inl rfl
      · rw [if_neg h2]
        rcases ih (acc * 10 + (c.toNat - 48)) (by unfold allIn; exact hd.2) with h | ⟨u, h, hu⟩
        · exact .inl h
        · refine .inr ⟨u, h, Nat.le_trans ?_ hu⟩
          rw [List.length_cons, Nat.pow_succ, Nat.mul_comm (10 ^ r.length) 10, ← Nat.mul_assoc]
          exact Nat.mul_le_mul_right _ (by omega)

theorem atoi_cost (l : List UInt8) (hd : allIn l 48 57 = true) (hne : l ≠ []) (h0 : l.head? ≠ some 48) :
    (atoiAll l = .range ∧ costB l = false) ∨ ∃ v, atoiAll l = .ok v ∧ costB l = decide (v ≤ 99) ∧ (costB l = true → v = valD l) := by
  cases l with
  | nil => exact absurd rfl hne
  | cons c r =>
    have hc : 48 ≤ c.toNat ∧ c.toNat ≤ 57 := by
      unfold allIn at hd
      simp only [List.all_cons, Bool.and_eq_true, decide_eq_true_eq] at hd
      omega
    have hr : allIn r 48 57 = true := by
      unfold allIn at hd ⊢
      simp only [List.all_cons, Bool.and_eq_true] at hd
      exact hd.2
    have hc0 : ¬ c.toNat = 48 := fun e => h0 (by
      rw [List.head?_cons, Option.some.injEq, ← UInt8.toNat_inj]; exact e)
    have hcost : costB (c :: r) = decide (r.length ≤ 1) := by
      unfold costB madeB
      rw [hd]
      have : ((c :: r).head? == some 48) = false := by
        rw [beq_eq_false_iff_ne]; exact h0
      rw [this]
      simp only [List.length_cons, Bool.and_true, Bool.not_false]
      rw [decide_eq_true (p := 1 ≤ r.length + 1) (by omega), Bool.true_and]
      by_cases h : r.length ≤ 1
      · rw [decide_eq_true h, decide_eq_true (by omega)]
      · rw [decide_eq_false h, decide_eq_false (by omega)]
    have hmag : parseMag (c :: r) = parseUint10 (c.toNat - 48) r := by
      unfold parseMag
      rw [if_neg (by simp)]
      simp only [parseUint10]
      rw [if_pos hc, if_neg (by omega), if_neg (by omega)]
      congr 1
      omega
    rw [atoiAll_plain c r (by omega) (by omega), hmag, hcost]
    match r, hr with
    | [], _ =>
      right
      simp only [parseUint10, signless]
      rw [if_neg (by omega)]
      exact ⟨_, rfl, by rw [decide_eq_true (by simp), decide_eq_true (by omega)], fun _ => by simp [valD]; omega⟩
    | [d], hr =>
      right
      have hd' : 48 ≤ d.toNat ∧ d.toNat ≤ 57 := by
        unfold allIn at hr
        simp only [List.all_cons, Bool.and_eq_true, decide_eq_true_eq] at hr
        omega
      simp only [parseUint10]
      rw [if_pos hd', if_neg (by omega), if_neg (by omega)]
      simp only [signless]
      rw [if_neg (by omega)]
      exact ⟨_, rfl, by rw [decide_eq_true (by simp), decide_eq_true (by omega)], fun _ => by simp [valD]; omega⟩
    | d :: e :: q, hr =>
      rcases parse_digits (d :: e :: q) (c.toNat - 48) hr with h | ⟨u, h, hu⟩
      · left
        rw [h]
        exact ⟨rfl, by rw [decide_eq_false (by simp)]⟩
      · rw [h]
        simp only [signless]
        have h5 : 100 ≤ u := by
          refine Nat.le_trans ?_ hu
          have h6 : 10 ^ 2 ≤ 10 ^ (d :: e :: q).length := Nat.pow_le_pow_right (by omega) (by simp)
          calc 100 = 1 * 10 ^ 2 := by decide
            _ ≤ (c.toNat - 48) * 10 ^ (d :: e :: q).length := Nat.mul_le_mul (by omega) h6
        by_cases h7 : 9223372036854775808 ≤ u
        · rw [if_pos h7]
          exact .inl ⟨rfl, by rw [decide_eq_false (by simp)]⟩
        · rw [if_neg h7]
          exact .inr ⟨_, rfl, by rw [decide_eq_false (by simp), decide_eq_false (by omega)], fun h => by simp at h⟩

end Go.Proofs.YtjjggdcnpndgjaaGreatDoor

namespace Go.Proofs.YtjjggdcnpndgjaaGreatDoor
open Go.RowKit

set_option maxHeartbeats 400000 in
theorem isOf_any (s : ByteArray) (lo hi : Int) (w : World) (hs : s.size ≤ 9223372036854775807) :
    Calls Tryz.prog 225 #[.string s, .int .u8 lo, .int .u8 hi] w fun e w' => e = .returned (.bool (allIn s.data.toList lo hi && !s.toList.isEmpty)) ∧ w = w' := by
  go_enter Tryz.func225, Tryz.ntmps225
  go_wp2
  go_loop [10] (fun i => ∃ k : Nat, k ≤ s.size ∧ i = .int .i64 k ∧ Hid (allIn (s.data.toList.take k) lo hi = true)) (fun i => s.size - (intOf i).toNat)
  case atStart => exact ⟨0, Nat.zero_le _, rfl, by show _ = _; simp [allIn]⟩
  case round =>
    obtain ⟨k, hk, rfl, hall⟩ := hrel
    by_cases hlt : k < s.size
    · go_wp2
      · go_ret
        exact ⟨ret_bool (by rw [allIn_stop hlt (by assumption)]; rfl), rfl⟩
      · go_round
        case rel => exact ⟨k + 1, by omega, by go_num, allIn_step hlt hall.out (by assumption)⟩
        case measure => simp [intOf]; omega
      · go_ret
        exact ⟨ret_bool (by rw [allIn_stop hlt (.inl (by assumption))]; rfl), rfl⟩
    · go_wp2
      go_ret
      exact ⟨ret_bool (by rw [allIn_done hlt hall.out]; rfl), rfl⟩

end Go.Proofs.YtjjggdcnpndgjaaGreatDoor

namespace Go.Proofs.YtjjggdcnpndgjaaGreatDoor
open Go.RowKit

/-- What the package-level variables hold: the library's that are read, and the table of the lines' shapes. -/
structure Glob (w : World) : Prop where
  size : 9 ≤ w.heap.size
  max : ∃ m, w.cell? ⟨2, 0, none⟩ = some (.int .i64 m)
  rng : ∃ te pe, w.cell? ⟨4, 0, none⟩ = some (.iface te pe)
  shapes : ∃ t fr, w.heap[0]? = some (.cells #[.string ⟨#[116, 111, 107, 101, 110]⟩, .int .i64 1, .int .i64 3, .int .i64 3, .string ⟨#[115, 119, 97, 112]⟩, .int .i64 1, .int .i64 1, .int .i64 3, .string ⟨#[114, 117, 108, 101]⟩, .int .i64 2, .int .i64 4, .int .i64 5] t fr)

theorem Glob.below {w w' : World} (h : Glob w) {B : Nat} (hb : Below B w w') (hB : 9 ≤ B) : Glob w' where
  size := Nat.le_trans h.size hb.size
  max := by obtain ⟨m, hm⟩ := h.max; exact ⟨m, (hb.cell (show 2 < B by omega)).trans hm⟩
  rng := by obtain ⟨te, pe, hm⟩ := h.rng; exact ⟨te, pe, (hb.cell (show 4 < B by omega)).trans hm⟩
  shapes := by obtain ⟨t, fr, hm⟩ := h.shapes; exact ⟨t, fr, (hb.block 0 (by omega)).trans hm⟩

theorem numB_not {s : ByteArray} (h : (allIn s.data.toList 48 57 && !s.toList.isEmpty) = false) : numB s = false := by
  have hlen : s.data.toList.length = s.size := by simp
  have e1 : s.toList = s.data.toList := ByteArray.toList_eq s
  unfold numB costB madeB
  rw [e1] at h
  cases ha : allIn s.data.toList 48 57
  · simp
  · rw [ha] at h
    have : s.data.toList = [] := by simpa using h
    rw [this]; rfl

set_option maxHeartbeats 400000 in
theorem pcost_any (s : ByteArray) (w : World) (hG : Glob w) (hs : s.size ≤ 4000) :
    Calls Tryz.prog 200 #[.string s] w fun e w' => (∃ n, e = .returned (.tuple #[.int .i64 n, .bool (numB s)]) ∧ (numB s = true → n = valD s.data.toList)) ∧ Below w.heap.size w w' := by
  have HG : Hid (Glob w) := hid hG
  clear hG
  cases h1 : (allIn s.data.toList 48 57 && !s.toList.isEmpty)
  · rw [numB_not h1]
    go_enter Tryz.func200, Tryz.ntmps200
    go_wp2_with (go_at_call 225; refine (isOf_any _ _ _ _ (by omega)).mono ?_; rintro e w' ⟨rfl, rfl⟩; rw [h1])
    go_ret2
    exact ⟨⟨_, rfl, fun h => by cases h⟩, Below.refl _ _⟩
  · have hpos : 0 < s.size := by
      rcases Nat.eq_zero_or_pos s.size with h | h
      · exfalso
        have : s.data.toList = [] := List.eq_nil_of_length_eq_zero (by simpa using h)
        rw [ByteArray.toList_eq s, this] at h1
        simp at h1
      · exact h
    have hall : allIn s.data.toList 48 57 = true := by simp only [Bool.and_eq_true] at h1; exact h1.1
    have hhd : s.data.toList.head? = some s[0] := by
      rw [List.head?_eq_getElem?, List.getElem?_eq_getElem (by simpa using hpos)]; rfl
    cases h2 : ((s[0].toNat : Int) == 48)
    · have hne : s.data.toList.head? ≠ some 48 := by
        rw [hhd]
        intro e
        injection e with e
        rw [e] at h2
        exact absurd h2 (by decide)
      have hnil : s.data.toList ≠ [] := by
        intro e; rw [e] at hhd; cases hhd
      rcases atoi_cost s.data.toList hall hnil hne with ⟨ha, hc⟩ | ⟨v, ha, hc, hval⟩
      · obtain ⟨te, pe, hv⟩ := HG.out.rng
        have hn : numB s = false := hc
        rw [hn]
        have cA := fun W hW => Tryz.strconv_Atoi_range s (by omega) ha (.iface te pe) W hW (.inr ⟨te, pe, rfl⟩)
        have CA : Hid _ := hid cA
        clear cA ha hc hn hall hhd hne hnil
        go_enter Tryz.func200, Tryz.ntmps200
        go_wp2_with (first
          | (go_at_call 225; refine (isOf_any _ _ _ _ (by omega)).mono ?_; rintro e w' ⟨rfl, rfl⟩; rw [h1])
          | (go_at_call 226; refine (CA.out _ hv).mono ?_; rintro e w1 ⟨N, rfl, _, _, hb⟩))
        go_ret2
        exact ⟨⟨_, rfl, fun h => by cases h⟩, hb⟩
      · have hn : numB s = decide (v ≤ 99) := hc
        have HVal : Hid (decide (v ≤ 99) = true → v = valD s.data.toList) := hid (fun h => hval (hc.trans h))
        rw [hn]
        have cA := fun W => Tryz.strconv_Atoi_ok s (by omega) v ha W
        have CA : Hid _ := hid cA
        have hvb := Lib.atoiAll_bounds ha
        clear cA ha hc hn hall hhd hne hnil hval
        go_enter Tryz.func200, Tryz.ntmps200
        go_wp2_with (first
          | (go_at_call 225; refine (isOf_any _ _ _ _ (by omega)).mono ?_; rintro e w' ⟨rfl, rfl⟩; rw [h1])
          | (go_at_call 226; refine (CA.out _).mono ?_; rintro e w1 ⟨rfl, hb⟩))
        go_ret2
        refine ⟨⟨_, rfl, HVal.out⟩, ?_⟩
        rcases hb with hb | ⟨t, hb⟩
        · rw [hb]; exact Below.refl _ _
        · rw [hb]; exact Lib.bytesWorld_below _ _ _
    · have hn : numB s = false := by
        unfold numB costB
        have : (s.data.toList.head? == some 48) = true := by
          rw [hhd, beq_iff_eq, Option.some.injEq, ← UInt8.toNat_inj]
          rw [beq_iff_eq] at h2
          show s[0].toNat = 48
          omega
        rw [this]; simp
      rw [hn]
      clear hhd hn
      go_enter Tryz.func200, Tryz.ntmps200
      go_wp2_with (go_at_call 225; refine (isOf_any _ _ _ _ (by omega)).mono ?_; rintro e w' ⟨rfl, rfl⟩; rw [h1])
      go_ret2
      exact ⟨⟨_, rfl, fun h => by cases h⟩, Below.refl _ _⟩

end Go.Proofs.YtjjggdcnpndgjaaGreatDoor

namespace Go.Proofs.YtjjggdcnpndgjaaGreatDoor
open Go.RowKit

theorem tokB_eq (s : ByteArray) : tokB s = (decide ((s.size : Int) ≤ 8) && (allIn s.data.toList 97 122 && !s.toList.isEmpty)) := by
  have hlen : s.data.toList.length = s.size := by simp
  unfold tokB madeB
  rw [ByteArray.toList_eq, hlen]
  cases h : s.data.toList with
  | nil => rw [h] at hlen; rw [decide_eq_false (p := 1 ≤ s.size) (by simp at hlen; omega)]; simp
  | cons a r => rw [h] at hlen; rw [decide_eq_true (p := 1 ≤ s.size) (by simp at hlen; omega)]; simp

theorem nameB_eq (s : ByteArray) : nameB s = (decide ((s.size : Int) ≤ 8) && (allIn s.data.toList 65 90 && !s.toList.isEmpty)) := by
  have hlen : s.data.toList.length = s.size := by simp
  unfold nameB madeB
  rw [ByteArray.toList_eq, hlen]
  cases h : s.data.toList with
  | nil => rw [h] at hlen; rw [decide_eq_false (p := 1 ≤ s.size) (by simp at hlen; omega)]; simp
  | cons a r => rw [h] at hlen; rw [decide_eq_true (p := 1 ≤ s.size) (by simp at hlen; omega)]; simp

theorem has_lower (s : ByteArray) (w : World) (hs : s.size ≤ 4000) :
    Calls Tryz.prog 231 #[.int .i64 1, .string s] w fun e w' => e = .returned (.bool (tokB s)) ∧ w = w' := by
  by_cases h8 : s.size ≤ 8
  · rw [tokB_eq, decide_eq_true (by omega), Bool.true_and]
    go_enter Tryz.func231, Tryz.ntmps231
    go_wp2_with (go_at_call 225; refine (isOf_any _ _ _ _ (by omega)).mono ?_; rintro e w' ⟨rfl, rfl⟩)
    go_ret
    exact ⟨rfl, rfl⟩
  · rw [tokB_eq, decide_eq_false (by omega), Bool.false_and]
    go_enter Tryz.func231, Tryz.ntmps231
    go_wp2
    go_ret
    exact ⟨rfl, rfl⟩

theorem has_upper (s : ByteArray) (w : World) (hs : s.size ≤ 4000) :
    Calls Tryz.prog 231 #[.int .i64 2, .string s] w fun e w' => e = .returned (.bool (nameB s)) ∧ w = w' := by
  by_cases h8 : s.size ≤ 8
  · rw [nameB_eq, decide_eq_true (by omega), Bool.true_and]
    go_enter Tryz.func231, Tryz.ntmps231
    go_wp2_with (go_at_call 225; refine (isOf_any _ _ _ _ (by omega)).mono ?_; rintro e w' ⟨rfl, rfl⟩)
    go_ret
    exact ⟨rfl, rfl⟩
  · rw [nameB_eq, decide_eq_false (by omega), Bool.false_and]
    go_enter Tryz.func231, Tryz.ntmps231
    go_wp2
    go_ret
    exact ⟨rfl, rfl⟩

theorem has_number (s : ByteArray) (w : World) (hG : Glob w) (hs : s.size ≤ 4000) :
    Calls Tryz.prog 231 #[.int .i64 3, .string s] w fun e w' => e = .returned (.bool (numB s)) ∧ Below w.heap.size w w' := by
  have HG : Hid (Glob w) := hid hG
  clear hG
  go_enter Tryz.func231, Tryz.ntmps231
  go_wp2_with (go_at_call 200; refine (pcost_any _ _ HG.out hs).mono ?_; rintro e w1 ⟨⟨n, rfl, _⟩, hb⟩)
  go_ret
  exact ⟨rfl, hb⟩

theorem has_equals (s : ByteArray) (w : World) :
    Calls Tryz.prog 231 #[.int .i64 4, .string s] w fun e w' => e = .returned (.bool (s.toList == [61])) ∧ w = w' := by
  go_enter Tryz.func231, Tryz.ntmps231
  go_wp2
  go_ret
  exact ⟨rfl, rfl⟩

/-- The parts of a line, from a place of its words on. -/
def partsFrom (l : List ByteArray) (j : Nat) : Bool := (l.drop j).all partB

theorem drop_all {l : List ByteArray} {p : ByteArray → Bool} {j : Nat} (hj : j < l.length) : (l.drop j).all p = (p (nth l j) && (l.drop (j + 1)).all p) := by
  rw [List.drop_eq_getElem_cons hj, List.all_cons]
  unfold nth
  rw [List.getD_eq_getElem?_getD, List.getElem?_eq_getElem hj]
  rfl

set_option maxHeartbeats 1000000 in
set_option maxRecDepth 100000 in
/-- All further words: a slice of the line's words from place j on. -/
theorem allParts_any (l : List ByteArray) (ad : Option Addr) (g j n cap : Nat) (w : World) (hl : l.length = j + n) (hn : l.length ≤ 4001) (hs : ∀ i, (nth l i).size ≤ 4000) (hc : StrsAt w g 0 l) (had : 0 < n → ad = some ⟨g, j, none⟩) :
    Calls Tryz.prog 230 #[.slice ad n cap] w fun e w' => e = .returned (.bool (partsFrom l j)) ∧ w = w' := by
  have HC : Hid (StrsAt w g 0 l) := hid hc
  have HL : Hid (l.length = j + n) := hid hl
  have hn2 : n ≤ 4001 := by omega
  rcases Nat.eq_zero_or_pos n with h0 | h0
  · have HE : Hid (partsFrom l j = true) := hid (by unfold partsFrom; rw [List.drop_eq_nil_of_le (by omega)]; rfl)
    subst h0
    clear hc hl had
    go_enter Tryz.func230, Tryz.ntmps230
    go_wp2
    refine wp_loop_rounds 1 ?_
    rw [rounds_succ]
    go_wp2
    go_ret
    exact ⟨ret_bool HE.out, rfl⟩
  · have e := had h0
    subst e
    clear hc hl had
    go_enter Tryz.func230, Tryz.ntmps230
    go_wp2
    go_loop [7] (fun i => ∃ k : Nat, k ≤ n ∧ i = .int .i64 k ∧ Hid (partsFrom l j = partsFrom l (j + k))) (fun i => n - (intOf i).toNat)
    case atStart => exact ⟨0, Nat.zero_le _, rfl, rfl⟩
    case round =>
      obtain ⟨k, hk, rfl, hall⟩ := hrel
      by_cases hlt : k < n
      · have ck : w.cell? ⟨g, j + k, none⟩ = some (.string (nth l (j + k))) := by simpa using HC.out.2 (j + k) (by have := HL.out; omega)
        have hsk := hs (j + k)
        have HP : Hid (partsFrom l j = (partB (nth l (j + k)) && partsFrom l (j + k + 1))) := hid (by rw [hall.out]; unfold partsFrom; exact drop_all (by have := HL.out; omega))
        obtain ⟨x, hx⟩ : ∃ x, x = nth l (j + k) := ⟨_, rfl⟩
        rw [← hx] at ck hsk HP
        clear hx hall hs
        cases hp : (x.toList == [124]) <;> cases hp2 : tokB x <;> cases hp3 : nameB x
        all_goals
          go_wp2_with (first | (go_at_call_of 231 (Value.int .i64 1); refine (has_lower _ _ hsk).mono ?_; rintro e w' ⟨rfl, rfl⟩; rw [hp2]) | (go_at_call_of 231 (Value.int .i64 2); refine (has_upper _ _ hsk).mono ?_; rintro e w' ⟨rfl, rfl⟩; rw [hp3]))
        · go_ret
          exact ⟨ret_bool (by rw [HP.out]; unfold partB barB; rw [hp, hp2, hp3]; rfl), rfl⟩
        all_goals
          go_round
          case rel => exact ⟨k + 1, by omega, by go_num, by rw [HP.out]; unfold partB barB; rw [hp, hp2, hp3]; rfl⟩
          case measure => simp [intOf]; omega
      · have HE : Hid (partsFrom l j = true) := hid (by rw [hall.out]; unfold partsFrom; rw [List.drop_eq_nil_of_le (by have := HL.out; omega)]; rfl)
        go_wp2
        go_ret
        exact ⟨ret_bool HE.out, rfl⟩

end Go.Proofs.YtjjggdcnpndgjaaGreatDoor

namespace Go.Proofs.YtjjggdcnpndgjaaGreatDoor
open Go.RowKit

/-- What a word must be, by the number of its kind. -/
def kindB (k : Int) (s : ByteArray) : Bool := if k = 1 then tokB s else if k = 2 then nameB s else if k = 3 then numB s else s.toList == [61]

theorem has_any (k : Int) (s : ByteArray) (w : World) (hk : k = 1 ∨ k = 2 ∨ k = 3 ∨ k = 4) (hG : Glob w) (hs : s.size ≤ 4000) :
    Calls Tryz.prog 231 #[.int .i64 k, .string s] w fun e w' => e = .returned (.bool (kindB k s)) ∧ Below w.heap.size w w' := by
  rcases hk with rfl | rfl | rfl | rfl
  · exact (has_lower s w hs).mono fun e w' h => ⟨h.1, by rw [← h.2]; exact Below.refl _ _⟩
  · exact (has_upper s w hs).mono fun e w' h => ⟨h.1, by rw [← h.2]; exact Below.refl _ _⟩
  · exact has_number s w hG hs
  · exact (has_equals s w).mono fun e w' h => ⟨h.1, by rw [← h.2]; exact Below.refl _ _⟩

theorem tok_fail {l : List ByteArray} {i : Nat} (hi : i < 3) (h : kindB (if i = 0 then 1 else 3) (nth l (1 + i)) = false) : tokLineB l = false := by
  have h' : i = 0 ∨ i = 1 ∨ i = 2 := by omega
  unfold tokLineB
  rcases h' with rfl | rfl | rfl
  · have h2 : tokB (nth l 1) = false := h
    rw [h2]; simp
  · have h2 : numB (nth l 2) = false := h
    rw [h2]; simp
  · have h2 : numB (nth l 3) = false := h
    rw [h2]; simp

theorem tok_yes {l : List ByteArray} (h : ∀ i, i < 3 → kindB (if i = 0 then 1 else 3) (nth l (1 + i)) = true) : tokLineB l = decide (l.length = 4) := by
  unfold tokLineB
  have h1 : tokB (nth l 1) = true := h 0 (by omega)
  have h2 : numB (nth l 2) = true := h 1 (by omega)
  have h3 : numB (nth l 3) = true := h 2 (by omega)
  rw [h1, h2, h3]; simp

set_option maxHeartbeats 1000000 in
set_option maxRecDepth 100000 in
theorem fits_tok (l : List ByteArray) (ad : Option Addr) (g n cap : Nat) (x : ByteArray) (w : World) (hG : Glob w) (hl : l.length = 1 + n) (hn : n ≤ 4000) (hnc : n ≤ cap) (hcap : cap ≤ 9223372036854775807) (hs : ∀ i, (nth l i).size ≤ 4000) (hc : StrsAt w g 0 l) (had : 0 < n → ad = some ⟨g, 1, none⟩) :
    Calls Tryz.prog 209 #[.agg #[.string x, .int .i64 1, .int .i64 3, .int .i64 3], .slice ad n cap] w fun e w' => e = .returned (.bool (tokLineB l)) ∧ Below w.heap.size w w' := by
  go_enter Tryz.func209, Tryz.ntmps209
  go_wp2
  have i0 : ∀ w, (Instr.index 337 (.agg #[.int .i64 1, .int .i64 3, .int .i64 3]) (.int .i64 0)).run Tryz.prog w = .ok (.int .i64 1) w := fun _ => by kernel_rfl
  have i1 : ∀ w, (Instr.index 337 (.agg #[.int .i64 1, .int .i64 3, .int .i64 3]) (.int .i64 1)).run Tryz.prog w = .ok (.int .i64 3) w := fun _ => by kernel_rfl
  have i2 : ∀ w, (Instr.index 337 (.agg #[.int .i64 1, .int .i64 3, .int .i64 3]) (.int .i64 2)).run Tryz.prog w = .ok (.int .i64 3) w := fun _ => by kernel_rfl
  have hb0 : Below w.heap.size w (w.alloc (.cells #[.string x, .int .i64 1, .int .i64 3, .int .i64 3] 339)) := (Below.refl _ _).alloc (Nat.le_refl _) _
  have HB0 : Hid _ := hid hb0
  have HC : Hid (StrsAt w g 0 l) := hid hc
  have HG : Hid (Glob w) := hid hG
  have HL : Hid (l.length = 1 + n) := hid hl
  clear hc hG hl hb0
  go_loopw [1, 9] (fun v c wr => ∃ (k m cap' : Nat) (ad' : Option Addr), k ≤ 3 ∧ m ≤ cap' ∧ m ≤ 4000 ∧ cap' ≤ 9223372036854775807 ∧ c = .int .i64 k ∧ v = .slice ad' m cap' ∧ Hid (m + k = n) ∧ Hid (0 < m → ad' = some ⟨g, 1 + k, none⟩) ∧
      Hid (∀ i, i < k → kindB (if i = 0 then 1 else 3) (nth l (1 + i)) = true) ∧ Hid (Below w.heap.size w wr)) (fun _ c _ => 3 - (intOf c).toNat)
  case atStart => exact ⟨0, n, cap, ad, by omega, by omega, by omega, by omega, rfl, rfl, rfl, had, fun i h => by omega, HB0⟩
  case round =>
    clear had HB0
    obtain ⟨k, m, cap', ad', hk3, hmc, hm4, hc6, rfl, rfl, hmk, had, hpre, hbr⟩ := hrel
    have hGr := HG.out.below hbr.out HG.out.size
    have HGr : Hid (Glob wr) := hid hGr
    have HCr : Hid (StrsAt wr g 0 l) := hid (HC.out.later hbr.out)
    clear hGr
    by_cases hk : k = 3
    · subst hk
      have HF : Hid (tokLineB l = decide (l.length = 4)) := hid (tok_yes hpre.out)
      go_wp2
      go_ret
      refine ⟨ret_bool ?_, hbr.out⟩
      rw [HF.out, Bool.eq_iff_iff]
      simp only [decide_eq_true_eq, beq_iff_eq]
      have := HL.out
      have := hmk.out
      omega
    · by_cases hm : m = 0
      · have hf : tokLineB l = false := by
          unfold tokLineB; rw [decide_eq_false (by have := HL.out; have := hmk.out; omega)]; rfl
        have HF : Hid (tokLineB l = false) := hid hf
        clear hf
        have hk' : k = 0 ∨ k = 1 ∨ k = 2 := by omega
        subst hm
        clear hk
        rcases hk' with rfl | rfl | rfl
        all_goals
          go_wp2
          go_ret
          exact ⟨ret_bool HF.out, hbr.out⟩
      · have had2 := had.out (by omega)
        have hk' : k = 0 ∨ k = 1 ∨ k = 2 := by omega
        have ck : wr.cell? ⟨g, 1 + k, none⟩ = some (.string (nth l (1 + k))) := by simpa using HCr.out.2 (1 + k) (by have := HL.out; have := hmk.out; omega)
        have hsk := hs (1 + k)
        subst had2
        clear hk hs
        rcases hk' with rfl | rfl | rfl
        · cases hkb : kindB 1 (nth l (1 + 0))
          · have HF : Hid (tokLineB l = false) := hid (tok_fail (i := 0) (by omega) hkb)
            go_wp2_with (go_at_call 231; refine (has_any _ _ _ (by omega) HGr.out hsk).mono ?_; rintro e w1 ⟨rfl, hb⟩; rw [hkb])
            go_ret
            exact ⟨ret_bool HF.out, hbr.out.trans (hb.mono hbr.out.size)⟩
          · have HP : Hid (∀ i, i < 0 + 1 → kindB (if i = 0 then 1 else 3) (nth l (1 + i)) = true) := hid (upto_next hpre.out hkb)
            go_wp2_with (go_at_call 231; refine (has_any _ _ _ (by omega) HGr.out hsk).mono ?_; rintro e w1 ⟨rfl, hb⟩; rw [hkb])
            go_roundw
            case rel => exact ⟨0 + 1, m - 1, cap' - 1, _, by omega, by omega, by omega, by omega, by go_num, rfl, hid (by have := hmk.out; omega), hid (fun h => by rw [if_neg (by omega)]), HP, hid (hbr.out.trans (hb.mono hbr.out.size))⟩
            case measure => simp [intOf]
        · cases hkb : kindB 3 (nth l (1 + 1))
          · have HF : Hid (tokLineB l = false) := hid (tok_fail (i := 1) (by omega) hkb)
            go_wp2_with (go_at_call 231; refine (has_any _ _ _ (by omega) HGr.out hsk).mono ?_; rintro e w1 ⟨rfl, hb⟩; rw [hkb])
            go_ret
            exact ⟨ret_bool HF.out, hbr.out.trans (hb.mono hbr.out.size)⟩
          · have HP : Hid (∀ i, i < 1 + 1 → kindB (if i = 0 then 1 else 3) (nth l (1 + i)) = true) := hid (upto_next hpre.out hkb)
            go_wp2_with (go_at_call 231; refine (has_any _ _ _ (by omega) HGr.out hsk).mono ?_; rintro e w1 ⟨rfl, hb⟩; rw [hkb])
            go_roundw
            case rel => exact ⟨1 + 1, m - 1, cap' - 1, _, by omega, by omega, by omega, by omega, by go_num, rfl, hid (by have := hmk.out; omega), hid (fun h => by rw [if_neg (by omega)]), HP, hid (hbr.out.trans (hb.mono hbr.out.size))⟩
            case measure => simp [intOf]
        · cases hkb : kindB 3 (nth l (1 + 2))
          · have HF : Hid (tokLineB l = false) := hid (tok_fail (i := 2) (by omega) hkb)
            go_wp2_with (go_at_call 231; refine (has_any _ _ _ (by omega) HGr.out hsk).mono ?_; rintro e w1 ⟨rfl, hb⟩; rw [hkb])
            go_ret
            exact ⟨ret_bool HF.out, hbr.out.trans (hb.mono hbr.out.size)⟩
          · have HP : Hid (∀ i, i < 2 + 1 → kindB (if i = 0 then 1 else 3) (nth l (1 + i)) = true) := hid (upto_next hpre.out hkb)
            go_wp2_with (go_at_call 231; refine (has_any _ _ _ (by omega) HGr.out hsk).mono ?_; rintro e w1 ⟨rfl, hb⟩; rw [hkb])
            go_roundw
            case rel => exact ⟨2 + 1, m - 1, cap' - 1, _, by omega, by omega, by omega, by omega, by go_num, rfl, hid (by have := hmk.out; omega), hid (fun h => by rw [if_neg (by omega)]), HP, hid (hbr.out.trans (hb.mono hbr.out.size))⟩
            case measure => simp [intOf]

end Go.Proofs.YtjjggdcnpndgjaaGreatDoor

namespace Go.Proofs.YtjjggdcnpndgjaaGreatDoor
open Go.RowKit

theorem swp_fail {l : List ByteArray} {i : Nat} (hi : i < 3) (h : kindB (if i = 2 then 3 else 1) (nth l (1 + i)) = false) : swapLineB l = false := by
  have h' : i = 0 ∨ i = 1 ∨ i = 2 := by omega
  unfold swapLineB
  rcases h' with rfl | rfl | rfl
  · have h2 : tokB (nth l 1) = false := h
    rw [h2]; simp
  · have h2 : tokB (nth l 2) = false := h
    rw [h2]; simp
  · have h2 : numB (nth l 3) = false := h
    rw [h2]; simp

theorem swp_yes {l : List ByteArray} (h : ∀ i, i < 3 → kindB (if i = 2 then 3 else 1) (nth l (1 + i)) = true) : swapLineB l = decide (l.length = 4) := by
  unfold swapLineB
  have h1 : tokB (nth l 1) = true := h 0 (by omega)
  have h2 : tokB (nth l 2) = true := h 1 (by omega)
  have h3 : numB (nth l 3) = true := h 2 (by omega)
  rw [h1, h2, h3]; simp

set_option maxHeartbeats 1000000 in
set_option maxRecDepth 100000 in
theorem fits_swap (l : List ByteArray) (ad : Option Addr) (g n cap : Nat) (x : ByteArray) (w : World) (hG : Glob w) (hl : l.length = 1 + n) (hn : n ≤ 4000) (hnc : n ≤ cap) (hcap : cap ≤ 9223372036854775807) (hs : ∀ i, (nth l i).size ≤ 4000) (hc : StrsAt w g 0 l) (had : 0 < n → ad = some ⟨g, 1, none⟩) :
    Calls Tryz.prog 209 #[.agg #[.string x, .int .i64 1, .int .i64 1, .int .i64 3], .slice ad n cap] w fun e w' => e = .returned (.bool (swapLineB l)) ∧ Below w.heap.size w w' := by
  go_enter Tryz.func209, Tryz.ntmps209
  go_wp2
  have i0 : ∀ w, (Instr.index 337 (.agg #[.int .i64 1, .int .i64 1, .int .i64 3]) (.int .i64 0)).run Tryz.prog w = .ok (.int .i64 1) w := fun _ => by kernel_rfl
  have i1 : ∀ w, (Instr.index 337 (.agg #[.int .i64 1, .int .i64 1, .int .i64 3]) (.int .i64 1)).run Tryz.prog w = .ok (.int .i64 1) w := fun _ => by kernel_rfl
  have i2 : ∀ w, (Instr.index 337 (.agg #[.int .i64 1, .int .i64 1, .int .i64 3]) (.int .i64 2)).run Tryz.prog w = .ok (.int .i64 3) w := fun _ => by kernel_rfl
  have hb0 : Below w.heap.size w (w.alloc (.cells #[.string x, .int .i64 1, .int .i64 1, .int .i64 3] 339)) := (Below.refl _ _).alloc (Nat.le_refl _) _
  have HB0 : Hid _ := hid hb0
  have HC : Hid (StrsAt w g 0 l) := hid hc
  have HG : Hid (Glob w) := hid hG
  have HL : Hid (l.length = 1 + n) := hid hl
  clear hc hG hl hb0
  go_loopw [1, 9] (fun v c wr => ∃ (k m cap' : Nat) (ad' : Option Addr), k ≤ 3 ∧ m ≤ cap' ∧ m ≤ 4000 ∧ cap' ≤ 9223372036854775807 ∧ c = .int .i64 k ∧ v = .slice ad' m cap' ∧ Hid (m + k = n) ∧ Hid (0 < m → ad' = some ⟨g, 1 + k, none⟩) ∧
      Hid (∀ i, i < k → kindB (if i = 2 then 3 else 1) (nth l (1 + i)) = true) ∧ Hid (Below w.heap.size w wr)) (fun _ c _ => 3 - (intOf c).toNat)
  case atStart => exact ⟨0, n, cap, ad, by omega, by omega, by omega, by omega, rfl, rfl, rfl, had, fun i h => by omega, HB0⟩
  case round =>
    clear had HB0
    obtain ⟨k, m, cap', ad', hk3, hmc, hm4, hc6, rfl, rfl, hmk, had, hpre, hbr⟩ := hrel
    have hGr := HG.out.below hbr.out HG.out.size
    have HGr : Hid (Glob wr) := hid hGr
    have HCr : Hid (StrsAt wr g 0 l) := hid (HC.out.later hbr.out)
    clear hGr
    by_cases hk : k = 3
    · subst hk
      have HF : Hid (swapLineB l = decide (l.length = 4)) := hid (swp_yes hpre.out)
      go_wp2
      go_ret
      refine ⟨ret_bool ?_, hbr.out⟩
      rw [HF.out, Bool.eq_iff_iff]
      simp only [decide_eq_true_eq, beq_iff_eq]
      have := HL.out
      have := hmk.out
      omega
    · by_cases hm : m = 0
      · have hf : swapLineB l = false := by
          unfold swapLineB; rw [decide_eq_false (by have := HL.out; have := hmk.out; omega)]; rfl
        have HF : Hid (swapLineB l = false) := hid hf
        clear hf
        have hk' : k = 0 ∨ k = 1 ∨ k = 2 := by omega
        subst hm
        clear hk
        rcases hk' with rfl | rfl | rfl
        all_goals
          go_wp2
          go_ret
          exact ⟨ret_bool HF.out, hbr.out⟩
      · have had2 := had.out (by omega)
        have hk' : k = 0 ∨ k = 1 ∨ k = 2 := by omega
        have ck : wr.cell? ⟨g, 1 + k, none⟩ = some (.string (nth l (1 + k))) := by simpa using HCr.out.2 (1 + k) (by have := HL.out; have := hmk.out; omega)
        have hsk := hs (1 + k)
        subst had2
        clear hk hs
        rcases hk' with rfl | rfl | rfl
        · cases hkb : kindB 1 (nth l (1 + 0))
          · have HF : Hid (swapLineB l = false) := hid (swp_fail (i := 0) (by omega) hkb)
            go_wp2_with (go_at_call 231; refine (has_any _ _ _ (by omega) HGr.out hsk).mono ?_; rintro e w1 ⟨rfl, hb⟩; rw [hkb])
            go_ret
            exact ⟨ret_bool HF.out, hbr.out.trans (hb.mono hbr.out.size)⟩
          · have HP : Hid (∀ i, i < 0 + 1 → kindB (if i = 2 then 3 else 1) (nth l (1 + i)) = true) := hid (upto_next hpre.out hkb)
            go_wp2_with (go_at_call 231; refine (has_any _ _ _ (by omega) HGr.out hsk).mono ?_; rintro e w1 ⟨rfl, hb⟩; rw [hkb])
            go_roundw
            case rel => exact ⟨0 + 1, m - 1, cap' - 1, _, by omega, by omega, by omega, by omega, by go_num, rfl, hid (by have := hmk.out; omega), hid (fun h => by rw [if_neg (by omega)]), HP, hid (hbr.out.trans (hb.mono hbr.out.size))⟩
            case measure => simp [intOf]
        · cases hkb : kindB 1 (nth l (1 + 1))
          · have HF : Hid (swapLineB l = false) := hid (swp_fail (i := 1) (by omega) hkb)
            go_wp2_with (go_at_call 231; refine (has_any _ _ _ (by omega) HGr.out hsk).mono ?_; rintro e w1 ⟨rfl, hb⟩; rw [hkb])
            go_ret
            exact ⟨ret_bool HF.out, hbr.out.trans (hb.mono hbr.out.size)⟩
          · have HP : Hid (∀ i, i < 1 + 1 → kindB (if i = 2 then 3 else 1) (nth l (1 + i)) = true) := hid (upto_next hpre.out hkb)
            go_wp2_with (go_at_call 231; refine (has_any _ _ _ (by omega) HGr.out hsk).mono ?_; rintro e w1 ⟨rfl, hb⟩; rw [hkb])
            go_roundw
            case rel => exact ⟨1 + 1, m - 1, cap' - 1, _, by omega, by omega, by omega, by omega, by go_num, rfl, hid (by have := hmk.out; omega), hid (fun h => by rw [if_neg (by omega)]), HP, hid (hbr.out.trans (hb.mono hbr.out.size))⟩
            case measure => simp [intOf]
        · cases hkb : kindB 3 (nth l (1 + 2))
          · have HF : Hid (swapLineB l = false) := hid (swp_fail (i := 2) (by omega) hkb)
            go_wp2_with (go_at_call 231; refine (has_any _ _ _ (by omega) HGr.out hsk).mono ?_; rintro e w1 ⟨rfl, hb⟩; rw [hkb])
            go_ret
            exact ⟨ret_bool HF.out, hbr.out.trans (hb.mono hbr.out.size)⟩
          · have HP : Hid (∀ i, i < 2 + 1 → kindB (if i = 2 then 3 else 1) (nth l (1 + i)) = true) := hid (upto_next hpre.out hkb)
            go_wp2_with (go_at_call 231; refine (has_any _ _ _ (by omega) HGr.out hsk).mono ?_; rintro e w1 ⟨rfl, hb⟩; rw [hkb])
            go_roundw
            case rel => exact ⟨2 + 1, m - 1, cap' - 1, _, by omega, by omega, by omega, by omega, by go_num, rfl, hid (by have := hmk.out; omega), hid (fun h => by rw [if_neg (by omega)]), HP, hid (hbr.out.trans (hb.mono hbr.out.size))⟩
            case measure => simp [intOf]

end Go.Proofs.YtjjggdcnpndgjaaGreatDoor

namespace Go.Proofs.YtjjggdcnpndgjaaGreatDoor
open Go.RowKit

theorem rule_fail {l : List ByteArray} {i : Nat} (hi : i < 2) (h : kindB (if i = 0 then 2 else 4) (nth l (1 + i)) = false) : ruleLineB l = false := by
  have h' : i = 0 ∨ i = 1 := by omega
  unfold ruleLineB headB
  rcases h' with rfl | rfl
  · have h2 : nameB (nth l 1) = false := h
    rw [h2]; simp
  · have h2 : ((nth l 2).toList == [61]) = false := h
    rw [h2]; simp

theorem rule_yes {l : List ByteArray} (hl : 3 ≤ l.length) (h : ∀ i, i < 2 → kindB (if i = 0 then 2 else 4) (nth l (1 + i)) = true) : ruleLineB l = partsFrom l 3 := by
  unfold ruleLineB headB partsFrom
  have h1 : nameB (nth l 1) = true := h 0 (by omega)
  have h2 : ((nth l 2).toList == [61]) = true := h 1 (by omega)
  rw [h1, h2, decide_eq_true hl]; simp

set_option maxHeartbeats 1000000 in
set_option maxRecDepth 100000 in
theorem fits_rule (l : List ByteArray) (ad : Option Addr) (g n cap : Nat) (x : ByteArray) (w : World) (hG : Glob w) (hl : l.length = 1 + n) (hn : n ≤ 4000) (hnc : n ≤ cap) (hcap : cap ≤ 9223372036854775807) (hs : ∀ i, (nth l i).size ≤ 4000) (hc : StrsAt w g 0 l) (had : 0 < n → ad = some ⟨g, 1, none⟩) :
    Calls Tryz.prog 209 #[.agg #[.string x, .int .i64 2, .int .i64 4, .int .i64 5], .slice ad n cap] w fun e w' => e = .returned (.bool (ruleLineB l)) ∧ Below w.heap.size w w' := by
  go_enter Tryz.func209, Tryz.ntmps209
  go_wp2
  have i0 : ∀ w, (Instr.index 337 (.agg #[.int .i64 2, .int .i64 4, .int .i64 5]) (.int .i64 0)).run Tryz.prog w = .ok (.int .i64 2) w := fun _ => by kernel_rfl
  have i1 : ∀ w, (Instr.index 337 (.agg #[.int .i64 2, .int .i64 4, .int .i64 5]) (.int .i64 1)).run Tryz.prog w = .ok (.int .i64 4) w := fun _ => by kernel_rfl
  have i2 : ∀ w, (Instr.index 337 (.agg #[.int .i64 2, .int .i64 4, .int .i64 5]) (.int .i64 2)).run Tryz.prog w = .ok (.int .i64 5) w := fun _ => by kernel_rfl
  have hb0 : Below w.heap.size w (w.alloc (.cells #[.string x, .int .i64 2, .int .i64 4, .int .i64 5] 339)) := (Below.refl _ _).alloc (Nat.le_refl _) _
  have HB0 : Hid _ := hid hb0
  have HC : Hid (StrsAt w g 0 l) := hid hc
  have HG : Hid (Glob w) := hid hG
  have HL : Hid (l.length = 1 + n) := hid hl
  clear hc hG hl hb0
  go_loopw [1, 9] (fun v c wr => ∃ (k m cap' : Nat) (ad' : Option Addr), k ≤ 2 ∧ m ≤ cap' ∧ m ≤ 4000 ∧ cap' ≤ 9223372036854775807 ∧ c = .int .i64 k ∧ v = .slice ad' m cap' ∧ Hid (m + k = n) ∧ Hid (0 < m → ad' = some ⟨g, 1 + k, none⟩) ∧
      Hid (∀ i, i < k → kindB (if i = 0 then 2 else 4) (nth l (1 + i)) = true) ∧ Hid (Below w.heap.size w wr)) (fun _ c _ => 3 - (intOf c).toNat)
  case atStart => exact ⟨0, n, cap, ad, by omega, by omega, by omega, by omega, rfl, rfl, rfl, had, fun i h => by omega, HB0⟩
  case round =>
    clear had HB0
    obtain ⟨k, m, cap', ad', hk3, hmc, hm4, hc6, rfl, rfl, hmk, had, hpre, hbr⟩ := hrel
    have hGr := HG.out.below hbr.out HG.out.size
    have HGr : Hid (Glob wr) := hid hGr
    have HCr : Hid (StrsAt wr g 0 l) := hid (HC.out.later hbr.out)
    clear hGr
    by_cases hk : k = 2
    · subst hk
      have HF : Hid (ruleLineB l = partsFrom l 3) := hid (rule_yes (by have := HL.out; have := hmk.out; omega) hpre.out)
      have hsl := hs
      have hll : l.length ≤ 4001 := by have := HL.out; omega
      have hlm : l.length = 3 + m := by have := HL.out; have := hmk.out; omega
      have HLM : Hid (l.length = 3 + m) := hid hlm
      clear hlm hs
      go_wp2_with (go_at_call 230; refine (allParts_any l _ g 3 m cap' _ HLM.out hll hsl HCr.out had.out).mono ?_; rintro e w1 ⟨rfl, rfl⟩)
      go_ret
      exact ⟨ret_bool HF.out, hbr.out⟩
    · by_cases hm : m = 0
      · have hf : ruleLineB l = false := by
          unfold ruleLineB headB; rw [decide_eq_false (by have := HL.out; have := hmk.out; omega)]; rfl
        have HF : Hid (ruleLineB l = false) := hid hf
        clear hf
        have hk' : k = 0 ∨ k = 1 := by omega
        subst hm
        clear hk
        rcases hk' with rfl | rfl
        all_goals
          go_wp2
          go_ret
          exact ⟨ret_bool HF.out, hbr.out⟩
      · have had2 := had.out (by omega)
        have hk' : k = 0 ∨ k = 1 := by omega
        have ck : wr.cell? ⟨g, 1 + k, none⟩ = some (.string (nth l (1 + k))) := by simpa using HCr.out.2 (1 + k) (by have := HL.out; have := hmk.out; omega)
        have hsk := hs (1 + k)
        subst had2
        clear hk hs
        rcases hk' with rfl | rfl
        · cases hkb : kindB 2 (nth l (1 + 0))
          · have HF : Hid (ruleLineB l = false) := hid (rule_fail (i := 0) (by omega) hkb)
            go_wp2_with (go_at_call 231; refine (has_any _ _ _ (by omega) HGr.out hsk).mono ?_; rintro e w1 ⟨rfl, hb⟩; rw [hkb])
            go_ret
            exact ⟨ret_bool HF.out, hbr.out.trans (hb.mono hbr.out.size)⟩
          · have HP : Hid (∀ i, i < 0 + 1 → kindB (if i = 0 then 2 else 4) (nth l (1 + i)) = true) := hid (upto_next hpre.out hkb)
            go_wp2_with (go_at_call 231; refine (has_any _ _ _ (by omega) HGr.out hsk).mono ?_; rintro e w1 ⟨rfl, hb⟩; rw [hkb])
            go_roundw
            case rel => exact ⟨0 + 1, m - 1, cap' - 1, _, by omega, by omega, by omega, by omega, by go_num, rfl, hid (by have := hmk.out; omega), hid (fun h => by rw [if_neg (by omega)]), HP, hid (hbr.out.trans (hb.mono hbr.out.size))⟩
            case measure => simp [intOf]
        · cases hkb : kindB 4 (nth l (1 + 1))
          · have HF : Hid (ruleLineB l = false) := hid (rule_fail (i := 1) (by omega) hkb)
            go_wp2_with (go_at_call 231; refine (has_any _ _ _ (by omega) HGr.out hsk).mono ?_; rintro e w1 ⟨rfl, hb⟩; rw [hkb])
            go_ret
            exact ⟨ret_bool HF.out, hbr.out.trans (hb.mono hbr.out.size)⟩
          · have HP : Hid (∀ i, i < 1 + 1 → kindB (if i = 0 then 2 else 4) (nth l (1 + i)) = true) := hid (upto_next hpre.out hkb)
            go_wp2_with (go_at_call 231; refine (has_any _ _ _ (by omega) HGr.out hsk).mono ?_; rintro e w1 ⟨rfl, hb⟩; rw [hkb])
            go_roundw
            case rel => exact ⟨1 + 1, m - 1, cap' - 1, _, by omega, by omega, by omega, by omega, by go_num, rfl, hid (by have := hmk.out; omega), hid (fun h => by rw [if_neg (by omega)]), HP, hid (hbr.out.trans (hb.mono hbr.out.size))⟩
            case measure => simp [intOf]

end Go.Proofs.YtjjggdcnpndgjaaGreatDoor

namespace Go.Proofs.YtjjggdcnpndgjaaGreatDoor
open Go.Lib Go.RowKit

theorem index_one (c : UInt8) : ∀ l : List UInt8, index l [c] = match l.findIdx? (· == c) with | some j => (j : Int) | none => -1
  | [] => by simp [index]
  | b :: l => by
    rw [index, List.findIdx?_cons]
    by_cases h : b = c
    · subst h; simp [List.isPrefixOf]
    · have h1 : ([c] : List UInt8).isPrefixOf (b :: l) = false := by simp [List.isPrefixOf, Ne.symm h]
      have h2 : (b == c) = false := by simpa using h
      rw [h1, h2, index_one c l]
      cases l.findIdx? (· == c) with
      | none => simp
      | some j =>
        simp only [Option.map_some, Bool.false_eq_true, if_false]
        rw [if_neg (by simp)]
        simp

/-- The words, list by list: cur stands ahead of the first. -/
def wl : List UInt8 → List UInt8 → List (List UInt8)
  | [], cur => [cur]
  | b :: r, cur => if b = 32 then cur :: wl r [] else wl r (cur ++ [b])

theorem wst_wl : ∀ (l : List UInt8) (d : List ByteArray) (c : ByteArray), ((l.foldl wstep (d, c)).1 ++ [(l.foldl wstep (d, c)).2]).map (·.data.toList) = d.map (·.data.toList) ++ wl l c.data.toList
  | [], d, c => by simp [wl]
  | b :: r, d, c => by
    rw [List.foldl_cons]
    by_cases hb : b = 32
    · have e : wstep (d, c) b = (d ++ [c], ByteArray.empty) := by unfold wstep; rw [if_pos hb]
      rw [e, wst_wl r (d ++ [c]) ByteArray.empty, wl, if_pos hb]
      simp
    · have e : wstep (d, c) b = (d, c ++ ⟨#[b]⟩) := by unfold wstep; rw [if_neg hb]
      rw [e, wst_wl r d (c ++ ⟨#[b]⟩), wl, if_neg hb]
      simp

theorem words_wl (s : ByteArray) : (wordsB s).map (·.data.toList) = wl s.data.toList [] := by
  have := wst_wl s.data.toList [] ByteArray.empty
  simpa [wordsB, wst] using this

def sp (l : List UInt8) : List (List UInt8) := splitK [32] 0 (count l [32]) l

theorem sp_sp (l : List UInt8) : sp (32 :: l) = [] :: sp l := by
  unfold sp
  rw [count_cons_eq, Nat.add_comm, splitK]
  have h : index (32 :: l) [32] = 0 := by rw [index]; simp [List.isPrefixOf]
  rw [if_neg (by rw [h]; decide), h]
  simp

theorem sp_ne (l : List UInt8) : ∃ x r, sp l = x :: r := by
  unfold sp
  cases count l [32] with
  | zero => exact ⟨_, _, rfl⟩
  | succ k =>
    unfold splitK
    split
    · exact ⟨_, _, rfl⟩
    · exact ⟨_, _, rfl⟩

theorem sp_cons {b : UInt8} (hb : b ≠ 32) (l : List UInt8) {x : List UInt8} {r : List (List UInt8)} (h : sp l = x :: r) : sp (b :: l) = (b :: x) :: r := by
  have hp : ([32] : List UInt8).isPrefixOf (b :: l) = false := by simp [List.isPrefixOf, Ne.symm hb]
  have hix : index (b :: l) [32] = if index l [32] == -1 then -1 else index l [32] + 1 := by rw [index, hp]; simp
  unfold sp at h ⊢
  rw [count_cons_ne b 32 l hb]
  cases hc : count l [32] with
  | zero =>
    rw [hc] at h
    simp only [splitK] at h ⊢
    injection h with h1 h2
    rw [h1, h2]
  | succ k =>
    rw [hc] at h
    simp only [splitK] at h ⊢
    by_cases hm : index l [32] = -1
    · rw [if_pos (beq_iff_eq.2 hm)] at h
      rw [if_pos (by rw [hix, if_pos (beq_iff_eq.2 hm)]; rfl)]
      injection h with h1 h2
      rw [h1, h2]
    · have hge := index_ge l [32]
      obtain ⟨j, hj⟩ : ∃ j : Nat, index l [32] = j := ⟨(index l [32]).toNat, by omega⟩
      have e1 : index (b :: l) [32] = ((j + 1 : Nat) : Int) := by rw [hix, if_neg (fun e => hm (beq_iff_eq.1 e)), hj]; omega
      rw [if_neg (fun e => hm (beq_iff_eq.1 e)), hj] at h
      rw [if_neg (by rw [e1]; simp; omega), e1]
      simp only [Int.toNat_natCast, Nat.add_zero, List.take_succ_cons] at h ⊢
      injection h with h1 h2
      rw [← h1, ← h2]
      congr 1

theorem wl_sp : ∀ (l cur : List UInt8) (x : List UInt8) (r : List (List UInt8)), sp l = x :: r → wl l cur = (cur ++ x) :: r
  | [], cur, x, r, h => by
    have : sp [] = [[]] := rfl
    rw [this] at h
    injection h with h1 h2
    subst h1; subst h2
    simp [wl]
  | b :: l, cur, x, r, h => by
    obtain ⟨y, q, hy⟩ := sp_ne l
    by_cases hb : b = 32
    · subst hb
      rw [sp_sp] at h
      injection h with h1 h2
      subst h1
      rw [wl, if_pos rfl, wl_sp l [] y q hy]
      rw [← h2, hy]
      simp
    · rw [sp_cons hb l hy] at h
      injection h with h1 h2
      subst h1; subst h2
      rw [wl, if_neg hb, wl_sp l (cur ++ [b]) y q hy]
      simp

theorem map_inj {a b : List ByteArray} (h : a.map (·.data.toList) = b.map (·.data.toList)) : a = b := by
  induction a generalizing b with
  | nil => cases b with | nil => rfl | cons _ _ => simp at h
  | cons x r ih =>
    cases b with
    | nil => simp at h
    | cons y q =>
      simp only [List.map_cons, List.cons.injEq] at h
      have h1 : x = y := by
        obtain ⟨⟨x⟩⟩ := x
        obtain ⟨⟨y⟩⟩ := y
        have := h.1
        simp at this
        subst this; rfl
      rw [h1, ih h.2]

theorem split_words (s : ByteArray) : splitB ⟨#[32]⟩ 0 (countB s ⟨#[32]⟩) s = wordsB s := by
  apply map_inj
  rw [words_wl]
  obtain ⟨x, r, h⟩ := sp_ne s.data.toList
  rw [wl_sp _ [] x r h]
  rw [splitB_data]
  simp only [List.nil_append]
  rw [← h]
  rfl

theorem split_count (s : ByteArray) : countB s ⟨#[32]⟩ + 1 = (wordsB s).length := by
  rw [← split_words s]
  exact (splitB_all ⟨#[32]⟩ (Nat.le_refl 1) 0 _ s rfl).symm

theorem drop_data (s : ByteArray) (k : Nat) : (s.extract k s.size).data.toList = s.data.toList.drop k := by
  simp only [ByteArray.data_extract, Array.toList_extract, List.extract_eq_take_drop]
  exact List.take_of_length_le (by simp)

/-- strings.Cut of the text from a place on: the line that begins there. -/
theorem cut_line (s : ByteArray) (k : Nat) :
    (¬ (lineB s k).2 = 0 → (⟨(cut (s.extract k s.size).data.toList [10]).1.toArray⟩ : ByteArray) = (lineB s k).1 ∧ (cut (s.extract k s.size).data.toList [10]).2.2 = true) ∧
    ((lineB s k).2 = 0 → (cut (s.extract k s.size).data.toList [10]).2.2 = false) := by
  rw [drop_data]
  have hi := index_one 10 (s.data.toList.drop k)
  unfold lineB
  cases hf : (s.data.toList.drop k).findIdx? (· == 10) with
  | none =>
    rw [hf] at hi
    simp only at hi
    refine ⟨fun h => absurd rfl h, fun _ => ?_⟩
    unfold cut
    rw [hi]
    rfl
  | some j =>
    have hi : index (s.data.toList.drop k) [10] = (j : Int) := by rw [hi, hf]
    refine ⟨fun _ => ?_, fun h => ?_⟩
    · unfold cut
      rw [if_pos (by rw [hi]; omega), hi]
      refine ⟨?_, rfl⟩
      apply ByteArray.ext
      apply Array.toList_inj.1
      simp only [ByteArray.data_extract, Array.toList_extract, List.extract_eq_take_drop]
      rw [show k + j - k = (j : Int).toNat by omega]
    · simp only at h
      omega

end Go.Proofs.YtjjggdcnpndgjaaGreatDoor

namespace Go.Proofs.YtjjggdcnpndgjaaGreatDoor
open Go.RowKit

/-- Which of the lines' shapes. -/
def shapeOf (l : List ByteArray) : Nat := if (nth l 0).toList == [116, 111, 107, 101, 110] then 0 else if (nth l 0).toList == [115, 119, 97, 112] then 1 else 2
/-- The lines that are not empty. -/
def progL (ls : List (Nat × List ByteArray)) : List (Nat × Nat × List ByteArray) := (ls.filter fun x => decide (¬ x.2.length = 1)).map fun x => (x.1, shapeOf x.2, x.2)

/-- A slice of a line's words, behind the first. -/
def WordsV (w : World) (p : Value) (l : List ByteArray) : Prop :=
  ∃ (g n cap : Nat) (ad : Option Addr) (cs : Array Value), p = .slice ad n cap ∧ l.length = 1 + n ∧ n ≤ cap ∧ cap ≤ 9223372036854775807 ∧ w.heap[g]? = some (.cells cs 9 (0, 0)) ∧
    (∀ j, j < l.length → cs[j]? = some (.string (nth l j))) ∧ (0 < n → ad = some ⟨g, 1, none⟩)

def lnCells (ls : List (Nat × Nat × List ByteArray)) (pv : List Value) : List Value := (ls.zip pv).flatMap fun t => [.int .i64 t.1.1, .int .i64 t.1.2.1, t.2]

structure LnV (w : World) (B : Nat) (v : Value) (ls : List (Nat × Nat × List ByteArray)) (pv : List Value) : Prop where
  row : w.ownsRow B 325 3 v ls.length (lnCells ls pv)
  pvl : pv.length = ls.length
  wds : ∀ (i : Nat) (x : Nat × Nat × List ByteArray) (p : Value), ls[i]? = some x → pv[i]? = some p → WordsV w p x.2.2

theorem WordsV.keeps {w w' : World} {S : List Nat} {p : Value} {l : List ByteArray} (h : WordsV w p l) (hk : Keeps w w' S) (hS : ∀ g cs, w.heap[g]? = some (.cells cs 9 (0, 0)) → g ∉ S) : WordsV w' p l := by
  obtain ⟨g, n, cap, ad, cs, h1, h2, h3, h4, h5, h6, h7⟩ := h
  exact ⟨g, n, cap, ad, cs, h1, h2, h3, h4, (hk.block g (lt_of_block h5) (hS g cs h5)).trans h5, h6, h7⟩

theorem WordsV.below {w w' : World} {p : Value} {l : List ByteArray} (h : WordsV w p l) (hb : Below w.heap.size w w') : WordsV w' p l := h.keeps (Keeps.of_below hb []) (by simp)

theorem LnV.below {w w' : World} {B : Nat} {v : Value} {ls : List (Nat × Nat × List ByteArray)} {pv : List Value} (h : LnV w B v ls pv) (hb : Below w.heap.size w w') : LnV w' B v ls pv where
  row := own_keeps h.row (Keeps.of_below hb []) (by simp)
  pvl := h.pvl
  wds := fun i x p hx hp => (h.wds i x p hx hp).below hb

theorem LnV.nil (w : World) (B : Nat) : LnV w B (.slice none 0 0) [] [] where
  row := World.ownsRow_nil _ _ _ _
  pvl := rfl
  wds := fun i x p hx => by simp at hx

theorem LnV.push {w w1 : World} {B : Nat} {v v' : Value} {ls : List (Nat × Nat × List ByteArray)} {pv : List Value} (h : LnV w B v ls pv) (hk : Keeps w w1 v.ownBlock.toList) {x : Nat × Nat × List ByteArray} {p : Value} (hp : WordsV w p x.2.2)
    (hown : w1.ownsRow B 325 3 v' (ls.length + 1) (lnCells ls pv ++ [.int .i64 x.1, .int .i64 x.2.1, p])) : LnV w1 B v' (ls ++ [x]) (pv ++ [p]) := by
  have hl := h.pvl
  have hoff : ∀ g cs, w.heap[g]? = some (.cells cs 9 (0, 0)) → g ∉ v.ownBlock.toList := by
    intro g cs hg hm
    exact own_not_block h.row hg (by decide) (by
      cases hv : v.ownBlock with
      | none => rw [hv] at hm; simp at hm
      | some k => rw [hv] at hm; simp at hm; rw [hm])
  refine ⟨?_, by simp [hl], fun i y q hy hq => ?_⟩
  · have e1 : lnCells (ls ++ [x]) (pv ++ [p]) = lnCells ls pv ++ [.int .i64 x.1, .int .i64 x.2.1, p] := by
      unfold lnCells
      rw [List.zip_append hl.symm]
      simp
    rw [e1, List.length_append]
    exact hown
  · by_cases hi : i < ls.length
    · rw [List.getElem?_append_left hi] at hy
      rw [List.getElem?_append_left (by omega)] at hq
      exact (h.wds i y q hy hq).keeps hk hoff
    · rw [List.getElem?_append_right (by omega)] at hy
      rw [List.getElem?_append_right (by omega)] at hq
      obtain ⟨h1, _⟩ := List.getElem?_eq_some_iff.1 hy
      simp at h1
      rw [show i - ls.length = 0 by omega] at hy
      rw [show i - pv.length = 0 by omega] at hq
      simp at hy hq
      subst hy; subst hq
      exact hp.keeps hk hoff

/-- A line's first word, and what stands behind it, against the three shapes. -/
def shapeFits (i : Nat) (l : List ByteArray) : Bool :=
  if i = 0 then ((nth l 0).toList == [116, 111, 107, 101, 110]) && tokLineB l else if i = 1 then ((nth l 0).toList == [115, 119, 97, 112]) && swapLineB l else ((nth l 0).toList == [114, 117, 108, 101]) && ruleLineB l

theorem nth_zero_words {s : ByteArray} (h : (wordsB s).length = 1) : nth (wordsB s) 0 = s := by
  apply map_inj (a := [nth (wordsB s) 0]) (b := [s]) ?_ |> List.cons.inj |>.1
  have h1 := split_words s
  have h2 := split_count s
  have h3 : Lib.countB s ⟨#[32]⟩ = 0 := by omega
  rw [h3] at h1
  rw [← h1]
  rfl

theorem isLine_shapes {s : ByteArray} (hne : s.toList.isEmpty = false) : isLineB (wordsB s) = (shapeFits 0 (wordsB s) || (shapeFits 1 (wordsB s) || shapeFits 2 (wordsB s))) := by
  unfold isLineB shapeFits
  by_cases h1 : (wordsB s).length = 1
  · rw [if_pos h1, nth_zero_words h1, hne]
    have h2 : tokLineB (wordsB s) = false := by unfold tokLineB; rw [decide_eq_false (by omega)]; rfl
    have h3 : swapLineB (wordsB s) = false := by unfold swapLineB; rw [decide_eq_false (by omega)]; rfl
    have h4 : ruleLineB (wordsB s) = false := by unfold ruleLineB headB; rw [decide_eq_false (by omega)]; rfl
    rw [h2, h3, h4]; simp
  · rw [if_neg h1]
    cases ht : ((nth (wordsB s) 0).toList == [116, 111, 107, 101, 110])
    · cases hw : ((nth (wordsB s) 0).toList == [115, 119, 97, 112])
      · cases hr : ((nth (wordsB s) 0).toList == [114, 117, 108, 101]) <;> simp
      · rw [beq_iff_eq] at hw
        rw [hw]; simp
    · rw [beq_iff_eq] at ht
      rw [ht]; simp

theorem shape_fits {l : List ByteArray} {i : Nat} (hi : i < 3) (h : shapeFits i l = true) : shapeOf l = i ∧ ¬ l.length = 1 := by
  unfold shapeFits at h
  unfold shapeOf
  have h' : i = 0 ∨ i = 1 ∨ i = 2 := by omega
  rcases h' with rfl | rfl | rfl
  · simp only [Bool.and_eq_true, if_true] at h
    rw [if_pos h.1]
    refine ⟨rfl, fun e => ?_⟩
    have := h.2; unfold tokLineB at this; rw [decide_eq_false (by omega)] at this; cases this
  · have h : ((nth l 0).toList == [115, 119, 97, 112]) = true ∧ swapLineB l = true := by simpa using h
    have e := h.1
    rw [beq_iff_eq] at e
    rw [e]
    refine ⟨rfl, fun e => ?_⟩
    have := h.2; unfold swapLineB at this; rw [decide_eq_false (by omega)] at this; cases this
  · have h : ((nth l 0).toList == [114, 117, 108, 101]) = true ∧ ruleLineB l = true := by simpa using h
    have e := h.1
    rw [beq_iff_eq] at e
    rw [e]
    refine ⟨rfl, fun e => ?_⟩
    have := h.2; unfold ruleLineB headB at this; rw [decide_eq_false (by omega)] at this; cases this

theorem words_empty {s : ByteArray} (h : s.toList.isEmpty = true) : (wordsB s).length = 1 ∧ isLineB (wordsB s) = true := by
  have e : s.data.toList = [] := by rw [ByteArray.toList_eq] at h; simpa using h
  have e2 : wordsB s = [ByteArray.empty] := by unfold wordsB wst; rw [e]; rfl
  rw [e2]
  exact ⟨rfl, by unfold isLineB nth; simp [ByteArray.toList_eq]⟩

end Go.Proofs.YtjjggdcnpndgjaaGreatDoor
