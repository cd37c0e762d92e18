import Derived.Test.YtjjggdcnpndgjaaDoorPcost
import Derived.Test.YtjjggdcnpndgjaaDoorKeeps
import Derived.Deep.RegionWith
namespace Go.Proofs.YtjjggdcnpndgjaaDoor
open Go.RowKit

theorem tokB_eq (s : ByteArray) : tokB s = (decide ((s.size : Int) ≤ 8) && (allIn s.data.toList 97 122 && !s.toList.isEmpty)) := by
  have hlen : s.data.toList.length = s.size := by simp
  unfold tokB madeB
  rw [ByteArray.toList_eq, hlen]
  cases h : s.data.toList with
  | nil => rw [h] at hlen; rw [decide_eq_false (p := 1 ≤ s.size) (by simp at hlen; omega)]; simp
  | cons a r => rw [h] at hlen; rw [decide_eq_true (p := 1 ≤ s.size) (by simp at hlen; omega)]; simp

theorem nameB_eq (s : ByteArray) : nameB s = (decide ((s.size : Int) ≤ 8) && (allIn s.data.toList 65 90 && !s.toList.isEmpty)) := by
  have hlen : s.data.toList.length = s.size := by simp
  unfold nameB madeB
  rw [ByteArray.toList_eq, hlen]
  cases h : s.data.toList with
  | nil => rw [h] at hlen; rw [decide_eq_false (p := 1 ≤ s.size) (by simp at hlen; omega)]; simp
  | cons a r => rw [h] at hlen; rw [decide_eq_true (p := 1 ≤ s.size) (by simp at hlen; omega)]; simp

theorem has_lower (s : ByteArray) (w : World) (hs : s.size ≤ 4000) :
    Calls Tryd.prog 35 #[.int .i64 1, .string s] w fun e w' => e = .returned (.bool (tokB s)) ∧ w = w' := by
  by_cases h8 : s.size ≤ 8
  · rw [tokB_eq, decide_eq_true (by omega), Bool.true_and]
    go_enter Tryd.func35, Tryd.ntmps35
    go_wp2_with (go_at_call 40; refine (isOf_any _ _ _ _ (by omega)).mono ?_; rintro e w' ⟨rfl, rfl⟩)
    go_ret
    exact ⟨rfl, rfl⟩
  · rw [tokB_eq, decide_eq_false (by omega), Bool.false_and]
    go_enter Tryd.func35, Tryd.ntmps35
    go_wp2
    go_ret
    exact ⟨rfl, rfl⟩

theorem has_upper (s : ByteArray) (w : World) (hs : s.size ≤ 4000) :
    Calls Tryd.prog 35 #[.int .i64 2, .string s] w fun e w' => e = .returned (.bool (nameB s)) ∧ w = w' := by
  by_cases h8 : s.size ≤ 8
  · rw [nameB_eq, decide_eq_true (by omega), Bool.true_and]
    go_enter Tryd.func35, Tryd.ntmps35
    go_wp2_with (go_at_call 40; refine (isOf_any _ _ _ _ (by omega)).mono ?_; rintro e w' ⟨rfl, rfl⟩)
    go_ret
    exact ⟨rfl, rfl⟩
  · rw [nameB_eq, decide_eq_false (by omega), Bool.false_and]
    go_enter Tryd.func35, Tryd.ntmps35
    go_wp2
    go_ret
    exact ⟨rfl, rfl⟩

theorem has_number (s : ByteArray) (w : World) (hG : Glob w) (hs : s.size ≤ 4000) :
    Calls Tryd.prog 35 #[.int .i64 3, .string s] w fun e w' => e = .returned (.bool (numB s)) ∧ Below w.heap.size w w' := by
  have HG : Hid (Glob w) := hid hG
  clear hG
  go_enter Tryd.func35, Tryd.ntmps35
  go_wp2_with (go_at_call 41; refine (pcost_any _ _ HG.out hs).mono ?_; rintro e w1 ⟨⟨n, rfl, _⟩, hb⟩)
  go_ret
  exact ⟨rfl, hb⟩

theorem has_equals (s : ByteArray) (w : World) :
    Calls Tryd.prog 35 #[.int .i64 4, .string s] w fun e w' => e = .returned (.bool (s.toList == [61])) ∧ w = w' := by
  go_enter Tryd.func35, Tryd.ntmps35
  go_wp2
  go_ret
  exact ⟨rfl, rfl⟩

/-- The parts of a line, from a place of its words on. -/
def partsFrom (l : List ByteArray) (j : Nat) : Bool := (l.drop j).all partB

theorem drop_all {l : List ByteArray} {p : ByteArray → Bool} {j : Nat} (hj : j < l.length) : (l.drop j).all p = (p (nth l j) && (l.drop (j + 1)).all p) := by
  rw [List.drop_eq_getElem_cons hj, List.all_cons]
  unfold nth
  rw [List.getD_eq_getElem?_getD, List.getElem?_eq_getElem hj]
  rfl

set_option maxHeartbeats 1000000 in
set_option maxRecDepth 100000 in
/-- All further words: a slice of the line's words from place j on. -/
theorem allParts_any (l : List ByteArray) (ad : Option Addr) (g j n cap : Nat) (w : World) (hl : l.length = j + n) (hn : l.length ≤ 4001) (hs : ∀ i, (nth l i).size ≤ 4000) (hc : StrsAt w g 0 l) (had : 0 < n → ad = some ⟨g, j, none⟩) :
    Calls Tryd.prog 34 #[.slice ad n cap] w fun e w' => e = .returned (.bool (partsFrom l j)) ∧ w = w' := by
  have HC : Hid (StrsAt w g 0 l) := hid hc
  have HL : Hid (l.length = j + n) := hid hl
  have hn2 : n ≤ 4001 := by omega
  rcases Nat.eq_zero_or_pos n with h0 | h0
  · have HE : Hid (partsFrom l j = true) := hid (by unfold partsFrom; rw [List.drop_eq_nil_of_le (by omega)]; rfl)
    subst h0
    clear hc hl had
    go_enter Tryd.func34, Tryd.ntmps34
    go_wp2
    refine wp_loop_rounds 1 ?_
    rw [rounds_succ]
    go_wp2
    go_ret
    exact ⟨ret_bool HE.out, rfl⟩
  · have e := had h0
    subst e
    clear hc hl had
    go_enter Tryd.func34, Tryd.ntmps34
    go_wp2
    go_loop [7] (fun i => ∃ k : Nat, k ≤ n ∧ i = .int .i64 k ∧ Hid (partsFrom l j = partsFrom l (j + k))) (fun i => n - (intOf i).toNat)
    case atStart => exact ⟨0, Nat.zero_le _, rfl, rfl⟩
    case round =>
      obtain ⟨k, hk, rfl, hall⟩ := hrel
      by_cases hlt : k < n
      · have ck : w.cell? ⟨g, j + k, none⟩ = some (.string (nth l (j + k))) := by simpa using HC.out.2 (j + k) (by have := HL.out; omega)
        have hsk := hs (j + k)
        have HP : Hid (partsFrom l j = (partB (nth l (j + k)) && partsFrom l (j + k + 1))) := hid (by rw [hall.out]; unfold partsFrom; exact drop_all (by have := HL.out; omega))
        obtain ⟨x, hx⟩ : ∃ x, x = nth l (j + k) := ⟨_, rfl⟩
        rw [← hx] at ck hsk HP
        clear hx hall hs
        cases hp : (x.toList == [124]) <;> cases hp2 : tokB x <;> cases hp3 : nameB x
        all_goals
          go_wp2_with (first | (go_at_call_of 35 (Value.int .i64 1); refine (has_lower _ _ hsk).mono ?_; rintro e w' ⟨rfl, rfl⟩; rw [hp2]) | (go_at_call_of 35 (Value.int .i64 2); refine (has_upper _ _ hsk).mono ?_; rintro e w' ⟨rfl, rfl⟩; rw [hp3]))
        · go_ret
          exact ⟨ret_bool (by rw [HP.out]; unfold partB barB; rw [hp, hp2, hp3]; rfl), rfl⟩
        all_goals
          go_round
          case rel => exact ⟨k + 1, by omega, by go_num, by rw [HP.out]; unfold partB barB; rw [hp, hp2, hp3]; rfl⟩
          case measure => simp [intOf]; omega
      · have HE : Hid (partsFrom l j = true) := hid (by rw [hall.out]; unfold partsFrom; rw [List.drop_eq_nil_of_le (by have := HL.out; omega)]; rfl)
        go_wp2
        go_ret
        exact ⟨ret_bool HE.out, rfl⟩

end Go.Proofs.YtjjggdcnpndgjaaDoor
