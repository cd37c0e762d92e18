import Derived.Test.YtjjggdcnpndgjaaDoorWmade
import Derived.Test.YtjjggdcnpndgjaaDoorWwords
namespace Go.Proofs.YtjjggdcnpndgjaaDoor
open Go.RowKit

theorem isTok_any (s : ByteArray) (w : World) (hs : s.size ≤ 4000) : Calls Tryd.prog 14 #[.string s] w fun e w' => e = .returned (.bool (tokB s)) ∧ w = w' := isToken_any s w (by omega)
theorem isNam_any (s : ByteArray) (w : World) (hs : s.size ≤ 4000) : Calls Tryd.prog 16 #[.string s] w fun e w' => e = .returned (.bool (nameB s)) ∧ w = w' := isName_any s w (by omega)
theorem isNum_any (s : ByteArray) (w : World) (hs : s.size ≤ 4000) : Calls Tryd.prog 15 #[.string s] w fun e w' => e = .returned (.bool (numB s)) ∧ w = w' := rcost_any s w (by omega)

set_option maxHeartbeats 1000000 in
set_option maxRecDepth 100000 in
theorem isLine_rule (l : List ByteArray) (g n cap : Nat) (w : World) (hl : l.length = n) (hn : 0 < n) (hn2 : n ≤ 4001) (hs : ∀ j, (nth l j).size ≤ 4000) (hc : StrsAt w g 0 l) (h1 : ¬ n = 1)
    (ht : ((nth l 0).toList == [116, 111, 107, 101, 110]) = false) (hw : ((nth l 0).toList == [115, 119, 97, 112]) = false) (hr : ((nth l 0).toList == [114, 117, 108, 101]) = true) :
    Calls Tryd.prog 9 #[.slice (some ⟨g, 0, none⟩) n cap] w fun e w' => e = .returned (.bool (ruleLineB l)) ∧ w = w' := by
  have c0 : w.cell? ⟨g, 0, none⟩ = some (.string (nth l 0)) := by simpa using hc.2 0 (by omega)
  have c1 : 1 < n → w.cell? ⟨g, 1, none⟩ = some (.string (nth l 1)) := fun h => by simpa using hc.2 1 (by omega)
  have c2 : 2 < n → w.cell? ⟨g, 2, none⟩ = some (.string (nth l 2)) := fun h => by simpa using hc.2 2 (by omega)
  have c3 : 3 < n → w.cell? ⟨g, 3, none⟩ = some (.string (nth l 3)) := fun h => by simpa using hc.2 3 (by omega)
  have hs1 := hs 1
  have hs2 := hs 2
  have hs3 := hs 3
  by_cases h3 : n < 3
  · have hd : ruleLineB l = false := by unfold ruleLineB headB; rw [decide_eq_false (by omega)]; rfl
    rw [hd]
    clear hc hs hl
    go_enter Tryd.func9, Tryd.ntmps9
    go_wp2
    go_ret
    exact ⟨rfl, rfl⟩
  have c1 := c1 (by omega)
  have c2 := c2 (by omega)
  cases hnm : nameB (nth l 1)
  case false =>
    have hd : ruleLineB l = false := by unfold ruleLineB headB; rw [hnm]; simp
    rw [hd]
    clear hc hs hl
    go_enter Tryd.func9, Tryd.ntmps9
    go_wp2_with (go_at_call 16; refine (isNam_any _ _ ?_).mono ?_; omega; rintro e w' ⟨rfl, rfl⟩)
    go_ret
    exact ⟨rfl, rfl⟩
  case true =>
  cases heq : ((nth l 2).toList == [61])
  case false =>
    have hd : ruleLineB l = false := by unfold ruleLineB headB; rw [heq]; simp
    rw [hd]
    clear hc hs hl
    go_enter Tryd.func9, Tryd.ntmps9
    go_wp2_with (go_at_call 16; refine (isNam_any _ _ ?_).mono ?_; omega; rintro e w' ⟨rfl, rfl⟩)
    go_ret
    exact ⟨rfl, rfl⟩
  case true =>
  have hH : Hid (headB l = true) := by unfold headB; show _ = _; rw [hnm, heq, decide_eq_true (by omega)]; rfl
  go_enter Tryd.func9, Tryd.ntmps9
  go_wp2_with (go_at_call 16; refine (isNam_any _ _ ?_).mono ?_; omega; rintro e w' ⟨rfl, rfl⟩)
  go_loop [3] (fun i => ∃ k : Nat, 3 ≤ k ∧ k ≤ n ∧ i = .int .i64 k ∧ Hid (∀ j, 3 ≤ j → j < k → partB (nth l j) = true)) (fun i => n - (intOf i).toNat)
  case atStart => exact ⟨3, Nat.le_refl _, by omega, rfl, fun j h1 h2 => by omega⟩
  case round =>
    obtain ⟨k, hk3, hk, rfl, hall⟩ := hrel
    by_cases hlt : k < n
    · have ck : w.cell? ⟨g, k, none⟩ = some (.string (nth l k)) := by simpa using hc.2 k (by omega)
      have hsk := hs k
      obtain ⟨x, hx⟩ : ∃ x, x = nth l k := ⟨_, rfl⟩
      rw [← hx] at ck hsk
      have HX : Hid (x = nth l k) := hx
      clear hx c0 c1 c2 c3 hc
      have hstep : partB x = true → Hid (∀ j, 3 ≤ j → j < k + 1 → partB (nth l j) = true) := fun hp j h1 h2 => by
        by_cases e : j = k
        · subst e; rw [← HX.out]; exact hp
        · exact hall.out j h1 (by omega)
      have hstop : partB x = false → ruleLineB l = false := fun hp => by
        unfold ruleLineB; rw [all_drop_not (j := k) hk3 (by omega) (by rw [← HX.out]; exact hp)]; simp
      have HSt := hid hstep
      have HSo := hid hstop
      clear hstep hstop hs
      cases hp : (x.toList == [124]) <;> cases hp2 : tokB x <;> cases hp3 : nameB x
      all_goals
        go_wp2_with (first | (go_at_call 14; refine (isTok_any _ _ ?_).mono ?_; omega; rintro e w' ⟨rfl, rfl⟩) | (go_at_call 16; refine (isNam_any _ _ ?_).mono ?_; omega; rintro e w' ⟨rfl, rfl⟩))
      · go_ret
        exact ⟨ret_bool (HSo.out (by unfold partB barB; rw [hp, hp2, hp3]; rfl)), rfl⟩
      all_goals
        go_round
        case rel => exact ⟨k + 1, by omega, by omega, by go_num, HSt.out (by unfold partB barB; rw [hp, hp2, hp3]; rfl)⟩
        case measure => simp [intOf]; omega
    · go_wp2
      go_ret
      refine ⟨ret_bool ?_, rfl⟩
      unfold ruleLineB
      rw [hH.out, all_drop_of (fun j h1 h2 => hall.out j h1 (by omega))]
      rfl

set_option maxHeartbeats 1000000 in
set_option maxRecDepth 100000 in
theorem isLine_any (l : List ByteArray) (g n cap : Nat) (w : World) (hl : l.length = n) (hn : 0 < n) (hn2 : n ≤ 4001) (hs : ∀ j, (nth l j).size ≤ 4000) (hc : StrsAt w g 0 l) :
    Calls Tryd.prog 9 #[.slice (some ⟨g, 0, none⟩) n cap] w fun e w' => e = .returned (.bool (isLineB l)) ∧ w = w' := by
  have c0 : w.cell? ⟨g, 0, none⟩ = some (.string (nth l 0)) := by simpa using hc.2 0 (by omega)
  have c1 : 1 < n → w.cell? ⟨g, 1, none⟩ = some (.string (nth l 1)) := fun h => by simpa using hc.2 1 (by omega)
  have c2 : 2 < n → w.cell? ⟨g, 2, none⟩ = some (.string (nth l 2)) := fun h => by simpa using hc.2 2 (by omega)
  have c3 : 3 < n → w.cell? ⟨g, 3, none⟩ = some (.string (nth l 3)) := fun h => by simpa using hc.2 3 (by omega)
  have hs1 := hs 1
  have hs2 := hs 2
  have hs3 := hs 3
  by_cases h1 : n = 1
  · have hd : isLineB l = (nth l 0).toList.isEmpty := by unfold isLineB; rw [if_pos (by omega)]
    rw [hd]
    clear hd hc hs hl
    subst h1
    go_enter Tryd.func9, Tryd.ntmps9
    go_wp2
    go_ret
    exact ⟨rfl, rfl⟩
  have hx : isLineB l = if (nth l 0).toList == [116, 111, 107, 101, 110] then tokLineB l else if (nth l 0).toList == [115, 119, 97, 112] then swapLineB l else if (nth l 0).toList == [114, 117, 108, 101] then ruleLineB l else false := by
    unfold isLineB; rw [if_neg (by omega)]
  rw [hx]
  clear hx
  cases ht : ((nth l 0).toList == [116, 111, 107, 101, 110])
  case true =>
    rw [if_pos rfl]
    unfold tokLineB
    rw [hl]
    clear hc hs hl
    by_cases h4 : n = 4
    · have c1 := c1 (by omega)
      have c2 := c2 (by omega)
      have c3 := c3 (by omega)
      subst h4
      go_enter Tryd.func9, Tryd.ntmps9
      go_wp2_with (first | (go_at_call 14; refine (isTok_any _ _ ?_).mono ?_; omega; rintro e w' ⟨rfl, rfl⟩) | (go_at_call 15; refine (isNum_any _ _ ?_).mono ?_; omega; rintro e w' ⟨rfl, rfl⟩))
      all_goals
        go_ret
        exact ⟨ret_bool (by simp [*]), rfl⟩
    · go_enter Tryd.func9, Tryd.ntmps9
      go_wp2
      go_ret
      exact ⟨ret_bool (by simp [h4]), rfl⟩
  case false =>
  rw [if_neg (by simp)]
  cases hw : ((nth l 0).toList == [115, 119, 97, 112])
  case true =>
    rw [if_pos rfl]
    unfold swapLineB
    rw [hl]
    clear hc hs hl
    by_cases h4 : n = 4
    · have c1 := c1 (by omega)
      have c2 := c2 (by omega)
      have c3 := c3 (by omega)
      subst h4
      go_enter Tryd.func9, Tryd.ntmps9
      go_wp2_with (first | (go_at_call 14; refine (isTok_any _ _ ?_).mono ?_; omega; rintro e w' ⟨rfl, rfl⟩) | (go_at_call 15; refine (isNum_any _ _ ?_).mono ?_; omega; rintro e w' ⟨rfl, rfl⟩))
      all_goals
        go_ret
        exact ⟨ret_bool (by simp [*]), rfl⟩
    · go_enter Tryd.func9, Tryd.ntmps9
      go_wp2
      go_ret
      exact ⟨ret_bool (by simp [h4]), rfl⟩
  case false =>
  rw [if_neg (by simp)]
  cases hr : ((nth l 0).toList == [114, 117, 108, 101])
  case false =>
    rw [if_neg (by simp)]
    clear hc hs hl
    go_enter Tryd.func9, Tryd.ntmps9
    go_wp2
    go_ret
    exact ⟨rfl, rfl⟩
  case true =>
  rw [if_pos rfl]
  exact isLine_rule l g n cap w hl hn hn2 hs hc h1 ht hw hr

end Go.Proofs.YtjjggdcnpndgjaaDoor
