import Derived.Test.YtjjggdcnpndgjaaDoorWhas
import Derived.Deep.QuietTactic
import Derived.BigQuiet
namespace Go.Proofs.YtjjggdcnpndgjaaDoor
open Go.RowKit

set_option maxHeartbeats 1000000 in
set_option maxRecDepth 100000 in
theorem unknown_swap (l : List ByteArray) (g n cap : Nat) (G : Gr) (w : World) (B gb : Nat) (hG : GrAt w B gb G) (hn1 : G.toks.length ≤ 9223372036854775807)
    (hl : l.length = n) (hn : 3 ≤ n) (hc : StrsAt w g 0 l) (hw : ((nth l 0).toList == [115, 119, 97, 112]) = true) :
    Calls Tryd.prog 12 #[.pointer (some ⟨gb, 0, none⟩), .slice (some ⟨g, 0, none⟩) n cap] w fun e w' => e = .returned (.bool (unknownB G l)) ∧ ∃ q, w' = w.drewN q := by
  have hx : unknownB G l = (!hasTok G.toks (nth l 1) || (!hasTok G.toks (nth l 2) || ((nth l 1).toList == (nth l 2).toList))) := by
    unfold unknownB; rw [if_pos hw]
  rw [hx]
  clear hx
  have c0 : w.cell? ⟨g, 0, none⟩ = some (.string (nth l 0)) := by simpa using hc.2 0 (by omega)
  have c1 : w.cell? ⟨g, 1, none⟩ = some (.string (nth l 1)) := by simpa using hc.2 1 (by omega)
  have c2 : w.cell? ⟨g, 2, none⟩ = some (.string (nth l 2)) := by simpa using hc.2 2 (by omega)
  clear hc hl
  cases h1 : hasTok G.toks (nth l 1) <;> cases h2 : hasTok G.toks (nth l 2) <;> cases h3 : ((nth l 1).toList == (nth l 2).toList)
  all_goals
    go_enter Tryd.func12, Tryd.ntmps12
    go_wp2_with (go_at_call 17; refine (hasToken_any _ G _ B gb ?_ ?_).mono ?_; assumption; assumption; rintro e w' ⟨rfl, rfl⟩; first | rw [h1] | rw [h2])
    go_quiet (fail)
    go_wp2
    go_ret
    exact ⟨rfl, _, rfl⟩

set_option maxHeartbeats 1000000 in
set_option maxRecDepth 100000 in
theorem unknown_other (l : List ByteArray) (g n cap : Nat) (G : Gr) (w : World) (gb : Nat)
    (hl : l.length = n) (hn : 1 ≤ n) (hn2 : n ≤ 4001) (hc : StrsAt w g 0 l) (hw : ((nth l 0).toList == [115, 119, 97, 112]) = false) (hr : ((nth l 0).toList == [114, 117, 108, 101]) = false) :
    Calls Tryd.prog 12 #[.pointer (some ⟨gb, 0, none⟩), .slice (some ⟨g, 0, none⟩) n cap] w fun e w' => e = .returned (.bool (unknownB G l)) ∧ ∃ q, w' = w.drewN q := by
  have hx : unknownB G l = false := by
    unfold unknownB; rw [if_neg (by simp [hw]), if_neg (by simp [hr])]
  rw [hx]
  clear hx
  have c0 : w.cell? ⟨g, 0, none⟩ = some (.string (nth l 0)) := by simpa using hc.2 0 (by omega)
  clear hc hl
  by_cases h3 : 3 < n
  · go_enter Tryd.func12, Tryd.ntmps12
    go_wp2
    go_loop [7] (fun i => i = .int .i64 3) (fun i => 0)
    case atStart => rfl
    case round =>
      subst hrel
      go_wp2
      go_ret
      exact ⟨rfl, 0, rfl⟩
  · go_enter Tryd.func12, Tryd.ntmps12
    go_wp2
    go_loop [7] (fun i => i = .int .i64 3) (fun i => 0)
    case atStart => rfl
    case round =>
      subst hrel
      go_wp2
      go_ret
      exact ⟨rfl, 0, rfl⟩

set_option maxHeartbeats 1000000 in
set_option maxRecDepth 100000 in
theorem unknown_rule (l : List ByteArray) (g n cap : Nat) (G : Gr) (w : World) (B gb : Nat) (hG : GrAt w B gb G) (hn1 : G.toks.length ≤ 9223372036854775807) (hn3 : G.names.length ≤ 9223372036854775807)
    (hl : l.length = n) (hn : 1 ≤ n) (hn2 : n ≤ 4001) (hc : StrsAt w g 0 l) (hw : ((nth l 0).toList == [115, 119, 97, 112]) = false) (hr : ((nth l 0).toList == [114, 117, 108, 101]) = true) :
    Calls Tryd.prog 12 #[.pointer (some ⟨gb, 0, none⟩), .slice (some ⟨g, 0, none⟩) n cap] w fun e w' => e = .returned (.bool (unknownB G l)) ∧ ∃ q, w' = w.drewN q := by
  have hx : unknownB G l = (l.drop 3).any (unkB G) := by
    unfold unknownB; rw [if_neg (by simp [hw]), if_pos hr]
  rw [hx]
  clear hx
  have c0 : w.cell? ⟨g, 0, none⟩ = some (.string (nth l 0)) := by simpa using hc.2 0 (by omega)
  go_enter Tryd.func12, Tryd.ntmps12
  go_wp2
  go_loop [7] (fun i => ∃ k : Nat, 3 ≤ k ∧ i = .int .i64 k ∧ k ≤ max n 3 ∧ Hid (∀ j, 3 ≤ j → j < k → unkB G (nth l j) = false)) (fun i => max n 3 - (intOf i).toNat)
  case atStart => exact ⟨3, Nat.le_refl _, rfl, by omega, fun j h1 h2 => by omega⟩
  case round =>
    obtain ⟨k, hk3, rfl, hk, hno⟩ := hrel
    by_cases hlt : k < n
    · have ck : w.cell? ⟨g, k, none⟩ = some (.string (nth l k)) := by simpa using hc.2 k (by omega)
      obtain ⟨x, hx⟩ : ∃ x, x = nth l k := ⟨_, rfl⟩
      rw [← hx] at ck
      have HX : Hid (x = nth l k) := hx
      have HL : Hid (l.length = n) := hl
      clear hx hl hc
      have hstep : Hid (unkB G x = false → ∀ j, 3 ≤ j → j < k + 1 → unkB G (nth l j) = false) := hid fun hp j h1 h2 => by
        by_cases e : j = k
        · subst e; rw [← HX.out]; exact hp
        · exact hno.out j h1 (by omega)
      have hstop : Hid (unkB G x = true → (l.drop 3).any (unkB G) = true) := hid fun hp => any_drop_yes (j := k) hk3 (by have := HL.out; omega) (by rw [← HX.out]; exact hp)
      cases hp : (x.toList == [124]) <;> cases h1 : hasTok G.toks x <;> cases h2 : hasNam G.names x
      all_goals
        go_wp2_with (first | (go_at_call 17; refine (hasToken_any _ G _ B gb ?_ ?_).mono ?_; assumption; assumption; rintro e w' ⟨rfl, rfl⟩; rw [h1]) | (go_at_call 19; refine (hasName_any _ G _ B gb ?_ ?_).mono ?_; assumption; assumption; rintro e w' ⟨rfl, rfl⟩; rw [h2]))
      · go_ret
        exact ⟨ret_bool (hstop.out (by unfold unkB barB; rw [hp, h1, h2]; rfl)), 0, rfl⟩
      all_goals
        go_round
        case rel => exact ⟨k + 1, by omega, by go_num, by omega, hstep.out (by unfold unkB barB; rw [hp, h1, h2]; rfl)⟩
        case measure => simp [intOf]; omega
    · have HE : Hid ((l.drop 3).any (unkB G) = false) := hid (any_drop_no fun j h1 h2 => hno.out j h1 (by omega))
      clear hc hl
      go_wp2
      go_ret
      exact ⟨ret_bool HE.out, 0, rfl⟩

/-- (*Grammar).unknown: does something stand in this line that no line gives? -/
theorem unknown_any (l : List ByteArray) (g n cap : Nat) (G : Gr) (w : World) (B gb : Nat) (hG : GrAt w B gb G) (hn1 : G.toks.length ≤ 9223372036854775807) (hn3 : G.names.length ≤ 9223372036854775807)
    (hl : l.length = n) (hn : 1 ≤ n) (hn2 : n ≤ 4001) (hsw : ((nth l 0).toList == [115, 119, 97, 112]) = true → 3 ≤ n) (hc : StrsAt w g 0 l) :
    Calls Tryd.prog 12 #[.pointer (some ⟨gb, 0, none⟩), .slice (some ⟨g, 0, none⟩) n cap] w fun e w' => e = .returned (.bool (unknownB G l)) ∧ ∃ q, w' = w.drewN q := by
  cases hw : ((nth l 0).toList == [115, 119, 97, 112])
  · cases hr : ((nth l 0).toList == [114, 117, 108, 101])
    · exact unknown_other l g n cap G w gb hl hn hn2 hc hw hr
    · exact unknown_rule l g n cap G w B gb hG hn1 hn3 hl hn hn2 hc hw hr
  · exact unknown_swap l g n cap G w B gb hG hn1 hl (hsw hw) hc hw

end Go.Proofs.YtjjggdcnpndgjaaDoor
