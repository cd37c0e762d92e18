import Derived.Test.YtjjggdcnpndgjaaDoorWgive1
import Derived.Test.YtjjggdcnpndgjaaDoorWwords
namespace Go.Proofs.YtjjggdcnpndgjaaDoor
open Go.RowKit

/-- A token that was given already. -/
theorem give_twice (l : List ByteArray) (g n cap : Nat) (G : Gr) (w : World) (B gb : Nat) (hG : GrAt w B gb G) (hn1 : G.toks.length ≤ 100000)
    (hl : l.length = n) (hn : n = 4) (hc : StrsAt w g 0 l) (ht : ((nth l 0).toList == [116, 111, 107, 101, 110]) = true) (hno : hasTok G.toks (nth l 1) = true) :
    Calls Tryd.prog 11 #[.pointer (some ⟨gb, 0, none⟩), .slice (some ⟨g, 0, none⟩) n cap] w fun e w' => e = .returned (.int .i64 3) ∧ w = w' := by
  have c0 : w.cell? ⟨g, 0, none⟩ = some (.string (nth l 0)) := by simpa using hc.2 0 (by omega)
  have c1 : w.cell? ⟨g, 1, none⟩ = some (.string (nth l 1)) := by simpa using hc.2 1 (by omega)
  subst hn
  clear hc hl
  go_enter Tryd.func11, Tryd.ntmps11
  go_wp2_with (go_at_call 17; refine (hasToken_any _ G _ B gb ?_ ?_).mono ?_; assumption; omega; rintro e w' ⟨rfl, rfl⟩; rw [hno])
  go_ret
  exact ⟨rfl, rfl⟩

/-- A name that was given already. -/
theorem give_twiceName (l : List ByteArray) (g n cap : Nat) (G : Gr) (w : World) (B gb : Nat) (hG : GrAt w B gb G) (hn1 : G.names.length ≤ 100000)
    (hl : l.length = n) (hn : 3 ≤ n) (hc : StrsAt w g 0 l) (ht0 : ((nth l 0).toList == [116, 111, 107, 101, 110]) = false) (ht1 : ((nth l 0).toList == [115, 119, 97, 112]) = false) (ht : ((nth l 0).toList == [114, 117, 108, 101]) = true)
    (hno : hasNam G.names (nth l 1) = true) :
    Calls Tryd.prog 11 #[.pointer (some ⟨gb, 0, none⟩), .slice (some ⟨g, 0, none⟩) n cap] w fun e w' => e = .returned (.int .i64 3) ∧ w = w' := by
  have c0 : w.cell? ⟨g, 0, none⟩ = some (.string (nth l 0)) := by simpa using hc.2 0 (by omega)
  have c1 : w.cell? ⟨g, 1, none⟩ = some (.string (nth l 1)) := by simpa using hc.2 1 (by omega)
  clear hc hl
  go_enter Tryd.func11, Tryd.ntmps11
  go_wp2_with (go_at_call 19; refine (hasName_any _ G _ B gb ?_ ?_).mono ?_; assumption; omega; rintro e w' ⟨rfl, rfl⟩; rw [hno])
  go_ret
  exact ⟨rfl, rfl⟩

set_option maxRecDepth 100000 in
/-- A line that gives nothing. -/
theorem give_none (l : List ByteArray) (g n cap : Nat) (G : Gr) (w : World) (B gb : Nat) (vT vS vN vR : Value) (pv : List Value) (hV : GrV w B gb G vT vS vN vR pv)
    (hn1 : G.toks.length ≤ 100000) (hn2 : G.names.length ≤ 100000) (hn3 : G.rules.length ≤ 100000)
    (hl : l.length = n) (hn : 1 ≤ n) (hc : StrsAt w g 0 l) (ht0 : ((nth l 0).toList == [116, 111, 107, 101, 110]) = false) (ht1 : ((nth l 0).toList == [115, 119, 97, 112]) = false) (ht : ((nth l 0).toList == [114, 117, 108, 101]) = false) :
    Calls Tryd.prog 11 #[.pointer (some ⟨gb, 0, none⟩), .slice (some ⟨g, 0, none⟩) n cap] w fun e w' => e = .returned (.int .i64 (totI G false)) ∧ w = w' := by
  obtain ⟨aT, kT, rfl⟩ := own_slice hV.toks
  obtain ⟨aN, kN, rfl⟩ := own_slice hV.names
  obtain ⟨aR, kR, rfl⟩ := own_slice hV.rules
  have c0 : w.cell? ⟨g, 0, none⟩ = some (.string (nth l 0)) := by simpa using hc.2 0 (by omega)
  obtain ⟨k0, k1, k2, k3⟩ := hV.cells
  clear hc hl hV k1
  go_enter Tryd.func11, Tryd.ntmps11
  go_wp2
  all_goals
    go_ret
    refine ⟨ret_int ?_, rfl⟩
    unfold totI
    first | rw [if_pos (by omega)] | (rw [if_neg (by omega)]; rfl)

end Go.Proofs.YtjjggdcnpndgjaaDoor
