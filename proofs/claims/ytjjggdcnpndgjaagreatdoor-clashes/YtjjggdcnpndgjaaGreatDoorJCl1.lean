/- Pure: rules of all names behind one another, by name and number; which tokens speak for a rule, on both sides. -/
import Derived.Test.YtjjggdcnpndgjaaGreatDoorJ6
namespace Go.Proofs.YtjjggdcnpndgjaaGreatDoor

def flatZ {α : Type} (L : List (List α)) (k : Nat) : List (Nat × α) := (L.zipIdx k).flatMap fun x => x.1.map fun ps => (x.2, ps)
def offZ {α : Type} (L : List (List α)) (n : Nat) : Nat := ((L.take n).map List.length).sum

theorem flatZ_cons {α : Type} (rs : List α) (L : List (List α)) (k : Nat) : flatZ (rs :: L) k = rs.map (fun ps => (k, ps)) ++ flatZ L (k + 1) := by
  unfold flatZ
  rw [List.zipIdx_cons, List.flatMap_cons]

theorem flatZ_at {α : Type} : ∀ (L : List (List α)) (k n r : Nat) (rs : List α) (ps : α), L[n]? = some rs → rs[r]? = some ps → (flatZ L k)[offZ L n + r]? = some (k + n, ps)
  | [], _, _, _, _, _, h, _ => by simp at h
  | qs :: L, k, 0, r, rs, ps, h, h2 => by
    simp only [List.getElem?_cons_zero, Option.some.injEq] at h
    subst h
    have hr := (List.getElem?_eq_some_iff.1 h2).1
    rw [flatZ_cons, show offZ (qs :: L) 0 + r = r by simp [offZ], List.getElem?_append_left (by simpa using hr), List.getElem?_map, h2]
    rfl
  | qs :: L, k, n + 1, r, rs, ps, h, h2 => by
    have h := flatZ_at L (k + 1) n r rs ps (by simpa using h) h2
    have e : offZ (qs :: L) (n + 1) + r = qs.length + (offZ L n + r) := by simp [offZ]; omega
    rw [flatZ_cons, e, List.getElem?_append_right (by simp), List.length_map, show qs.length + (offZ L n + r) - qs.length = offZ L n + r by omega, h]
    congr 2
    omega

theorem flatZ_inv {α : Type} : ∀ (L : List (List α)) (k i m : Nat) (ps : α), (flatZ L k)[i]? = some (m, ps) → ∃ n r rs, m = k + n ∧ L[n]? = some rs ∧ rs[r]? = some ps ∧ i = offZ L n + r
  | [], _, _, _, _, h => by simp [flatZ] at h
  | qs :: L, k, i, m, ps, h => by
    rw [flatZ_cons] at h
    by_cases hi : i < qs.length
    · rw [List.getElem?_append_left (by simpa using hi), List.getElem?_map] at h
      cases hq : qs[i]? with
      | none => rw [hq] at h; cases h
      | some p =>
        rw [hq] at h
        injection h with h
        injection h with h1 h2
        exact ⟨0, i, qs, by omega, rfl, by rw [hq, h2], by simp [offZ]⟩
    · rw [List.getElem?_append_right (by simpa using Nat.le_of_not_lt hi), List.length_map] at h
      obtain ⟨n, r, rs, h1, h2, h3, h4⟩ := flatZ_inv L (k + 1) _ m ps h
      refine ⟨n + 1, r, rs, by omega, by simpa using h2, h3, ?_⟩
      have e : offZ (qs :: L) (n + 1) = qs.length + offZ L n := by simp [offZ]
      omega

/-- Which tokens speak for a rule. -/
def spkN (N : NG) (n : Nat) (ps : List Pt) (t : Nat) : Bool := begT (bAt (closedN N false)) (col (headsN N (bAt (closedN N false))) t) t ps || (nulB (bAt (closedN N false)) ps && col (tailsN N (headsN N (bAt (closedN N false))) (bAt (closedN N false))) t n)

theorem spk_same {N : NG} {k : List Fa} (h1 : emP k = bAt (closedN N false)) (h2 : ∀ n t, (fhAt k n).testBit t = col (headsN N (bAt (closedN N false))) t n) (h3 : ∀ n t, (foAt k n).testBit t = col (tailsN N (headsN N (bAt (closedN N false))) (bAt (closedN N false))) t n) (n : Nat) (ps : List Pt) (t : Nat) :
    (aheadP k ps (foAt k n)).testBit t = spkN N n ps t := by
  rw [aheadP_spec, h1, h3]
  have e : (fun n => (fhAt k n).testBit t) = col (headsN N (bAt (closedN N false))) t := by funext m; exact h2 m t
  rw [e]
  rfl

/-- No token speaks for two rules of the name. -/
def NoCl (N : NG) (L : List (List (List Pt))) (n : Nat) : Prop := ∀ (rs : List (List Pt)) (r0 r : Nat) (p0 p : List Pt) (t : Nat), L[n]? = some rs → r0 < r → rs[r0]? = some p0 → rs[r]? = some p → t ≤ N.nT → ¬ (spkN N n p0 t = true ∧ spkN N n p t = true)
/-- A token speaks for two rules of the name, of none ahead of it any does. -/
structure ClAt (N : NG) (L : List (List (List Pt))) (n r0 r t : Nat) : Prop where
  ex : ∃ (rs : List (List Pt)) (p0 p : List Pt), L[n]? = some rs ∧ r0 < r ∧ rs[r0]? = some p0 ∧ rs[r]? = some p ∧ t ≤ N.nT ∧ spkN N n p0 t = true ∧ spkN N n p t = true
  no : ∀ m, m < n → NoCl N L m

end Go.Proofs.YtjjggdcnpndgjaaGreatDoor
