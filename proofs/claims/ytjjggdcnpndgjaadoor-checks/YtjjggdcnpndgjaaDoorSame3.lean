/- Pure: the reference's second walk of the lines, and the program's. -/
import Derived.Test.YtjjggdcnpndgjaaDoorSame2
namespace Go.Proofs.YtjjggdcnpndgjaaDoor
open Go.RowKit

def optI (o : Option Nat) : Int := match o with | some a => (a : Int) | none => -1
def cnt2 (P : List Ln) : Nat := (P.filter fun x => x.2.1 == 2).length

theorem many_step {m : Int} {a t n r lg : Nat} (M : Option Nat) (hm : m = -1 ∨ 0 ≤ m) :
    ((if (if 20 < t ∨ 20 < n ∨ 60 < r ∨ 8 < lg then (4 : Int) else 0) = 4 ∧ m < 0 then (a : Int) else m) = -1 ∧ ¬ (20 < t ∨ 20 < n ∨ 60 < r) ∨ 0 ≤ (if (if 20 < t ∨ 20 < n ∨ 60 < r ∨ 8 < lg then (4 : Int) else 0) = 4 ∧ m < 0 then (a : Int) else m)) ∧
    (if 0 ≤ (if (if 20 < t ∨ 20 < n ∨ 60 < r ∨ 8 < lg then (4 : Int) else 0) = 4 ∧ m < 0 then (a : Int) else m) then (if (if 20 < t ∨ 20 < n ∨ 60 < r ∨ 8 < lg then (4 : Int) else 0) = 4 ∧ m < 0 then (a : Int) else m) else optI M) =
      if 0 ≤ m then m else optI (if 20 < t ∨ 20 < n ∨ 60 < r ∨ 8 < lg then some a else M) := by
  by_cases hC : 20 < t ∨ 20 < n ∨ 60 < r ∨ 8 < lg
  · simp only [if_pos hC]
    by_cases hm0 : m < 0
    · rw [if_pos (by simpa using hm0), if_neg (show ¬ 0 ≤ m by omega)]
      exact ⟨.inr (by omega), by rw [if_pos (by omega)]; rfl⟩
    · rw [if_neg (fun h => hm0 h.2)]
      exact ⟨.inr (by omega), by rw [if_pos (by omega), if_pos (by omega)]⟩
  · simp only [if_neg hC]
    rw [if_neg (fun h => absurd h.1 (by decide))]
    refine ⟨?_, rfl⟩
    rcases hm with h | h
    · exact .inl ⟨h, fun h' => hC (by omega)⟩
    · exact .inr h

theorem progL_cons_empty {x : Nat × List ByteArray} {ls : List (Nat × List ByteArray)} (h : x.2.length = 1) : progL (x :: ls) = progL ls := by
  unfold progL; simp [h]
theorem progL_cons {x : Nat × List ByteArray} {ls : List (Nat × List ByteArray)} (h : ¬ x.2.length = 1) : progL (x :: ls) = (x.1, shapeOf x.2, x.2) :: progL ls := by
  unfold progL; simp [h]

theorem givenB_cons (y : Ln) (P : List Ln) : givenB (y :: P) = (if (givesB y.2.1 y.2.2).toList.isEmpty then [] else [givesB y.2.1 y.2.2]) ++ givenB P := by
  unfold givenB
  rw [List.map_cons, List.filter_cons]
  cases (givesB y.2.1 y.2.2).toList.isEmpty <;> simp

theorem cnt2_cons (y : Ln) (P : List Ln) : cnt2 (y :: P) = (if y.2.1 = 2 then 1 else 0) + cnt2 P := by
  unfold cnt2
  rw [List.filter_cons]
  by_cases h : y.2.1 = 2
  · simp [h]; omega
  · simp [h]

theorem shape_head {l : List ByteArray} (h : isLineB l = true) (h1 : ¬ l.length = 1) {k : Nat} (hk : shapeOf l = k) :
    match k with
    | 0 => ((nth l 0).toList == [116, 111, 107, 101, 110]) = true
    | 1 => ((nth l 0).toList == [116, 111, 107, 101, 110]) = false ∧ ((nth l 0).toList == [115, 119, 97, 112]) = true
    | _ => ((nth l 0).toList == [116, 111, 107, 101, 110]) = false ∧ ((nth l 0).toList == [115, 119, 97, 112]) = false ∧ ((nth l 0).toList == [114, 117, 108, 101]) = true := by
  have key : (shapeOf l = 0 ∧ ((nth l 0).toList == [116, 111, 107, 101, 110]) = true) ∨ (shapeOf l = 1 ∧ ((nth l 0).toList == [116, 111, 107, 101, 110]) = false ∧ ((nth l 0).toList == [115, 119, 97, 112]) = true) ∨
      (shapeOf l = 2 ∧ ((nth l 0).toList == [116, 111, 107, 101, 110]) = false ∧ ((nth l 0).toList == [115, 119, 97, 112]) = false ∧ ((nth l 0).toList == [114, 117, 108, 101]) = true) := by
    unfold isLineB at h
    rw [if_neg h1] at h
    unfold shapeOf
    cases ht : ((nth l 0).toList == [116, 111, 107, 101, 110])
    · cases hw : ((nth l 0).toList == [115, 119, 97, 112])
      · cases hr : ((nth l 0).toList == [114, 117, 108, 101])
        · rw [ht, hw, hr] at h; simp at h
        · exact .inr (.inr ⟨rfl, rfl, rfl, rfl⟩)
      · exact .inr (.inl ⟨rfl, rfl, rfl⟩)
    · exact .inl ⟨rfl, rfl⟩
  rcases key with ⟨e, a⟩ | ⟨e, a⟩ | ⟨e, a⟩ <;> (rw [hk] at e; subst e; exact a)

/-- What a walk's end says. -/
def SameEnd (P : List Ln) (ws : List ByteArray) (t n r : Nat) (m : Int) (res : Gr × Int × Option Nat) : Prop :=
  (∀ a, res.2.2 = some a → twiceB P ws = some a) ∧
  (res.2.2 = none → twiceB P ws = none ∧ res.2.1 = (if 0 ≤ m then m else optI (manyB P t n r)) ∧ ∃ t' r', Inv res.1 (ws ++ givenB P) t' (n + cnt2 P) r')

/-- One line that is taken, and what its rest says. -/
theorem same_cons {x : Nat × List ByteArray} {P : List Ln} {ls : List (Nat × List ByteArray)} {G G1 : Gr} {m : Int} {t n r t1 n1 r1 lg : Nat} {ws ws1 : List ByteArray} {y : Ln} (hm : m = -1 ∨ 0 ≤ m) (hg : giveB G x.2 = (G1, if 20 < t1 ∨ 20 < n1 ∨ 60 < r1 ∨ 8 < lg then 4 else 0))
    (hwl : ws1 = ws ++ (if (givesB y.2.1 y.2.2).toList.isEmpty then [] else [givesB y.2.1 y.2.2])) (hn1 : n1 = n + if y.2.1 = 2 then 1 else 0)
    (htw : twiceB (y :: P) ws = twiceB P ws1) (hmn : manyB (y :: P) t n r = if 20 < t1 ∨ 20 < n1 ∨ 60 < r1 ∨ 8 < lg then some x.1 else manyB P t1 n1 r1)
    (ih : ∀ m1 : Int, (m1 = -1 ∧ ¬ (20 < t1 ∨ 20 < n1 ∨ 60 < r1) ∨ 0 ≤ m1) → SameEnd P ws1 t1 n1 r1 m1 (pass2 ls G1 m1)) : SameEnd (y :: P) ws t n r m (pass2 (x :: ls) G m) := by
  have hs := many_step (a := x.1) (t := t1) (n := n1) (r := r1) (lg := lg) (manyB P t1 n1 r1) hm
  have e3 : ¬ (if 20 < t1 ∨ 20 < n1 ∨ 60 < r1 ∨ 8 < lg then (4 : Int) else 0) = 3 := by split <;> decide
  have ep : pass2 (x :: ls) G m = pass2 ls G1 (if (if 20 < t1 ∨ 20 < n1 ∨ 60 < r1 ∨ 8 < lg then (4 : Int) else 0) = 4 ∧ m < 0 then (x.1 : Int) else m) := by
    rw [pass2, hg, if_neg e3]
  have h := ih _ hs.1
  rw [← ep] at h
  refine ⟨fun a ha => by rw [htw]; exact h.1 a ha, fun ho => ?_⟩
  obtain ⟨h1, h2, t', r', h3⟩ := h.2 ho
  refine ⟨by rw [htw]; exact h1, ?_, t', r', ?_⟩
  · rw [h2, hs.2, hmn]
  · rw [givenB_cons, cnt2_cons, ← List.append_assoc, ← hwl, ← Nat.add_assoc, ← hn1]
    exact h3

theorem pass_same : ∀ (ls : List (Nat × List ByteArray)) (G : Gr) (m : Int) (t n r : Nat) (ws : List ByteArray), (∀ x ∈ ls, isLineB x.2 = true) → Inv G ws t n r → (m = -1 ∧ ¬ (20 < t ∨ 20 < n ∨ 60 < r) ∨ 0 ≤ m) →
    SameEnd (progL ls) ws t n r m (pass2 ls G m)
  | [], G, m, t, n, r, ws, _, hI, hm => by
    refine ⟨fun a h => (by cases h), fun _ => ⟨rfl, ?_, t, r, by simpa [progL, givenB, cnt2, pass2] using hI⟩⟩
    rcases hm with h | h
    · rw [if_neg (by omega)]; exact h.1
    · rw [if_pos h]; rfl
  | x :: ls, G, m, t, n, r, ws, hall, hI, hm => by
    have hx := hall x (by simp)
    have hrest : ∀ y ∈ ls, isLineB y.2 = true := fun y hy => hall y (by simp [hy])
    have hm' : m = -1 ∨ 0 ≤ m := hm.imp (fun h => h.1) id
    by_cases h1 : x.2.length = 1
    · have hs := step_empty hI hx h1
      rw [progL_cons_empty h1]
      have e3 : ¬ (giveB G x.2).2 = 3 := by rw [hs.2]; split <;> decide
      have em : (if (giveB G x.2).2 = 4 ∧ m < 0 then (x.1 : Int) else m) = m := by
        rcases hm with h | h
        · rw [hs.2, if_neg h.2, if_neg (fun h' => absurd h'.1 (by decide))]
        · rw [if_neg (fun h' => by omega)]
      have ep : pass2 (x :: ls) G m = pass2 ls G m := by
        rw [pass2, if_neg e3, em, hs.1]
      rw [ep]
      exact pass_same ls G m t n r ws hrest hI hm
    · rw [progL_cons h1]
      rcases line_shape hx h1 with ⟨hsh, hlen, htk⟩ | ⟨hsh, hlen, htk, _⟩ | ⟨hsh, hlen, hnm, _⟩
      · have hne : (nth x.2 1).toList.isEmpty = false := made_ne htk
        have h0 := shape_head hx h1 hsh
        have hgv : givesB 0 x.2 = nth x.2 1 := rfl
        rw [hsh]
        rcases step_tok hI h0 htk with ⟨hc, h3⟩ | ⟨hc, hI2, h4⟩
        · have ep : pass2 (x :: ls) G m = (G, m, some x.1) := by rw [pass2, if_pos h3]
          rw [ep]
          refine ⟨fun a ha => ?_, fun h => (by cases h)⟩
          rw [twiceB, if_neg (by rw [hgv, hne]; decide), if_pos (by rw [hgv]; exact hc)]
          exact ha
        · exact same_cons (lg := 0) hm' (Prod.ext rfl h4) (by rw [hgv, if_neg (by rw [hne]; decide)]) rfl
            (by rw [twiceB, if_neg (by rw [hgv, hne]; decide), if_neg (by rw [hgv]; exact hc)]; rfl) rfl (fun m1 h => pass_same ls _ m1 _ _ _ _ hrest hI2 h)
      · have h0 := shape_head hx h1 hsh
        have hgv : givesB 1 x.2 = ByteArray.empty := rfl
        have hemp : ByteArray.empty.toList.isEmpty = true := by rw [ByteArray.toList_eq]; rfl
        rw [hsh]
        have hs := step_swap hI h0.1 h0.2
        exact same_cons (lg := 0) hm' (Prod.ext rfl hs.2) (by rw [hgv, if_pos hemp, List.append_nil]) rfl
          (by rw [twiceB, if_pos (by rw [hgv]; exact hemp)]) rfl (fun m1 h => pass_same ls _ m1 _ _ _ _ hrest hs.1 h)
      · have hne : (nth x.2 1).toList.isEmpty = false := made_ne hnm
        have h0 := shape_head hx h1 hsh
        have hgv : givesB 2 x.2 = nth x.2 1 := rfl
        rw [hsh]
        rcases step_rule hI h0.1 h0.2.1 h0.2.2 hnm with ⟨hc, h3⟩ | ⟨hc, hI2, h4⟩
        · have ep : pass2 (x :: ls) G m = (G, m, some x.1) := by rw [pass2, if_pos h3]
          rw [ep]
          refine ⟨fun a ha => ?_, fun h => (by cases h)⟩
          rw [twiceB, if_neg (by rw [hgv, hne]; decide), if_pos (by rw [hgv]; exact hc)]
          exact ha
        · exact same_cons (lg := longB (rulesL x.2)) hm' (Prod.ext rfl h4) (by rw [hgv, if_neg (by rw [hne]; decide)]) rfl
            (by rw [twiceB, if_neg (by rw [hgv, hne]; decide), if_neg (by rw [hgv]; exact hc)]; rfl) rfl (fun m1 h => pass_same ls _ m1 _ _ _ _ hrest hI2 h)

end Go.Proofs.YtjjggdcnpndgjaaDoor
