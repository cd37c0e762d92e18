/- (*made).short: what stands for a later name becomes the first token, in place. -/
import Derived.Test.YtjjggdcnpndgjaaGreatDoorJK3
namespace Go.Proofs.YtjjggdcnpndgjaaGreatDoor
open Go.RowKit

/-- What short leaves of a part. -/
def cutP (n : Nat) : Pt → Pt
  | .tok t => .tok t
  | .nam k => if n ≤ k then .tok 0 else .nam k

/-- The rules in memory, by name, rule and place; c: what stands there now. A block's role tells the rules' own rows apart from every other block. -/
structure ShC (W : World) (b : Nat) (L : List (List (List Pt))) (role : Nat → Option (Nat × Nat)) (gR cR : Nat) (gn cn : Nat → Nat) (gr cr : Nat → Nat → Nat) (c : Nat → Nat → Nat → Pt) : Prop where
  rb : role b = none
  rR : role gR = none
  rn : ∀ n, n < L.length → role (gn n) = none
  rr : ∀ (n : Nat) rs (k : Nat) r, L[n]? = some rs → rs[k]? = some r → role (gr n k) = some (n, k)
  c0 : W.cell? ⟨b, 0, none⟩ = some (.slice (some ⟨gR, 0, none⟩) L.length cR)
  lR : L.length ≤ cR
  names : ∀ (n : Nat) rs, L[n]? = some rs → W.cell? ⟨gR, n, none⟩ = some (.slice (some ⟨gn n, 0, none⟩) rs.length (cn n)) ∧ rs.length ≤ cn n
  rules : ∀ (n : Nat) rs (k : Nat) r, L[n]? = some rs → rs[k]? = some r → W.cell? ⟨gn n, k, none⟩ = some (.slice (some ⟨gr n k, 0, none⟩) r.length (cr n k)) ∧ r.length ≤ cr n k
  parts : ∀ (n : Nat) rs (k : Nat) r (p : Nat) a, L[n]? = some rs → rs[k]? = some r → r[p]? = some a → W.cell? ⟨gr n k, p, none⟩ = some (.string (wordP (c n k p))) ∧ W.frozen? ⟨gr n k, p, none⟩ = false

/-- Done ahead of this place. -/
def donB (i k p : Nat) (n' k' p' : Nat) : Prop := n' < i ∨ (n' = i ∧ (k' < k ∨ (k' = k ∧ p' < p)))

/-- What stands where the places ahead of (i, k, p) are cut. -/
structure CutAt (n : Nat) (L : List (List (List Pt))) (i k p : Nat) (c : Nat → Nat → Nat → Pt) : Prop where
  holds : ∀ (n' : Nat) rs (k' : Nat) r (p' : Nat) a, L[n']? = some rs → rs[k']? = some r → r[p']? = some a → (donB i k p n' k' p' → c n' k' p' = cutP n a) ∧ (¬ donB i k p n' k' p' → c n' k' p' = a)

theorem CutAt.same {n : Nat} {L : List (List (List Pt))} {i k p i2 k2 p2 : Nat} {c : Nat → Nat → Nat → Pt} (h : CutAt n L i k p c) (hs : ∀ (n' : Nat) rs (k' : Nat) r (p' : Nat), L[n']? = some rs → rs[k']? = some r → p' < r.length → (donB i k p n' k' p' ↔ donB i2 k2 p2 n' k' p')) : CutAt n L i2 k2 p2 c where
  holds := fun n' rs k' r p' a h1 h2 h3 => by
    have h4 := h.holds n' rs k' r p' a h1 h2 h3
    have h5 := hs n' rs k' r p' h1 h2 (List.getElem?_eq_some_iff.1 h3).1
    exact ⟨fun hd => h4.1 (h5.2 hd), fun hd => h4.2 (fun hx => hd (h5.1 hx))⟩

theorem ShC.put {W : World} {b : Nat} {L : List (List (List Pt))} {role : Nat → Option (Nat × Nat)} {gR cR : Nat} {gn cn : Nat → Nat} {gr cr : Nat → Nat → Nat} {c c' : Nat → Nat → Nat → Pt} (h : ShC W b L role gR cR gn cn gr cr c)
    {i k p : Nat} {rs : List (List Pt)} {r : List Pt} {a : Pt} (h1 : L[i]? = some rs) (h2 : rs[k]? = some r) (h3 : r[p]? = some a) (hc : ∀ n' k' p', ¬ (n' = i ∧ k' = k ∧ p' = p) → c' n' k' p' = c n' k' p') :
    ShC (W.setCell ⟨gr i k, p, none⟩ (.string (wordP (c' i k p)))) b L role gR cR gn cn gr cr c' := by
  have hr := h.rr i rs k r h1 h2
  have ho : ∀ g o, role g = none → (W.setCell ⟨gr i k, p, none⟩ (.string (wordP (c' i k p)))).cell? ⟨g, o, none⟩ = W.cell? ⟨g, o, none⟩ := fun g o hg => World.cell?_setCell_other _ _ _ _ (fun e => by
    injection e with e _ _
    rw [e, hg] at hr
    cases hr)
  refine ⟨h.rb, h.rR, h.rn, h.rr, (ho _ _ h.rb).trans h.c0, h.lR, fun n rs hn => ⟨(ho _ _ h.rR).trans (h.names n rs hn).1, (h.names n rs hn).2⟩, fun n rs k r hn hk => ⟨(ho _ _ (h.rn n (List.getElem?_eq_some_iff.1 hn).1)).trans (h.rules n rs k r hn hk).1, (h.rules n rs k r hn hk).2⟩, fun n' rs' k' r' p' a' g1 g2 g3 => ?_⟩
  have hp := h.parts n' rs' k' r' p' a' g1 g2 g3
  refine ⟨?_, by rw [World.frozen?_setCell]; exact hp.2⟩
  by_cases e : n' = i ∧ k' = k ∧ p' = p
  · obtain ⟨rfl, rfl, rfl⟩ := e
    exact World.cell?_setCell_same _ _ _ hp.1
  · rw [hc n' k' p' e, ← hp.1]
    refine World.cell?_setCell_other _ _ _ _ (fun e2 => e ?_)
    injection e2 with e3 e4 _
    have hr2 := h.rr n' rs' k' r' g1 g2
    rw [← e3, hr] at hr2
    injection hr2 with hr2
    injection hr2 with e5 e6
    exact ⟨e5.symm, e6.symm, e4.symm⟩

theorem CutAt.step {n : Nat} {L : List (List (List Pt))} {i k p : Nat} {c c' : Nat → Nat → Nat → Pt} (h : CutAt n L i k p c) {rs : List (List Pt)} {r : List Pt} {a : Pt} (h1 : L[i]? = some rs) (h2 : rs[k]? = some r) (h3 : r[p]? = some a)
    (hc : ∀ n' k' p', ¬ (n' = i ∧ k' = k ∧ p' = p) → c' n' k' p' = c n' k' p') (hv : c' i k p = cutP n a) : CutAt n L i k (p + 1) c' where
  holds := fun n' rs' k' r' p' a' g1 g2 g3 => by
    have h4 := h.holds n' rs' k' r' p' a' g1 g2 g3
    by_cases e : n' = i ∧ k' = k ∧ p' = p
    · obtain ⟨rfl, rfl, rfl⟩ := e
      rw [h1] at g1
      injection g1 with g1
      subst g1
      rw [h2] at g2
      injection g2 with g2
      subst g2
      rw [h3] at g3
      injection g3 with g3
      subst g3
      exact ⟨fun _ => hv, fun hd => absurd (Or.inr ⟨rfl, Or.inr ⟨rfl, Nat.lt_succ_self _⟩⟩) hd⟩
    · rw [hc n' k' p' e]
      have hiff : donB i k (p + 1) n' k' p' ↔ donB i k p n' k' p' := by
        unfold donB
        omega
      exact ⟨fun hd => h4.1 (hiff.1 hd), fun hd => h4.2 (fun hx => hd (hiff.2 hx))⟩

end Go.Proofs.YtjjggdcnpndgjaaGreatDoor
