/- (*Grammar).Votes, walked. (*Grammar).first; what Clashes tells. What Clashes has seen, and what it has got of it. Plain. (*Grammar).Clashes, walked. darnlaw.clashed and Clashes, over what wanted, Clash and the reference's Clashes tell. -/
import Derived.Test.YtjjggdcnpndgjaaGreatDoorJWtails
import Derived.Test.YtjjggdcnpndgjaaGreatDoorJ9
import Derived.Test.YtjjggdcnpndgjaaGreatDoorJ15
import Derived.Deep.DeepCutAuto
namespace Go.Proofs.YtjjggdcnpndgjaaGreatDoor
open Go.RowKit

/-- Which tokens speak for a rule. -/
def voteOf (a : List Bool) (thr : Bool) (b : List Bool) (u : Nat) : Bool := bAt a u || (thr && bAt b u)
def voteRow (N : NG) (E : Nat → Bool) (H T : List (List Bool)) (q : Nat × List Pt) : List Bool := (List.range (N.nT + 1)).map (voteOf (speakB H E q.2 (row0 N)).1 (speakB H E q.2 (row0 N)).2 (mAt T q.1))
def votesN (N : NG) : List (List Bool) := N.rules.map (voteRow N (bAt (closedN N false)) (headsN N (bAt (closedN N false))) (tailsN N (headsN N (bAt (closedN N false))) (bAt (closedN N false))))

/-- Rows of bools, each its own. -/
structure VtV (w : World) (B : Nat) (v : Value) (rows : List (List Bool)) (pvs : List Value) : Prop where
  row : w.ownsRow B 150 1 v rows.length pvs
  each : ∀ (i : Nat) r p, rows[i]? = some r → pvs[i]? = some p → w.ownsRow B 4 1 p r.length (bools r)

theorem VtV.nil (w : World) (B : Nat) : VtV w B (.slice none 0 0) [] [] := ⟨World.ownsRow_nil _ _ _ _, fun i r p h => by simp at h⟩
theorem VtV.below {w w' : World} {B : Nat} {v : Value} {rows : List (List Bool)} {pvs : List Value} (h : VtV w B v rows pvs) (hb : Below w.heap.size w w') : VtV w' B v rows pvs :=
  ⟨own_keeps h.row (Keeps.of_below hb []) (by simp), fun i r p hr hp => own_keeps (h.each i r p hr hp) (Keeps.of_below hb []) (by simp)⟩
theorem VtV.base {w : World} {B B' : Nat} {v : Value} {rows : List (List Bool)} {pvs : List Value} (h : VtV w B v rows pvs) (hB : B' ≤ B) : VtV w B' v rows pvs := by
  have hb : ∀ {e sz n : Nat} {v : Value} {xs : List Value}, w.ownsRow B e sz v n xs → w.ownsRow B' e sz v n xs := fun h => ⟨h.1, by
    rcases h.2 with h2 | ⟨g, cap, cur, hv, hg, r⟩
    · exact .inl h2
    · exact .inr ⟨g, cap, cur, hv, Nat.le_trans hB hg, r⟩⟩
  exact ⟨hb h.row, fun i r p hr hp => hb (h.each i r p hr hp)⟩
theorem VtV.push {w w1 : World} {B : Nat} {v v' p : Value} {rows : List (List Bool)} {r : List Bool} {pvs : List Value} (h : VtV w B v rows pvs) (hp : w.ownsRow B 4 1 p r.length (bools r)) (hk : Keeps w w1 v.ownBlock.toList) (hown : w1.ownsRow B 150 1 v' (rows.length + 1) (pvs ++ [p])) : VtV w1 B v' (rows ++ [r]) (pvs ++ [p]) := by
  have hpl : pvs.length = rows.length := by have := h.row.1; omega
  have hoff : ∀ {n : Nat} {q : Value} {xs : List Value}, w.ownsRow B 4 1 q n xs → ∀ g, q.ownBlock = some g → g ∉ v.ownBlock.toList := fun hq g hg hm => own_apart hq h.row (by decide) hg (mem_own hm)
  refine ⟨by rw [List.length_append]; exact hown, fun i q u hq hu => ?_⟩
  by_cases hi : i < rows.length
  · rw [List.getElem?_append_left hi] at hq
    rw [List.getElem?_append_left (by omega)] at hu
    exact own_keeps (h.each i q u hq hu) hk (hoff (h.each i q u hq hu))
  · rw [List.getElem?_append_right (by omega)] at hq
    rw [List.getElem?_append_right (by omega)] at hu
    obtain ⟨h1, _⟩ := List.getElem?_eq_some_iff.1 hq
    simp at h1
    rw [show i - rows.length = 0 by omega] at hq
    rw [show i - pvs.length = 0 by omega] at hu
    simp at hq hu
    subst hq; subst hu
    exact own_keeps hp hk (hoff hp)

end Go.Proofs.YtjjggdcnpndgjaaGreatDoor

namespace Go.Proofs.YtjjggdcnpndgjaaGreatDoor
open Go.RowKit

end Go.Proofs.YtjjggdcnpndgjaaGreatDoor

namespace Go.Proofs.YtjjggdcnpndgjaaGreatDoor
open Go.RowKit

def S1 (i : Nat) : Nat → Nat → Nat → Prop := fun x _ _ => x < i
def S2 (i k : Nat) : Nat → Nat → Nat → Prop := fun x y _ => x < i ∨ x = i ∧ y < k
def S3 (i k t : Nat) : Nat → Nat → Nat → Prop := fun x y z => x < i ∨ x = i ∧ (y < k ∨ y = k ∧ z < t)

def Got (S H : Nat → Nat → Nat → Prop) (a : Bool) : Prop := a = true ↔ ∃ x y z, S x y z ∧ H x y z

section
variable {H S S' : Nat → Nat → Nat → Prop} {a : Bool} {i k t n : Nat}

theorem Got.to (h : Got S H a) (h1 : ∀ x y z, S x y z → H x y z → S' x y z) (h2 : ∀ x y z, S' x y z → H x y z → S x y z) : Got S' H a :=
  ⟨fun e => by obtain ⟨x, y, z, hs, hh⟩ := h.1 e; exact ⟨x, y, z, h1 x y z hs hh, hh⟩, fun ⟨x, y, z, hs, hh⟩ => h.2 ⟨x, y, z, h2 x y z hs hh, hh⟩⟩

theorem Got.start : Got (S1 0) H false := ⟨fun e => (by cases e), fun ⟨x, _, _, hs, _⟩ => absurd hs (Nat.not_lt_zero x)⟩
theorem Got.skip (h : Got (S2 i k) H a) (hH : ∀ z, ¬ H i k z) : Got (S2 i (k + 1)) H a :=
  h.to (fun x y z hs _ => by
    rcases hs with hs | ⟨e, hs⟩
    · exact .inl hs
    · exact .inr ⟨e, by omega⟩) (fun x y z hs hh => by
    rcases hs with hs | ⟨rfl, hs⟩
    · exact .inl hs
    · by_cases e2 : y = k
      · subst e2; exact absurd hh (hH z)
      · exact .inr ⟨rfl, by omega⟩)
theorem Got.no (h : Got (S3 i k t) H a) (hH : ¬ H i k t) : Got (S3 i k (t + 1)) H a :=
  h.to (fun x y z hs _ => by
    rcases hs with hs | ⟨e, hs | ⟨e2, hs⟩⟩
    · exact .inl hs
    · exact .inr ⟨e, .inl hs⟩
    · exact .inr ⟨e, .inr ⟨e2, by omega⟩⟩) (fun x y z hs hh => by
    rcases hs with hs | ⟨rfl, hs | ⟨rfl, hs⟩⟩
    · exact .inl hs
    · exact .inr ⟨rfl, .inl hs⟩
    · by_cases e2 : z = t
      · subst e2; exact absurd hh hH
      · exact .inr ⟨rfl, .inr ⟨rfl, by omega⟩⟩)
theorem Got.yes (hH : H i k t) : Got (S3 i k (t + 1)) H true := ⟨fun _ => ⟨i, k, t, .inr ⟨rfl, .inr ⟨rfl, by omega⟩⟩, hH⟩, fun _ => rfl⟩
theorem Got.all (h : Got (S3 i k t) H true) : Got (S3 i k (t + 1)) H true := ⟨fun _ => by
  obtain ⟨x, y, z, hs, hh⟩ := h.1 rfl
  refine ⟨x, y, z, ?_, hh⟩
  rcases hs with hs | ⟨e, hs | ⟨e2, hs⟩⟩
  · exact .inl hs
  · exact .inr ⟨e, .inl hs⟩
  · exact .inr ⟨e, .inr ⟨e2, by omega⟩⟩, fun _ => rfl⟩
theorem Got.done (h : Got (S1 n) H a) (hH : ∀ x y z, H x y z → x < n) : a = true ↔ ∃ x y z, H x y z :=
  ⟨fun e => by obtain ⟨x, y, z, _, hh⟩ := h.1 e; exact ⟨x, y, z, hh⟩, fun ⟨x, y, z, hh⟩ => h.2 ⟨x, y, z, hH x y z hh, hh⟩⟩
end

theorem votesN_at {N : NG} {i : Nat} (hi : i < N.rules.length) : ∃ r, (votesN N)[i]? = some r ∧ r.length = N.nT + 1 ∧ mAt (votesN N) i = r := by
  have h1 : ∃ r, (votesN N)[i]? = some r ∧ r.length = N.nT + 1 := by
    unfold votesN
    rw [List.getElem?_map, List.getElem?_eq_getElem hi]
    exact ⟨_, rfl, by unfold voteRow; simp⟩
  obtain ⟨r, h2, h3⟩ := h1
  exact ⟨r, h2, h3, by unfold mAt; rw [List.getD_eq_getElem?_getD, h2]; rfl⟩

/-- The votes, as their cells lie. -/
theorem VtV.cells {w : World} {B : Nat} {v : Value} {N : NG} {pvs : List Value} (h : VtV w B v (votesN N) pvs) (hp : 0 < N.rules.length) :
    ∃ gv cv, v = .slice (some ⟨gv, 0, none⟩) N.rules.length cv ∧ N.rules.length ≤ cv ∧ gv < w.heap.size ∧ ∀ i, i < N.rules.length → ∃ gi ci, w.cell? ⟨gv, i, none⟩ = some (.slice (some ⟨gi, 0, none⟩) (N.nT + 1) ci) ∧ N.nT + 1 ≤ ci ∧ gi < w.heap.size ∧ ∀ t, t < N.nT + 1 → w.cell? ⟨gi, t, none⟩ = some (.bool (bAt (mAt (votesN N) i) t)) := by
  have hl : (votesN N).length = N.rules.length := by unfold votesN; simp
  have hrow := h.row
  rw [hl] at hrow
  obtain ⟨gv, cv, rfl, _, hlt, hc⟩ := owned_shape hrow hp
  refine ⟨gv, cv, rfl, hc, hlt, fun i hi => ?_⟩
  obtain ⟨r, hr, hrl, hm⟩ := votesN_at hi
  have hpl : pvs.length = N.rules.length := by have := hrow.1; omega
  obtain ⟨p, hpv⟩ : ∃ p, pvs[i]? = some p := ⟨_, List.getElem?_eq_getElem (by omega)⟩
  have he := h.each i r p hr hpv
  rw [hrl] at he
  obtain ⟨gi, ci, rfl, _, hgi, hci⟩ := owned_shape he (by omega)
  refine ⟨gi, ci, by rw [hrow.cellAt i (by omega)]; exact hpv, hci, hgi, fun t ht => ?_⟩
  rw [he.cellAt t (by omega), hm]
  exact bools_at (by rw [hrl]; exact ht)

end Go.Proofs.YtjjggdcnpndgjaaGreatDoor

namespace Go.Proofs.YtjjggdcnpndgjaaGreatDoor
open Go.RowKit

end Go.Proofs.YtjjggdcnpndgjaaGreatDoor

namespace Go.Proofs.YtjjggdcnpndgjaaGreatDoor
open Go.RowKit

end Go.Proofs.YtjjggdcnpndgjaaGreatDoor
