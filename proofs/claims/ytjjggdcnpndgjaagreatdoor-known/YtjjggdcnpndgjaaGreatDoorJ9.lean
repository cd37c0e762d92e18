/- (*Grammar).list. (*Grammar).Waste. (*Grammar).Facts. -/
import Derived.Test.YtjjggdcnpndgjaaGreatDoorJ7
import Derived.Test.YtjjggdcnpndgjaaGreatDoorJWtails
namespace Go.Proofs.YtjjggdcnpndgjaaGreatDoor
open Go.RowKit

/-- (*Grammar).list: the words of those that are true, the END last. -/
def listB (ws : List ByteArray) (on : List Bool) : List ByteArray := (((List.range ws.length).filter fun t => bAt on t).map fun t => nth ws t) ++ if bAt on ws.length then [ByteArray.empty] else []

/-- A row of words that the call owns. -/
def OwnS (w : World) (B : Nat) (v : Value) (l : List ByteArray) : Prop := w.ownsRow B 9 1 v l.length (strs l)

end Go.Proofs.YtjjggdcnpndgjaaGreatDoor

namespace Go.Proofs.YtjjggdcnpndgjaaGreatDoor
open Go.RowKit

/-- The first place at which something does not hold. -/
def offAt (n : Nat) (p : Nat → Bool) : Option Nat := (List.range n).find? fun i => !p i

theorem offAt_none {n : Nat} {p : Nat → Bool} (h : ∀ j, j < n → p j = true) : offAt n p = none := by
  unfold offAt; rw [List.find?_eq_none]; intro x hx; simp [h x (List.mem_range.1 hx)]

/-- (*Grammar).Waste. -/
def wasteB (G : Gr) (N : NG) : ByteArray × Int :=
  match offAt N.nN (bAt (closedN N true)) with
  | some i => (nth G.names i, 6)
  | none => match offAt N.nN (bAt (foundN N)) with
    | some i => (nth G.names i, 7)
    | none => match offAt N.nN (fun i => decide (lAt (leastsN N) i ≤ 200)) with
      | some i => (nth G.names i, 8)
      | none => (ByteArray.empty, 0)

end Go.Proofs.YtjjggdcnpndgjaaGreatDoor

namespace Go.Proofs.YtjjggdcnpndgjaaGreatDoor
open Go.RowKit

/-- What is told of a name. -/
structure FactR where
  name : ByteArray
  nul : Bool
  first : List ByteArray
  follow : List ByteArray
  least : Int

def fcCells (fs : List FactR) (ps : List (Value × Value)) : List Value := (fs.zip ps).flatMap fun t => [.string t.1.name, .bool t.1.nul, t.2.1, t.2.2, .int .i64 t.1.least]

theorem flat5 {α : Type} (f : α → List Value) (hf : ∀ a, (f a).length = 5) : ∀ (l : List α) (i : Nat) (a : α) (j : Nat), l[i]? = some a → j < 5 → (l.flatMap f)[i * 5 + j]? = (f a)[j]? := by
  intro l
  induction l with
  | nil => intro i a j h; simp at h
  | cons x r ih =>
    intro i a j h hj
    rw [List.flatMap_cons]
    match i with
    | 0 =>
      simp at h; subst h
      rw [List.getElem?_append_left (by rw [hf]; omega)]
      congr 1; omega
    | i + 1 =>
      simp at h
      rw [List.getElem?_append_right (by rw [hf]; omega), hf]
      rw [← ih i a j h hj]
      congr 1; omega

structure FcV (w : World) (B : Nat) (v : Value) (fs : List FactR) (ps : List (Value × Value)) : Prop where
  row : w.ownsRow B 81 5 v fs.length (fcCells fs ps)
  pl : ps.length = fs.length
  wds : ∀ (i : Nat) (f : FactR) (p : Value × Value), fs[i]? = some f → ps[i]? = some p → OwnS w B p.1 f.first ∧ OwnS w B p.2 f.follow

theorem FcV.nil (w : World) (B : Nat) : FcV w B (.slice none 0 0) [] [] where
  row := World.ownsRow_nil _ _ _ _
  pl := rfl
  wds := fun i x p hx => by simp at hx

theorem OwnS.keeps {w w' : World} {B : Nat} {v : Value} {l : List ByteArray} {S : List Nat} (h : OwnS w B v l) (hk : Keeps w w' S) (hn : ∀ g, v.ownBlock = some g → g ∉ S) : OwnS w' B v l := own_keeps h hk hn
theorem OwnS.below {w w' : World} {B : Nat} {v : Value} {l : List ByteArray} (h : OwnS w B v l) (hb : Below w.heap.size w w') : OwnS w' B v l := own_keeps h (Keeps.of_below hb []) (by simp)
theorem OwnS.base {w : World} {B B' : Nat} {v : Value} {l : List ByteArray} (h : OwnS w B v l) (hB : B' ≤ B) : OwnS w B' v l := by
  obtain ⟨h1, h2⟩ := h
  refine ⟨h1, ?_⟩
  rcases h2 with h2 | ⟨g, cap, cur, hv, hg, r⟩
  · exact .inl h2
  · exact .inr ⟨g, cap, cur, hv, Nat.le_trans hB hg, r⟩

theorem FcV.base {w : World} {B B' : Nat} {v : Value} {fs : List FactR} {ps : List (Value × Value)} (h : FcV w B v fs ps) (hB : B' ≤ B) : FcV w B' v fs ps where
  row := by
    obtain ⟨h1, h2⟩ := h.row
    refine ⟨h1, ?_⟩
    rcases h2 with h2 | ⟨g, cap, cur, hv, hg, r⟩
    · exact .inl h2
    · exact .inr ⟨g, cap, cur, hv, Nat.le_trans hB hg, r⟩
  pl := h.pl
  wds := fun i x p hx hp => ⟨(h.wds i x p hx hp).1.base hB, (h.wds i x p hx hp).2.base hB⟩

theorem FcV.below {w w' : World} {B : Nat} {v : Value} {fs : List FactR} {ps : List (Value × Value)} (h : FcV w B v fs ps) (hb : Below w.heap.size w w') : FcV w' B v fs ps where
  row := own_keeps h.row (Keeps.of_below hb []) (by simp)
  pl := h.pl
  wds := fun i x p hx hp => ⟨(h.wds i x p hx hp).1.below hb, (h.wds i x p hx hp).2.below hb⟩

theorem FcV.push {w w1 : World} {B : Nat} {v v' : Value} {fs : List FactR} {ps : List (Value × Value)} (h : FcV w B v fs ps) (hk : Keeps w w1 v.ownBlock.toList) {f : FactR} {p : Value × Value} (hp1 : OwnS w B p.1 f.first) (hp2 : OwnS w B p.2 f.follow)
    (hown : w1.ownsRow B 81 5 v' (fs.length + 1) (fcCells fs ps ++ [.string f.name, .bool f.nul, p.1, p.2, .int .i64 f.least])) : FcV w1 B v' (fs ++ [f]) (ps ++ [p]) := by
  have hl := h.pl
  have hoff : ∀ {q : Value} {l : List ByteArray}, OwnS w B q l → ∀ g, q.ownBlock = some g → g ∉ v.ownBlock.toList := fun hq g hg hm => own_apart hq h.row (by decide) hg (mem_own hm)
  refine ⟨?_, by simp [hl], fun i y q hy hq => ?_⟩
  · have e1 : fcCells (fs ++ [f]) (ps ++ [p]) = fcCells fs ps ++ [.string f.name, .bool f.nul, p.1, p.2, .int .i64 f.least] := by
      unfold fcCells
      rw [List.zip_append hl.symm]
      simp
    rw [e1, List.length_append]
    exact hown
  · by_cases hi : i < fs.length
    · rw [List.getElem?_append_left hi] at hy
      rw [List.getElem?_append_left (by omega)] at hq
      have h1 := h.wds i y q hy hq
      exact ⟨h1.1.keeps hk (hoff h1.1), h1.2.keeps hk (hoff h1.2)⟩
    · rw [List.getElem?_append_right (by omega)] at hy
      rw [List.getElem?_append_right (by omega)] at hq
      obtain ⟨h1, _⟩ := List.getElem?_eq_some_iff.1 hy
      simp at h1
      rw [show i - fs.length = 0 by omega] at hy
      rw [show i - ps.length = 0 by omega] at hq
      simp at hy hq
      subst hy; subst hq
      exact ⟨hp1.keeps hk (hoff hp1), hp2.keeps hk (hoff hp2)⟩

/-- (*Grammar).Facts. -/
def factOf (G : Gr) (N : NG) (i : Nat) : FactR where
  name := nth G.names i
  nul := bAt (closedN N false) i
  first := listB (tokWs G.toks) (mAt (headsN N (bAt (closedN N false))) i)
  follow := listB (tokWs G.toks) (mAt (tailsN N (headsN N (bAt (closedN N false))) (bAt (closedN N false))) i)
  least := lAt (leastsN N) i

def factsB (G : Gr) (N : NG) (k : Nat) : List FactR := (List.range k).map (factOf G N)

end Go.Proofs.YtjjggdcnpndgjaaGreatDoor
