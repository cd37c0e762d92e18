/- The rules of a line, as the program lays them: a row of rows of words. -/
import Derived.Test.YtjjggdcnpndgjaaDoorPgives
import Derived.Test.YtjjggdcnpndgjaaDoorGram4
namespace Go.Proofs.YtjjggdcnpndgjaaDoor
open Go.RowKit

/-- One word of a rule line. -/
def pstep (st : List (List ByteArray) × List ByteArray) (x : ByteArray) : List (List ByteArray) × List ByteArray := if barB x then (st.1 ++ [st.2], []) else (st.1, st.2 ++ [x])
def pst (l : List ByteArray) : List (List ByteArray) × List ByteArray := l.foldl pstep ([], [])
def rulesL (l : List ByteArray) : List (List ByteArray) := (pst (l.drop 3)).1 ++ [(pst (l.drop 3)).2]

theorem pst_next {l : List ByteArray} {k : Nat} (hk : 3 + k < l.length) : pst ((l.take (3 + k + 1)).drop 3) = pstep (pst ((l.take (3 + k)).drop 3)) (nth l (3 + k)) := by
  rw [List.take_succ_eq_append_getElem hk, List.drop_append_of_le_length (by simp; omega)]
  unfold pst nth
  rw [List.foldl_append, List.getD_eq_getElem?_getD, List.getElem?_eq_getElem hk]
  rfl

/-- Rows of words, each its own; the last one is still written. -/
structure RulV (w : World) (B Bl : Nat) (v : Value) (done : List (List ByteArray)) (cur : List ByteArray) (pvd : List Value) (pl : Value) : Prop where
  row : w.ownsRow B 33 1 v (done.length + 1) (pvd ++ [pl])
  pvl : pvd.length = done.length
  parts : ∀ (i : Nat) (r : List ByteArray) (p : Value), done[i]? = some r → pvd[i]? = some p → w.ownsRow B 9 1 p r.length (r.map Value.string) ∧ (∀ q, p.ownBlock = some q → q < Bl)
  last : w.ownsRow Bl 9 1 pl cur.length (cur.map Value.string)
  hB : B ≤ Bl
  hBl : Bl ≤ w.heap.size

theorem RulV.start (w : World) {B : Nat} (hB : B ≤ w.heap.size) : RulV (w.alloc (.cells #[.slice none 0 0] 33)) B (w.heap.size + 1) (.slice (some ⟨w.heap.size, 0, none⟩) 1 1) [] [] [] (.slice none 0 0) where
  row := ⟨rfl, .inr ⟨_, _, _, rfl, hB, heap_alloc_new w _, Nat.le_refl _, by unfold maxLen; omega, rfl, rfl⟩⟩
  pvl := rfl
  parts := fun i r p hr => by simp at hr
  last := World.ownsRow_nil _ _ _ _
  hB := by omega
  hBl := by simp

theorem ownsRow_base {w : World} {B B' e sz n : Nat} {v : Value} {xs : List Value} (h : w.ownsRow B e sz v n xs) (hB : B' ≤ B) : w.ownsRow B' e sz v n xs := by
  refine ⟨h.1, ?_⟩
  rcases h.2 with h2 | ⟨g, cap, cur, hv, hg, r⟩
  · exact .inl h2
  · exact .inr ⟨g, cap, cur, hv, Nat.le_trans hB hg, r⟩

theorem RulV.bar {w w3 : World} {B Bl : Nat} {v v' : Value} {done : List (List ByteArray)} {cur : List ByteArray} {pvd : List Value} {pl : Value} (h : RulV w B Bl v done cur pvd pl) (hk : Keeps w w3 v.ownBlock.toList)
    (hown : w3.ownsRow B 33 1 v' (done.length + 1 + 1) (pvd ++ [pl] ++ [.slice none 0 0])) : RulV w3 B w3.heap.size v' (done ++ [cur]) [] (pvd ++ [pl]) (.slice none 0 0) := by
  have hl := h.pvl
  have hoff : ∀ {n : Nat} {b : Nat} {p : Value} {xs : List Value}, w.ownsRow b 9 1 p n xs → ∀ q, p.ownBlock = some q → q ∉ v.ownBlock.toList := by
    intro n b p xs hp q hq hm
    exact own_apart hp h.row (by decide) hq (mem_own hm)
  refine ⟨by simpa using hown, by simp [hl], fun i r p hr hp => ?_, World.ownsRow_nil _ _ _ _, Nat.le_trans (Nat.le_trans h.hB h.hBl) hk.size, Nat.le_refl _⟩
  by_cases hi : i < done.length
  · rw [List.getElem?_append_left hi] at hr
    rw [List.getElem?_append_left (by omega)] at hp
    have h1 := h.parts i r p hr hp
    exact ⟨own_keeps h1.1 hk (hoff h1.1), fun q hq => Nat.lt_of_lt_of_le (own_lt h1.1 hq) hk.size⟩
  · rw [List.getElem?_append_right (by omega)] at hr
    rw [List.getElem?_append_right (by omega)] at hp
    obtain ⟨h1, _⟩ := List.getElem?_eq_some_iff.1 hr
    simp at h1
    rw [show i - done.length = 0 by omega] at hr
    rw [show i - pvd.length = 0 by omega] at hp
    simp at hr hp
    subst hr; subst hp
    exact ⟨own_keeps (ownsRow_base h.last h.hB) hk (hoff h.last), fun q hq => Nat.lt_of_lt_of_le (own_lt h.last hq) hk.size⟩

theorem ownsRow_setAt {w : World} {B e n g cap j : Nat} {xs : List Value} (h : w.ownsRow B e 1 (.slice (some ⟨g, 0, none⟩) n cap) n xs) (u : Value) : (w.setCell ⟨g, j, none⟩ u).ownsRow B e 1 (.slice (some ⟨g, 0, none⟩) n cap) n (xs.set j u) := by
  rcases h.2 with ⟨h1, _⟩ | ⟨g', cap', cur, hv, hg, hh, h1, h2, h3, h4⟩
  · cases h1
  · cases hv
    refine ⟨by simpa using h.1, .inr ⟨g, cap, cur.setIfInBounds j u, rfl, hg, cells_set hh u, h1, h2, by simpa using h3, ?_⟩⟩
    rw [Array.toList_setIfInBounds, ← h4, List.take_set]

theorem RulV.add {w w3 : World} {B Bl gv cap : Nat} {pl' : Value} {done : List (List ByteArray)} {cur : List ByteArray} {pvd : List Value} {pl : Value} {x : ByteArray} (h : RulV w B Bl (.slice (some ⟨gv, 0, none⟩) (done.length + 1) cap) done cur pvd pl) (hk : Keeps w w3 pl.ownBlock.toList)
    (hown : w3.ownsRow Bl 9 1 pl' (cur.length + 1) (cur.map Value.string ++ [.string x])) : RulV (w3.setCell ⟨gv, done.length, none⟩ pl') B Bl (.slice (some ⟨gv, 0, none⟩) (done.length + 1) cap) done (cur ++ [x]) pvd pl' := by
  have hl := h.pvl
  have hrow : w3.ownsRow B 33 1 (.slice (some ⟨gv, 0, none⟩) (done.length + 1) cap) (done.length + 1) (pvd ++ [pl]) := own_keeps h.row hk (fun q hq hm => own_apart h.row h.last (by decide) hq (mem_own hm))
  have hgv : ∀ {n b : Nat} {p : Value} {xs : List Value}, w3.ownsRow b 9 1 p n xs → p.ownBlock ≠ some gv := fun {n b p xs} hp hq => own_apart hp hrow (by decide) hq rfl
  refine ⟨?_, hl, fun i r p hr hp => ?_, ?_, h.hB, by simp [World.setCell]; exact Nat.le_trans h.hBl hk.size⟩
  · have := ownsRow_setAt hrow (j := done.length) pl'
    rwa [← hl, List.set_append_right _ _ (Nat.le_refl _), Nat.sub_self, List.set_cons_zero, hl] at this
  · have h1 := h.parts i r p hr hp
    have h2 := own_keeps h1.1 hk (fun q hq hm => by
      have := h1.2 q hq
      have := (h.last.lt q (mem_own hm)).1
      omega)
    exact ⟨ownsRow_setCell_other h2 (hgv h2) _, h1.2⟩
  · have := ownsRow_setCell_other (a := ⟨gv, done.length, none⟩) hown (hgv hown) pl'
    simpa using this

end Go.Proofs.YtjjggdcnpndgjaaDoor
