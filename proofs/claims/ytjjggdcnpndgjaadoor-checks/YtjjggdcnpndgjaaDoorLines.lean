/- The program's lines, as lists, and as they lie in a world. -/
import Derived.Test.YtjjggdcnpndgjaaDoorPfits3
import Derived.Test.YtjjggdcnpndgjaaDoorPfits4
import Derived.Test.YtjjggdcnpndgjaaDoorGram4
import Derived.Test.YtjjggdcnpndgjaaDoorSplitW
namespace Go.Proofs.YtjjggdcnpndgjaaDoor
open Go.RowKit

/-- Which of the lines' shapes. -/
def shapeOf (l : List ByteArray) : Nat := if (nth l 0).toList == [116, 111, 107, 101, 110] then 0 else if (nth l 0).toList == [115, 119, 97, 112] then 1 else 2
/-- The lines that are not empty. -/
def progL (ls : List (Nat × List ByteArray)) : List (Nat × Nat × List ByteArray) := (ls.filter fun x => decide (¬ x.2.length = 1)).map fun x => (x.1, shapeOf x.2, x.2)

/-- A slice of a line's words, behind the first. -/
def WordsV (w : World) (p : Value) (l : List ByteArray) : Prop :=
  ∃ (g n cap : Nat) (ad : Option Addr) (cs : Array Value), p = .slice ad n cap ∧ l.length = 1 + n ∧ n ≤ cap ∧ cap ≤ 9223372036854775807 ∧ w.heap[g]? = some (.cells cs 9 (0, 0)) ∧
    (∀ j, j < l.length → cs[j]? = some (.string (nth l j))) ∧ (0 < n → ad = some ⟨g, 1, none⟩)

def lnCells (ls : List (Nat × Nat × List ByteArray)) (pv : List Value) : List Value := (ls.zip pv).flatMap fun t => [.int .i64 t.1.1, .int .i64 t.1.2.1, t.2]

structure LnV (w : World) (B : Nat) (v : Value) (ls : List (Nat × Nat × List ByteArray)) (pv : List Value) : Prop where
  row : w.ownsRow B 66 3 v ls.length (lnCells ls pv)
  pvl : pv.length = ls.length
  wds : ∀ (i : Nat) (x : Nat × Nat × List ByteArray) (p : Value), ls[i]? = some x → pv[i]? = some p → WordsV w p x.2.2

theorem WordsV.keeps {w w' : World} {S : List Nat} {p : Value} {l : List ByteArray} (h : WordsV w p l) (hk : Keeps w w' S) (hS : ∀ g cs, w.heap[g]? = some (.cells cs 9 (0, 0)) → g ∉ S) : WordsV w' p l := by
  obtain ⟨g, n, cap, ad, cs, h1, h2, h3, h4, h5, h6, h7⟩ := h
  exact ⟨g, n, cap, ad, cs, h1, h2, h3, h4, (hk.block g (lt_of_block h5) (hS g cs h5)).trans h5, h6, h7⟩

theorem WordsV.below {w w' : World} {p : Value} {l : List ByteArray} (h : WordsV w p l) (hb : Below w.heap.size w w') : WordsV w' p l := h.keeps (Keeps.of_below hb []) (by simp)

theorem LnV.below {w w' : World} {B : Nat} {v : Value} {ls : List (Nat × Nat × List ByteArray)} {pv : List Value} (h : LnV w B v ls pv) (hb : Below w.heap.size w w') : LnV w' B v ls pv where
  row := own_keeps h.row (Keeps.of_below hb []) (by simp)
  pvl := h.pvl
  wds := fun i x p hx hp => (h.wds i x p hx hp).below hb

theorem LnV.nil (w : World) (B : Nat) : LnV w B (.slice none 0 0) [] [] where
  row := World.ownsRow_nil _ _ _ _
  pvl := rfl
  wds := fun i x p hx => by simp at hx

theorem LnV.push {w w1 : World} {B : Nat} {v v' : Value} {ls : List (Nat × Nat × List ByteArray)} {pv : List Value} (h : LnV w B v ls pv) (hk : Keeps w w1 v.ownBlock.toList) {x : Nat × Nat × List ByteArray} {p : Value} (hp : WordsV w p x.2.2)
    (hown : w1.ownsRow B 66 3 v' (ls.length + 1) (lnCells ls pv ++ [.int .i64 x.1, .int .i64 x.2.1, p])) : LnV w1 B v' (ls ++ [x]) (pv ++ [p]) := by
  have hl := h.pvl
  have hoff : ∀ g cs, w.heap[g]? = some (.cells cs 9 (0, 0)) → g ∉ v.ownBlock.toList := by
    intro g cs hg hm
    exact own_not_block h.row hg (by decide) (by
      cases hv : v.ownBlock with
      | none => rw [hv] at hm; simp at hm
      | some k => rw [hv] at hm; simp at hm; rw [hm])
  refine ⟨?_, by simp [hl], fun i y q hy hq => ?_⟩
  · have e1 : lnCells (ls ++ [x]) (pv ++ [p]) = lnCells ls pv ++ [.int .i64 x.1, .int .i64 x.2.1, p] := by
      unfold lnCells
      rw [List.zip_append hl.symm]
      simp
    rw [e1, List.length_append]
    exact hown
  · by_cases hi : i < ls.length
    · rw [List.getElem?_append_left hi] at hy
      rw [List.getElem?_append_left (by omega)] at hq
      exact (h.wds i y q hy hq).keeps hk hoff
    · rw [List.getElem?_append_right (by omega)] at hy
      rw [List.getElem?_append_right (by omega)] at hq
      obtain ⟨h1, _⟩ := List.getElem?_eq_some_iff.1 hy
      simp at h1
      rw [show i - ls.length = 0 by omega] at hy
      rw [show i - pv.length = 0 by omega] at hq
      simp at hy hq
      subst hy; subst hq
      exact hp.keeps hk hoff

/-- Behind strings.Split: the words behind the first. -/
theorem wordsV_split (w : World) (s : ByteArray) (hs : s.size ≤ 4000) (hl : (wordsB s).length ≤ s.size + 1) (h1 : 1 ≤ (wordsB s).length) : WordsV (w.alloc (.cells ((wordsB s).map Value.string).toArray 9))
    (.slice (if (wordsB s).length = 1 then some ⟨w.heap.size, 0, none⟩ else some ⟨w.heap.size, 1, none⟩) ((wordsB s).length - 1) ((wordsB s).length - 1)) (wordsB s) := by
  refine ⟨w.heap.size, _, _, _, _, rfl, by omega, Nat.le_refl _, by omega, heap_alloc_new w _, fun j hj => ?_, fun h => by rw [if_neg (by omega)]⟩
  unfold nth
  simp [List.getElem?_eq_getElem hj]

/-- A line's first word, and what stands behind it, against the three shapes. -/
def shapeFits (i : Nat) (l : List ByteArray) : Bool :=
  if i = 0 then ((nth l 0).toList == [116, 111, 107, 101, 110]) && tokLineB l else if i = 1 then ((nth l 0).toList == [115, 119, 97, 112]) && swapLineB l else ((nth l 0).toList == [114, 117, 108, 101]) && ruleLineB l

theorem nth_zero_words {s : ByteArray} (h : (wordsB s).length = 1) : nth (wordsB s) 0 = s := by
  apply map_inj (a := [nth (wordsB s) 0]) (b := [s]) ?_ |> List.cons.inj |>.1
  have h1 := split_words s
  have h2 := split_count s
  have h3 : Lib.countB s ⟨#[32]⟩ = 0 := by omega
  rw [h3] at h1
  rw [← h1]
  rfl

theorem isLine_shapes {s : ByteArray} (hne : s.toList.isEmpty = false) : isLineB (wordsB s) = (shapeFits 0 (wordsB s) || (shapeFits 1 (wordsB s) || shapeFits 2 (wordsB s))) := by
  unfold isLineB shapeFits
  by_cases h1 : (wordsB s).length = 1
  · rw [if_pos h1, nth_zero_words h1, hne]
    have h2 : tokLineB (wordsB s) = false := by unfold tokLineB; rw [decide_eq_false (by omega)]; rfl
    have h3 : swapLineB (wordsB s) = false := by unfold swapLineB; rw [decide_eq_false (by omega)]; rfl
    have h4 : ruleLineB (wordsB s) = false := by unfold ruleLineB headB; rw [decide_eq_false (by omega)]; rfl
    rw [h2, h3, h4]; simp
  · rw [if_neg h1]
    cases ht : ((nth (wordsB s) 0).toList == [116, 111, 107, 101, 110])
    · cases hw : ((nth (wordsB s) 0).toList == [115, 119, 97, 112])
      · cases hr : ((nth (wordsB s) 0).toList == [114, 117, 108, 101]) <;> simp
      · rw [beq_iff_eq] at hw
        rw [hw]; simp
    · rw [beq_iff_eq] at ht
      rw [ht]; simp

theorem shape_fits {l : List ByteArray} {i : Nat} (hi : i < 3) (h : shapeFits i l = true) : shapeOf l = i ∧ ¬ l.length = 1 := by
  unfold shapeFits at h
  unfold shapeOf
  have h' : i = 0 ∨ i = 1 ∨ i = 2 := by omega
  rcases h' with rfl | rfl | rfl
  · simp only [Bool.and_eq_true, if_true] at h
    rw [if_pos h.1]
    refine ⟨rfl, fun e => ?_⟩
    have := h.2; unfold tokLineB at this; rw [decide_eq_false (by omega)] at this; cases this
  · have h : ((nth l 0).toList == [115, 119, 97, 112]) = true ∧ swapLineB l = true := by simpa using h
    have e := h.1
    rw [beq_iff_eq] at e
    rw [e]
    refine ⟨rfl, fun e => ?_⟩
    have := h.2; unfold swapLineB at this; rw [decide_eq_false (by omega)] at this; cases this
  · have h : ((nth l 0).toList == [114, 117, 108, 101]) = true ∧ ruleLineB l = true := by simpa using h
    have e := h.1
    rw [beq_iff_eq] at e
    rw [e]
    refine ⟨rfl, fun e => ?_⟩
    have := h.2; unfold ruleLineB headB at this; rw [decide_eq_false (by omega)] at this; cases this

theorem words_empty {s : ByteArray} (h : s.toList.isEmpty = true) : (wordsB s).length = 1 ∧ isLineB (wordsB s) = true := by
  have e : s.data.toList = [] := by rw [ByteArray.toList_eq] at h; simpa using h
  have e2 : wordsB s = [ByteArray.empty] := by unfold wordsB wst; rw [e]; rfl
  rw [e2]
  exact ⟨rfl, by unfold isLineB nth; simp [ByteArray.toList_eq]⟩

end Go.Proofs.YtjjggdcnpndgjaaDoor
