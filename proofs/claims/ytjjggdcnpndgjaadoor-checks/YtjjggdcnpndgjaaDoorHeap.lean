/- What a slice reads as in a world; the words of a line. Nothing of the program's numbers. -/
import Derived.WalkKit
import Derived.WalkSpells
import Derived.WalkLawsBesides
import Derived.Test.YtjjggdcnpndgjaaDoorPure
namespace Go.Proofs.YtjjggdcnpndgjaaDoor
open Go.RowKit

theorem hid {p : Prop} (h : p) : Hid p := h

/-- The j-th of a list of strings. -/
def nth (l : List ByteArray) (j : Nat) : ByteArray := l.getD j ByteArray.empty

/-- The cells from ⟨g, off⟩ on hold these strings. -/
def StrsAt (w : World) (g off : Nat) (l : List ByteArray) : Prop := g < w.heap.size ∧ ∀ j, j < l.length → w.cell? ⟨g, off + j, none⟩ = some (.string (nth l j))

theorem StrsAt.below {w w' : World} {B g off : Nat} {l : List ByteArray} (h : StrsAt w g off l) (hb : Below B w w') (hg : g < B) : StrsAt w' g off l :=
  ⟨Nat.lt_of_lt_of_le h.1 hb.size, fun j hj => (hb.cell (by exact hg)).trans (h.2 j hj)⟩

theorem StrsAt.later {w w' : World} {g off : Nat} {l : List ByteArray} (h : StrsAt w g off l) (hb : Below w.heap.size w w') : StrsAt w' g off l := h.below hb h.1

theorem nth_append_left (l m : List ByteArray) (j : Nat) (h : j < l.length) : nth (l ++ m) j = nth l j := by
  unfold nth; simp [List.getElem?_append_left h]

/-- Off a row that the call owns. -/
theorem strsAt_owned {w : World} {base t : Nat} {g cap n : Nat} {l : List ByteArray} (h : w.ownsRow base t 1 (.slice (some ⟨g, 0, none⟩) n cap) n (l.map Value.string)) (hn : l.length = n) : StrsAt w g 0 l := by
  refine ⟨(h.lt g rfl).2, fun j hj => ?_⟩
  rw [Nat.zero_add, h.cellAt j (by omega)]
  unfold nth
  simp [List.getElem?_eq_getElem hj]

theorem owned_shape {w : World} {base t size : Nat} {v : Value} {n : Nat} {xs : List Value} (h : w.ownsRow base t size v n xs) (hn : 0 < n) : ∃ g cap, v = .slice (some ⟨g, 0, none⟩) n cap ∧ base ≤ g ∧ g < w.heap.size ∧ n ≤ cap := by
  have h0 := h
  rcases h.2 with ⟨_, h2⟩ | ⟨g, cap, cur, hv, hg, hh, hnc, _⟩
  · omega
  · subst hv
    exact ⟨g, cap, rfl, hg, (h0.lt g rfl).2, hnc⟩

/-- One byte of a line, taken into the words so far. -/
def wstep (p : List ByteArray × ByteArray) (b : UInt8) : List ByteArray × ByteArray := if b = 32 then (p.1 ++ [p.2], ByteArray.empty) else (p.1, p.2 ++ ⟨#[b]⟩)
def wst (l : List UInt8) : List ByteArray × ByteArray := l.foldl wstep ([], ByteArray.empty)
/-- darnref.words: a line, cut at single blanks. -/
def wordsB (s : ByteArray) : List ByteArray := (wst s.data.toList).1 ++ [(wst s.data.toList).2]

theorem wst_snoc (l : List UInt8) (b : UInt8) : wst (l ++ [b]) = wstep (wst l) b := by simp [wst]

theorem wstep_bd (p : List ByteArray × ByteArray) (b : UInt8) : (wstep p b).1.length ≤ p.1.length + 1 ∧ (wstep p b).2.size ≤ p.2.size + 1 := by
  unfold wstep
  have e1 : (⟨#[b]⟩ : ByteArray).size = 1 := rfl
  split
  · simp
  · simp [e1]

theorem wst_bd (l : List UInt8) : (wst l).1.length ≤ l.length ∧ (wst l).2.size ≤ l.length := by
  suffices h : ∀ (l : List UInt8) (p : List ByteArray × ByteArray), (l.foldl wstep p).1.length ≤ p.1.length + l.length ∧ (l.foldl wstep p).2.size ≤ p.2.size + l.length by
    have := h l ([], ByteArray.empty); simpa [wst] using this
  intro l
  induction l with
  | nil => intro p; simp
  | cons b r ih =>
    intro p
    have h1 := ih (wstep p b)
    have h2 := wstep_bd p b
    simp only [List.foldl_cons, List.length_cons]
    omega

theorem extract_one {s : ByteArray} {k : Nat} (h : k < s.size) : s.extract k (k + 1) = ⟨#[s[k]]⟩ := by
  apply ByteArray.ext
  apply Array.ext
  · simp; omega
  · intro i h1 h2
    simp at h1 h2
    have : i = 0 := by omega
    subst this
    simp [ByteArray.getElem_eq_getElem_data]

theorem byte_sp {c : UInt8} : ((c.toNat : Int) == 32) = (c == 32) := by
  rw [Bool.eq_iff_iff]; simp only [beq_iff_eq]; rw [← UInt8.toNat_inj]; show _ ↔ c.toNat = 32; omega

theorem wst_space {s : ByteArray} {k : Nat} {d : List ByteArray} {c : ByteArray} (hk : k < s.size) (h : wst (s.data.toList.take k) = (d, c)) (hb : ((s[k].toNat : Int) == 32) = true) :
    wst (s.data.toList.take (k + 1)) = (d ++ [c], ByteArray.empty) := by
  rw [byte_sp] at hb
  rw [take_snoc s k hk, wst_snoc, h, wstep, if_pos (by simpa using hb)]

theorem wst_other {s : ByteArray} {k : Nat} {d : List ByteArray} {c : ByteArray} (hk : k < s.size) (h : wst (s.data.toList.take k) = (d, c)) (hb : ((s[k].toNat : Int) == 32) = false) :
    wst (s.data.toList.take (k + 1)) = (d, c ++ s.extract k (k + 1)) := by
  rw [byte_sp] at hb
  rw [take_snoc s k hk, wst_snoc, h, wstep, if_neg (by simpa using hb), extract_one hk]

def tokB (s : ByteArray) : Bool := madeB s.data.toList 97 122 8
def nameB (s : ByteArray) : Bool := madeB s.data.toList 65 90 8
def numB (s : ByteArray) : Bool := costB s.data.toList
def barB (s : ByteArray) : Bool := s.toList == [124]
def partB (s : ByteArray) : Bool := barB s || (tokB s || nameB s)
def tokLineB (l : List ByteArray) : Bool := decide (l.length = 4) && (tokB (nth l 1) && (numB (nth l 2) && numB (nth l 3)))
def swapLineB (l : List ByteArray) : Bool := decide (l.length = 4) && (tokB (nth l 1) && (tokB (nth l 2) && numB (nth l 3)))
def headB (l : List ByteArray) : Bool := decide (3 ≤ l.length) && (nameB (nth l 1) && ((nth l 2).toList == [61]))
def ruleLineB (l : List ByteArray) : Bool := headB l && (l.drop 3).all partB
/-- darnref.isLine. -/
def isLineB (l : List ByteArray) : Bool :=
  if l.length = 1 then (nth l 0).toList.isEmpty
  else if (nth l 0).toList == [116, 111, 107, 101, 110] then tokLineB l
  else if (nth l 0).toList == [115, 119, 97, 112] then swapLineB l
  else if (nth l 0).toList == [114, 117, 108, 101] then ruleLineB l else false

theorem all_drop_of {l : List ByteArray} {p : ByteArray → Bool} (h : ∀ j, 3 ≤ j → j < l.length → p (nth l j) = true) : (l.drop 3).all p = true := by
  rw [List.all_eq_true]
  intro x hx
  obtain ⟨j, hj, rfl⟩ := List.mem_iff_getElem.1 hx
  simp at hj
  have := h (3 + j) (by omega) (by omega)
  unfold nth at this
  simp only [List.getElem_drop]
  rwa [List.getD_eq_getElem?_getD, List.getElem?_eq_getElem (by omega)] at this

theorem all_drop_not {l : List ByteArray} {p : ByteArray → Bool} {j : Nat} (h3 : 3 ≤ j) (hj : j < l.length) (h : p (nth l j) = false) : (l.drop 3).all p = false := by
  rw [List.all_eq_false]
  refine ⟨nth l j, ?_, by simp [h]⟩
  unfold nth
  rw [List.getD_eq_getElem?_getD, List.getElem?_eq_getElem (by omega)]
  rw [List.mem_iff_getElem]
  exact ⟨j - 3, by simp; omega, by simp only [List.getElem_drop, Option.getD_some]; congr 1; omega⟩

end Go.Proofs.YtjjggdcnpndgjaaDoor
