/- The reference's grammar, as lists, and as it lies in a world. -/
import Derived.Test.YtjjggdcnpndgjaaDoorProg
import Derived.Test.YtjjggdcnpndgjaaDoorHeap
import Derived.Test.YtjjggdcnpndgjaaDoorKeeps
namespace Go.Proofs.YtjjggdcnpndgjaaDoor
open Go.RowKit

structure Gr where
  toks : List (ByteArray × Int × Int)
  swps : List (ByteArray × ByteArray × Int)
  names : List ByteArray
  rules : List (ByteArray × List ByteArray)

def tokCells (l : List (ByteArray × Int × Int)) : List Value := l.flatMap fun t => [.string t.1, .int .i64 t.2.1, .int .i64 t.2.2]
def swpCells (l : List (ByteArray × ByteArray × Int)) : List Value := l.flatMap fun t => [.string t.1, .string t.2.1, .int .i64 t.2.2]
def ruleCells (l : List (ByteArray × List ByteArray)) (pv : List Value) : List Value := (l.zip pv).flatMap fun t => [.string t.1.1, t.2]

/-- A row of strings that is not the names' own. -/
def PartsAt (w : World) (B : Nat) (vN pv : Value) (l : List ByteArray) : Prop :=
  w.ownsRow B 9 1 pv l.length (l.map Value.string) ∧ (pv.ownBlock = none ∨ pv.ownBlock ≠ vN.ownBlock)

structure GrV (w : World) (B gb : Nat) (G : Gr) (vT vS vN vR : Value) (pv : List Value) : Prop where
  blk : w.heap[gb]? = some (.cells #[vT, vS, vN, vR] 39 (0, 0))
  hb : B ≤ gb
  toks : w.ownsRow B 46 3 vT G.toks.length (tokCells G.toks)
  swps : w.ownsRow B 48 3 vS G.swps.length (swpCells G.swps)
  names : w.ownsRow B 9 1 vN G.names.length (G.names.map Value.string)
  rules : w.ownsRow B 50 2 vR G.rules.length (ruleCells G.rules pv)
  pvl : pv.length = G.rules.length
  parts : ∀ (i : Nat) (r : ByteArray × List ByteArray) (p : Value), G.rules[i]? = some r → pv[i]? = some p → PartsAt w B vN p r.2

/-- The grammar lies at block gb; all of it in blocks from B on. -/
def GrAt (w : World) (B gb : Nat) (G : Gr) : Prop := ∃ vT vS vN vR pv, GrV w B gb G vT vS vN vR pv

section
variable {w : World} {B gb : Nat} {G : Gr} {vT vS vN vR : Value} {pv : List Value}

theorem GrV.cells (h : GrV w B gb G vT vS vN vR pv) : w.cell? ⟨gb, 0, none⟩ = some vT ∧ w.cell? ⟨gb, 1, none⟩ = some vS ∧ w.cell? ⟨gb, 2, none⟩ = some vN ∧ w.cell? ⟨gb, 3, none⟩ = some vR := by
  refine ⟨?_, ?_, ?_, ?_⟩ <;> simp [World.cell?, h.blk]
end

theorem flat3 {α : Type} (f : α → List Value) (hf : ∀ a, (f a).length = 3) : ∀ (l : List α) (i : Nat) (a : α) (j : Nat), l[i]? = some a → j < 3 → (l.flatMap f)[i * 3 + j]? = (f a)[j]? := by
  intro l
  induction l with
  | nil => intro i a j h; simp at h
  | cons x r ih =>
    intro i a j h hj
    rw [List.flatMap_cons]
    match i with
    | 0 =>
      simp at h; subst h
      rw [List.getElem?_append_left (by rw [hf]; omega)]
      congr 1; omega
    | i + 1 =>
      simp at h
      rw [List.getElem?_append_right (by rw [hf]; omega), hf]
      rw [← ih i a j h hj]
      congr 1; omega

theorem flat2 {α : Type} (f : α → List Value) (hf : ∀ a, (f a).length = 2) : ∀ (l : List α) (i : Nat) (a : α) (j : Nat), l[i]? = some a → j < 2 → (l.flatMap f)[i * 2 + j]? = (f a)[j]? := by
  intro l
  induction l with
  | nil => intro i a j h; simp at h
  | cons x r ih =>
    intro i a j h hj
    rw [List.flatMap_cons]
    match i with
    | 0 =>
      simp at h; subst h
      rw [List.getElem?_append_left (by rw [hf]; omega)]
      congr 1; omega
    | i + 1 =>
      simp at h
      rw [List.getElem?_append_right (by rw [hf]; omega), hf]
      rw [← ih i a j h hj]
      congr 1; omega

def tokW (l : List (ByteArray × Int × Int)) (k : Nat) : ByteArray := (l[k]?.map (·.1)).getD ByteArray.empty
def hasTok (l : List (ByteArray × Int × Int)) (w : ByteArray) : Bool := l.any fun t => t.1.toList == w.toList
def hasNam (l : List ByteArray) (w : ByteArray) : Bool := l.any fun t => t.toList == w.toList

theorem tok_cell {w : World} {B g cap n : Nat} {l : List (ByteArray × Int × Int)} (h : w.ownsRow B 46 3 (.slice (some ⟨g, 0, none⟩) n cap) n (tokCells l)) (hl : l.length = n) {k : Nat} (hk : k < n) :
    w.cell? ⟨g, k * 3, none⟩ = some (.string (tokW l k)) := by
  rw [h.cellAt (k * 3) (show k * 3 < n * 3 by omega)]
  have := flat3 (fun t : ByteArray × Int × Int => [Value.string t.1, .int .i64 t.2.1, .int .i64 t.2.2]) (fun _ => rfl) l k (l[k]'(by omega)) 0 (by simp) (by omega)
  unfold tokCells tokW
  rw [Nat.add_zero] at this
  rw [this, List.getElem?_eq_getElem (show k < l.length by omega)]
  rfl

theorem hasTok_no {l : List (ByteArray × Int × Int)} {x : ByteArray} (h : ∀ j, j < l.length → ((tokW l j).toList == x.toList) = false) : hasTok l x = false := by
  unfold hasTok
  rw [List.any_eq_false]
  intro t ht
  obtain ⟨j, hj, rfl⟩ := List.mem_iff_getElem.1 ht
  have := h j hj
  unfold tokW at this
  rw [List.getElem?_eq_getElem hj] at this
  simpa using this

theorem hasTok_yes {l : List (ByteArray × Int × Int)} {x : ByteArray} {j : Nat} (hj : j < l.length) (h : ((tokW l j).toList == x.toList) = true) : hasTok l x = true := by
  unfold hasTok
  rw [List.any_eq_true]
  refine ⟨l[j], List.getElem_mem hj, ?_⟩
  unfold tokW at h
  rw [List.getElem?_eq_getElem hj] at h
  simpa using h

theorem hasNam_no {l : List ByteArray} {x : ByteArray} (h : ∀ j, j < l.length → ((nth l j).toList == x.toList) = false) : hasNam l x = false := by
  unfold hasNam
  rw [List.any_eq_false]
  intro t ht
  obtain ⟨j, hj, rfl⟩ := List.mem_iff_getElem.1 ht
  have := h j hj
  unfold nth at this
  rw [List.getD_eq_getElem?_getD, List.getElem?_eq_getElem hj] at this
  simpa using this

theorem hasNam_yes {l : List ByteArray} {x : ByteArray} {j : Nat} (hj : j < l.length) (h : ((nth l j).toList == x.toList) = true) : hasNam l x = true := by
  unfold hasNam
  rw [List.any_eq_true]
  refine ⟨l[j], List.getElem_mem hj, ?_⟩
  unfold nth at h
  rw [List.getD_eq_getElem?_getD, List.getElem?_eq_getElem hj] at h
  simpa using h

def unkB (G : Gr) (x : ByteArray) : Bool := !barB x && (!hasTok G.toks x && !hasNam G.names x)
/-- (*Grammar).unknown. -/
def unknownB (G : Gr) (l : List ByteArray) : Bool :=
  if (nth l 0).toList == [115, 119, 97, 112] then (!hasTok G.toks (nth l 1) || (!hasTok G.toks (nth l 2) || ((nth l 1).toList == (nth l 2).toList)))
  else if (nth l 0).toList == [114, 117, 108, 101] then (l.drop 3).any (unkB G) else false

theorem any_drop_no {l : List ByteArray} {p : ByteArray → Bool} (h : ∀ j, 3 ≤ j → j < l.length → p (nth l j) = false) : (l.drop 3).any p = false := by
  rw [List.any_eq_false]
  intro x hx
  obtain ⟨j, hj, rfl⟩ := List.mem_iff_getElem.1 hx
  simp at hj
  have := h (3 + j) (by omega) (by omega)
  unfold nth at this
  simp only [List.getElem_drop]
  rw [List.getD_eq_getElem?_getD, List.getElem?_eq_getElem (by omega)] at this
  simpa using this

theorem any_drop_yes {l : List ByteArray} {p : ByteArray → Bool} {j : Nat} (h3 : 3 ≤ j) (hj : j < l.length) (h : p (nth l j) = true) : (l.drop 3).any p = true := by
  rw [List.any_eq_true]
  refine ⟨nth l j, ?_, h⟩
  unfold nth
  rw [List.getD_eq_getElem?_getD, List.getElem?_eq_getElem (by omega)]
  rw [List.mem_iff_getElem]
  exact ⟨j - 3, by simp; omega, by simp only [List.getElem_drop, Option.getD_some]; congr 1; omega⟩

theorem upto_next {p : Nat → Prop} {k : Nat} (h : ∀ j, j < k → p j) (hk : p k) : ∀ j, j < k + 1 → p j := by
  intro j hj
  by_cases e : j = k
  · subst e; exact hk
  · exact h j (by omega)

end Go.Proofs.YtjjggdcnpndgjaaDoor
