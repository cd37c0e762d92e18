/- What a line gives, whole; the lines of a text; darnref.Read as a plain function. -/
import Derived.Test.YtjjggdcnpndgjaaGreatDoorJ1
import Derived.Deep.QuietTactic
import Derived.BigQuiet
namespace Go.Proofs.YtjjggdcnpndgjaaGreatDoor
open Go.RowKit

theorem ret_int {a b : Int} (h : a = b) : Ending.returned (.int .i64 b) = .returned (.int .i64 a) := by rw [h]

end Go.Proofs.YtjjggdcnpndgjaaGreatDoor

namespace Go.Proofs.YtjjggdcnpndgjaaGreatDoor
open Go.RowKit

end Go.Proofs.YtjjggdcnpndgjaaGreatDoor

namespace Go.Proofs.YtjjggdcnpndgjaaGreatDoor
open Go.RowKit

end Go.Proofs.YtjjggdcnpndgjaaGreatDoor

namespace Go.Proofs.YtjjggdcnpndgjaaGreatDoor
open Go.RowKit

/-- (*Grammar).give. -/
def giveB (G : Gr) (l : List ByteArray) : Gr × Int :=
  if (nth l 0).toList == [116, 111, 107, 101, 110] then
    (if hasTok G.toks (nth l 1) then (G, 3)
     else ({ G with toks := G.toks ++ [(nth l 1, valD (nth l 2).data.toList, valD (nth l 3).data.toList)] }, totI { G with toks := G.toks ++ [(nth l 1, valD (nth l 2).data.toList, valD (nth l 3).data.toList)] } false))
  else if (nth l 0).toList == [115, 119, 97, 112] then
    ({ G with swps := G.swps ++ [(nth l 1, nth l 2, valD (nth l 3).data.toList)] }, totI { G with swps := G.swps ++ [(nth l 1, nth l 2, valD (nth l 3).data.toList)] } false)
  else if (nth l 0).toList == [114, 117, 108, 101] then
    (if hasNam G.names (nth l 1) then (G, 3)
     else ({ G with names := G.names ++ [nth l 1], rules := (rst G.rules (nth l 1) (l.drop 3)).1 ++ [(nth l 1, (rst G.rules (nth l 1) (l.drop 3)).2.1)] },
      totI { G with names := G.names ++ [nth l 1], rules := (rst G.rules (nth l 1) (l.drop 3)).1 ++ [(nth l 1, (rst G.rules (nth l 1) (l.drop 3)).2.1)] } (rst G.rules (nth l 1) (l.drop 3)).2.2))
  else (G, totI G false)

theorem head_len {l : List ByteArray} (h : isLineB l = true) {x : UInt8} {r : List UInt8} (ht : ((nth l 0).toList == x :: r) = true) : ¬ l.length = 1 := by
  intro h1
  unfold isLineB at h
  rw [if_pos h1] at h
  rw [beq_iff_eq] at ht
  rw [ht] at h
  cases h

theorem line_tok {l : List ByteArray} (h : isLineB l = true) (ht : ((nth l 0).toList == [116, 111, 107, 101, 110]) = true) : l.length = 4 ∧ tokB (nth l 1) = true ∧ numB (nth l 2) = true ∧ numB (nth l 3) = true := by
  have h1 := head_len h ht
  unfold isLineB at h
  rw [if_neg h1, if_pos ht] at h
  simpa [tokLineB] using h

theorem line_swap {l : List ByteArray} (h : isLineB l = true) (h0 : ((nth l 0).toList == [116, 111, 107, 101, 110]) = false) (ht : ((nth l 0).toList == [115, 119, 97, 112]) = true) : l.length = 4 ∧ tokB (nth l 1) = true ∧ tokB (nth l 2) = true ∧ numB (nth l 3) = true := by
  have h1 := head_len h ht
  unfold isLineB at h
  rw [if_neg h1, if_neg (by simp [h0]), if_pos ht] at h
  simpa [swapLineB] using h

theorem line_rule {l : List ByteArray} (h : isLineB l = true) (h0 : ((nth l 0).toList == [116, 111, 107, 101, 110]) = false) (h2 : ((nth l 0).toList == [115, 119, 97, 112]) = false) (ht : ((nth l 0).toList == [114, 117, 108, 101]) = true) :
    3 ≤ l.length ∧ nameB (nth l 1) = true ∧ (l.drop 3).all partB = true := by
  have h1 := head_len h ht
  unfold isLineB at h
  rw [if_neg h1, if_neg (by simp [h0]), if_neg (by simp [h2]), if_pos ht] at h
  simp only [ruleLineB, headB, Bool.and_eq_true, decide_eq_true_eq] at h
  exact ⟨h.1.1, h.1.2.1, h.2⟩

theorem num_size {s : ByteArray} (h : numB s = true) : s.size ≤ 2 ∧ allIn s.data.toList 48 57 = true := by
  have hlen : s.data.toList.length = s.size := by simp
  unfold numB costB madeB at h
  simp only [Bool.and_eq_true, decide_eq_true_eq] at h
  exact ⟨by omega, h.1.2.2⟩

theorem rst_len (R : List (ByteArray × List ByteArray)) (nm : ByteArray) (l : List ByteArray) : (rst R nm l).1.length ≤ R.length + l.length := by
  suffices h : ∀ (l : List ByteArray) (st : List (ByteArray × List ByteArray) × List ByteArray × Bool), (l.foldl (rstep nm) st).1.length ≤ st.1.length + l.length from h l _
  intro l
  induction l with
  | nil => intro st; simp
  | cons x r ih =>
    intro st
    have h1 := ih (rstep nm st x)
    have h2 : (rstep nm st x).1.length ≤ st.1.length + 1 := by unfold rstep; split <;> simp
    simp only [List.foldl_cons, List.length_cons]
    omega

/-- How many there are at most. -/
def GrLe (G : Gr) (k : Nat) : Prop := G.toks.length ≤ k ∧ G.swps.length ≤ k ∧ G.names.length ≤ k ∧ G.rules.length ≤ k

theorem GrLe.give {G : Gr} {l : List ByteArray} {k : Nat} (h : GrLe G k) (hl : isLineB l = true) : GrLe (giveB G l).1 (k + max 1 (l.length - 2)) := by
  obtain ⟨h1, h2, h3, h4⟩ := h
  unfold giveB
  by_cases ht : ((nth l 0).toList == [116, 111, 107, 101, 110]) = true
  · rw [if_pos ht]
    split
    · exact ⟨by simp only; omega, by simp only; omega, by simp only; omega, by simp only; omega⟩
    · exact ⟨by simp; omega, by simp only; omega, by simp only; omega, by simp only; omega⟩
  rw [if_neg ht]
  by_cases hw : ((nth l 0).toList == [115, 119, 97, 112]) = true
  · rw [if_pos hw]
    exact ⟨by simp only; omega, by simp; omega, by simp only; omega, by simp only; omega⟩
  rw [if_neg hw]
  by_cases hr : ((nth l 0).toList == [114, 117, 108, 101]) = true
  · rw [if_pos hr]
    split
    · exact ⟨by simp only; omega, by simp only; omega, by simp only; omega, by simp only; omega⟩
    · have h5 := line_rule hl (by simpa using ht) (by simpa using hw) hr
      have h6 := rst_len G.rules (nth l 1) (l.drop 3)
      rw [List.length_drop] at h6
      exact ⟨by simp only; omega, by simp only; omega, by simp; omega, by simp; omega⟩
  · rw [if_neg hr]; exact ⟨by simp only; omega, by simp only; omega, by simp only; omega, by simp only; omega⟩

/-- The lines from a place on, up to the first that is none, and where that one begins. -/
def scan (s : ByteArray) : Nat → Nat → List (Nat × List ByteArray) × Nat
  | 0, a => ([], a)
  | f + 1, a =>
    if a < s.size then
      (if (lineB s a).2 = 0 ∨ isLineB (wordsB (lineB s a).1) = false then ([], a)
       else ((a, wordsB (lineB s a).1) :: (scan s f (lineB s a).2.toNat).1, (scan s f (lineB s a).2.toNat).2))
    else ([], a)

theorem lineB_next_gt {s : ByteArray} {a : Nat} (h : ¬ (lineB s a).2 = 0) : a + (lineB s a).1.size + 1 = (lineB s a).2.toNat ∧ (lineB s a).2.toNat ≤ s.size ∧ 0 ≤ (lineB s a).2 := by
  unfold lineB at h ⊢
  split at h
  · rename_i j hj
    simp only
    have h1 := (List.findIdx?_eq_some_iff_getElem.1 hj).1
    simp at h1
    refine ⟨?_, by omega, by omega⟩
    simp [ByteArray.size_extract]
    omega
  · simp at h

theorem scan_fuel (s : ByteArray) : ∀ (f f' a : Nat), s.size - a ≤ f → s.size - a ≤ f' → scan s f a = scan s f' a := by
  intro f
  induction f with
  | zero =>
    intro f' a h h'
    have : ¬ a < s.size := by omega
    cases f' with
    | zero => rfl
    | succ f' => simp [scan, this]
  | succ f ih =>
    intro f' a h h'
    by_cases ha : a < s.size
    · cases f' with
      | zero => omega
      | succ f' =>
        simp only [scan, if_pos ha]
        by_cases hb : (lineB s a).2 = 0 ∨ isLineB (wordsB (lineB s a).1) = false
        · rw [if_pos hb, if_pos hb]
        · rw [if_neg hb, if_neg hb]
          have h0 : ¬ (lineB s a).2 = 0 := fun e => hb (.inl e)
          have h1 := lineB_next_gt h0
          rw [ih f' (lineB s a).2.toNat (by omega) (by omega)]
    · cases f' with
      | zero => simp [scan, ha]
      | succ f' => simp [scan, ha]

def scanA (s : ByteArray) (a : Nat) : List (Nat × List ByteArray) × Nat := scan s (s.size - a) a

theorem scanA_end {s : ByteArray} {a : Nat} (h : ¬ a < s.size) : scanA s a = ([], a) := by
  unfold scanA
  have : s.size - a = 0 := by omega
  rw [this]; rfl

theorem scanA_bad {s : ByteArray} {a : Nat} (h : a < s.size) (hb : (lineB s a).2 = 0 ∨ isLineB (wordsB (lineB s a).1) = false) : scanA s a = ([], a) := by
  unfold scanA
  obtain ⟨f, hf⟩ : ∃ f, s.size - a = f + 1 := ⟨s.size - a - 1, by omega⟩
  rw [hf]
  simp only [scan, if_pos h, if_pos hb]

theorem scanA_line {s : ByteArray} {a : Nat} (h : a < s.size) (h0 : ¬ (lineB s a).2 = 0) (hb : isLineB (wordsB (lineB s a).1) = true) :
    scanA s a = ((a, wordsB (lineB s a).1) :: (scanA s (lineB s a).2.toNat).1, (scanA s (lineB s a).2.toNat).2) := by
  have h1 := lineB_next_gt h0
  unfold scanA
  obtain ⟨f, hf⟩ : ∃ f, s.size - a = f + 1 := ⟨s.size - a - 1, by omega⟩
  rw [hf]
  have h2 : ¬ ((lineB s a).2 = 0 ∨ isLineB (wordsB (lineB s a).1) = false) := by
    rw [hb]; simp [h0]
  simp only [scan, if_pos h, if_neg h2]
  rw [scan_fuel s f (s.size - (lineB s a).2.toNat) _ (by omega) (Nat.le_refl _)]

/-- Read's second walk: what the lines give; the first line with too many; the first that gives what was given. -/
def pass2 : List (Nat × List ByteArray) → Gr → Int → Gr × Int × Option Nat
  | [], G, m => (G, m, none)
  | x :: r, G, m => if (giveB G x.2).2 = 3 then (G, m, some x.1) else pass2 r (giveB G x.2).1 (if (giveB G x.2).2 = 4 ∧ m < 0 then x.1 else m)

def G0 : Gr := { toks := [], swps := [], names := [], rules := [] }

/-- darnref.Read: the error, the place, the grammar. -/
def readB (s : ByteArray) : Int × Int × Gr :=
  if 4000 < s.size then (1, 0, G0)
  else if (scanA s 0).2 < s.size then (2, (scanA s 0).2, G0)
  else match pass2 (scanA s 0).1 G0 (-1) with
    | (_, _, some a) => (3, a, G0)
    | (G, m, none) =>
      if 0 ≤ m then (4, m, G0)
      else if G.names.length = 0 then (4, s.size, G0)
      else match (scanA s 0).1.find? fun x => unknownB G x.2 with
        | some x => (5, x.1, G0)
        | none => (0, 0, G)

end Go.Proofs.YtjjggdcnpndgjaaGreatDoor

namespace Go.Proofs.YtjjggdcnpndgjaaGreatDoor
open Go.RowKit

end Go.Proofs.YtjjggdcnpndgjaaGreatDoor

namespace Go.Proofs.YtjjggdcnpndgjaaGreatDoor
open Go.RowKit

theorem GrV.below {w w1 : World} {B gb : Nat} {G : Gr} {vT vS vN vR : Value} {pv : List Value} (h : GrV w B gb G vT vS vN vR pv) (hb : Below w.heap.size w w1) : GrV w1 B gb G vT vS vN vR pv :=
  h.keeps (Keeps.of_below hb []) (by simp) (by simp) (by simp) (by simp) (by simp) (by simp)

theorem GrAt.below {w w1 : World} {B gb : Nat} {G : Gr} (h : GrAt w B gb G) (hb : Below w.heap.size w w1) : GrAt w1 B gb G := by
  obtain ⟨vT, vS, vN, vR, pv, hV⟩ := h
  exact ⟨vT, vS, vN, vR, pv, hV.below hb⟩

end Go.Proofs.YtjjggdcnpndgjaaGreatDoor

namespace Go.Proofs.YtjjggdcnpndgjaaGreatDoor
open Go.RowKit

theorem wst_all (l : List UInt8) : ∀ x ∈ (wst l).1, x.size ≤ l.length := by
  suffices h : ∀ (l : List UInt8) (p : List ByteArray × ByteArray) (n : Nat), (∀ x ∈ p.1, x.size ≤ n) → p.2.size ≤ n → ∀ x ∈ (l.foldl wstep p).1, x.size ≤ n + l.length by
    have := h l ([], ByteArray.empty) 0 (by simp) (by simp)
    simpa [wst] using this
  intro l
  induction l with
  | nil => intro p n h1 _ x hx; simpa using h1 x hx
  | cons b r ih =>
    intro p n h1 h2 x hx
    rw [List.foldl_cons] at hx
    have h3 := wstep_bd p b
    have := ih (wstep p b) (n + 1) (by
      intro y hy
      unfold wstep at hy
      split at hy
      · rcases List.mem_append.1 hy with hy | hy
        · have := h1 y hy; omega
        · simp at hy; subst hy; omega
      · have := h1 y hy; omega) (by omega) x hx
    simp only [List.length_cons]
    omega

theorem wordsB_len (s : ByteArray) : 1 ≤ (wordsB s).length ∧ (wordsB s).length ≤ s.size + 1 := by
  have h := wst_bd s.data.toList
  have hlen : s.data.toList.length = s.size := by simp
  unfold wordsB
  simp only [List.length_append, List.length_singleton]
  omega

theorem wordsB_size (s : ByteArray) (j : Nat) : (nth (wordsB s) j).size ≤ s.size := by
  have hlen : s.data.toList.length = s.size := by simp
  have h1 := wst_all s.data.toList
  have h2 := (wst_bd s.data.toList).2
  unfold nth
  rw [List.getD_eq_getElem?_getD]
  cases h : (wordsB s)[j]? with
  | none => simp
  | some x =>
    have hm := List.mem_of_getElem? h
    unfold wordsB at hm
    rcases List.mem_append.1 hm with hm | hm
    · have := h1 x hm; simp only [Option.getD_some]; omega
    · simp at hm; subst hm; simp only [Option.getD_some]; omega

theorem lineB_size (s : ByteArray) (a : Nat) : (lineB s a).1.size ≤ s.size := by
  unfold lineB
  split
  · simp [ByteArray.size_extract]; omega
  · simp

end Go.Proofs.YtjjggdcnpndgjaaGreatDoor

namespace Go.Proofs.YtjjggdcnpndgjaaGreatDoor
open Go.RowKit

end Go.Proofs.YtjjggdcnpndgjaaGreatDoor
