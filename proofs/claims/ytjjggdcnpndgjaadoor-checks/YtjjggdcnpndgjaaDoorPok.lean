/- The lines of a text are such as the walks ask. -/
import Derived.Test.YtjjggdcnpndgjaaDoorPchk
namespace Go.Proofs.YtjjggdcnpndgjaaDoor
open Go.RowKit

theorem scan_mem (s : ByteArray) : ∀ (f a : Nat) (x : Nat × List ByteArray), x ∈ (scan s f a).1 → (∃ a', x.2 = wordsB (lineB s a').1) ∧ isLineB x.2 = true
  | 0, a, x, h => by simp [scan] at h
  | f + 1, a, x, h => by
    unfold scan at h
    split at h
    · split at h
      · simp at h
      · rename_i hb
        simp only [List.mem_cons] at h
        rcases h with h | h
        · subst h
          refine ⟨⟨a, rfl⟩, ?_⟩
          cases hq : isLineB (wordsB (lineB s a).1) with
          | true => rfl
          | false => exact absurd (.inr hq) hb
        · exact scan_mem s f _ x h
    · simp at h

theorem scan_len (s : ByteArray) : ∀ (f a : Nat), (scan s f a).1.length ≤ s.size - a
  | 0, a => by simp [scan]
  | f + 1, a => by
    unfold scan
    split
    · split
      · simp
      · rename_i h1 hb
        have h0 : ¬ (lineB s a).2 = 0 := fun e => hb (.inl e)
        have h2 := lineB_next_gt h0
        have h3 := scan_len s f (lineB s a).2.toNat
        simp only [List.length_cons]
        omega
    · simp

theorem line_shape {l : List ByteArray} (h : isLineB l = true) (h1 : ¬ l.length = 1) :
    (shapeOf l = 0 ∧ l.length = 4 ∧ tokB (nth l 1) = true) ∨ (shapeOf l = 1 ∧ l.length = 4 ∧ tokB (nth l 1) = true ∧ tokB (nth l 2) = true) ∨ (shapeOf l = 2 ∧ 3 ≤ l.length ∧ nameB (nth l 1) = true ∧ (l.drop 3).all partB = true) := by
  unfold isLineB at h
  rw [if_neg h1] at h
  unfold shapeOf
  cases ht : ((nth l 0).toList == [116, 111, 107, 101, 110])
  · cases hw : ((nth l 0).toList == [115, 119, 97, 112])
    · cases hr : ((nth l 0).toList == [114, 117, 108, 101])
      · rw [ht, hw, hr] at h; simp at h
      · rw [ht, hw, hr] at h
        simp only [Bool.false_eq_true, if_false, if_true, ruleLineB, headB, Bool.and_eq_true, decide_eq_true_eq] at h
        exact .inr (.inr ⟨rfl, h.1.1, h.1.2.1, h.2⟩)
    · rw [ht, hw] at h
      simp only [Bool.false_eq_true, if_false, if_true, swapLineB, Bool.and_eq_true, decide_eq_true_eq] at h
      exact .inr (.inl ⟨rfl, h.1, h.2.1, h.2.2.1⟩)
  · rw [ht] at h
    simp only [if_true, tokLineB, Bool.and_eq_true, decide_eq_true_eq] at h
    exact .inl ⟨rfl, h.1, h.2.1⟩

theorem nth_of_mem {l : List ByteArray} {u : ByteArray} (h : u ∈ l) : ∃ j, u = nth l j := by
  obtain ⟨j, hj, rfl⟩ := List.mem_iff_getElem.1 h
  exact ⟨j, by unfold nth; simp [List.getElem?_eq_getElem hj]⟩

theorem lines_ok (s : ByteArray) (hs : s.size ≤ 4000) : LinesOk (progL (scanA s 0).1) := by
  have key : ∀ y ∈ progL (scanA s 0).1, (∃ a', y.2.2 = wordsB (lineB s a').1) ∧ isLineB y.2.2 = true ∧ ¬ y.2.2.length = 1 ∧ y.2.1 = shapeOf y.2.2 := by
    intro y hy
    unfold progL at hy
    rw [List.mem_map] at hy
    obtain ⟨x, hx, rfl⟩ := hy
    rw [List.mem_filter] at hx
    have h1 := scan_mem s _ _ x hx.1
    exact ⟨h1.1, h1.2, of_decide_eq_true hx.2, rfl⟩
  have hsz : ∀ y ∈ progL (scanA s 0).1, ∀ j, (nth y.2.2 j).size ≤ 4000 := by
    intro y hy j
    obtain ⟨a', ha⟩ := (key y hy).1
    rw [ha]
    exact Nat.le_trans (Nat.le_trans (wordsB_size _ j) (lineB_size s a')) hs
  have hmem : ∀ y ∈ progL (scanA s 0).1, ∀ u ∈ y.2.2, u.size ≤ 4000 := by
    intro y hy u hu
    obtain ⟨j, rfl⟩ := nth_of_mem hu
    exact hsz y hy j
  refine ⟨?_, fun y hy => ?_, fun y hy => ?_, fun y hy => ?_, fun y hy u hu => ?_⟩
  · unfold progL
    rw [List.length_map]
    refine Nat.le_trans (List.length_filter_le _ _) ?_
    have := scan_len s (s.size - 0) 0
    unfold scanA
    omega
  · obtain ⟨⟨a', ha⟩, h2, h3, h4⟩ := key y hy
    have h5 := wordsB_len (lineB s a').1
    have h6 := lineB_size s a'
    rw [← ha] at h5
    refine ⟨?_, by omega⟩
    rcases line_shape h2 h3 with h | h | h
    · omega
    · omega
    · exact h.2.1
  · obtain ⟨_, h2, h3, h4⟩ := key y hy
    rcases line_shape h2 h3 with h | h | h <;> omega
  · unfold givesB
    split
    · exact Nat.zero_le _
    · exact hsz y hy 1
  · unfold usesB at hu
    split at hu
    · simp at hu
      rcases hu with rfl | rfl
      · exact hsz y hy 1
      · exact hsz y hy 2
    · split at hu
      · rw [rules_flat, List.mem_filter] at hu
        exact hmem y hy u (List.mem_of_mem_drop hu.1)
      · simp at hu

end Go.Proofs.YtjjggdcnpndgjaaDoor
