/- strings.Split at a blank, strings.Cut at a line's end, as the reference's words and lines. Nothing of the program. -/
import Derived.Lib.SplitLaws
import Derived.Test.YtjjggdcnpndgjaaDoorHeap
namespace Go.Proofs.YtjjggdcnpndgjaaDoor
open Go.Lib Go.RowKit

theorem index_one (c : UInt8) : ∀ l : List UInt8, index l [c] = match l.findIdx? (· == c) with | some j => (j : Int) | none => -1
  | [] => by simp [index]
  | b :: l => by
    rw [index, List.findIdx?_cons]
    by_cases h : b = c
    · subst h; simp [List.isPrefixOf]
    · have h1 : ([c] : List UInt8).isPrefixOf (b :: l) = false := by simp [List.isPrefixOf, Ne.symm h]
      have h2 : (b == c) = false := by simpa using h
      rw [h1, h2, index_one c l]
      cases l.findIdx? (· == c) with
      | none => simp
      | some j =>
        simp only [Option.map_some, Bool.false_eq_true, if_false]
        rw [if_neg (by simp)]
        simp

/-- The words, list by list: cur stands ahead of the first. -/
def wl : List UInt8 → List UInt8 → List (List UInt8)
  | [], cur => [cur]
  | b :: r, cur => if b = 32 then cur :: wl r [] else wl r (cur ++ [b])

theorem wst_wl : ∀ (l : List UInt8) (d : List ByteArray) (c : ByteArray), ((l.foldl wstep (d, c)).1 ++ [(l.foldl wstep (d, c)).2]).map (·.data.toList) = d.map (·.data.toList) ++ wl l c.data.toList
  | [], d, c => by simp [wl]
  | b :: r, d, c => by
    rw [List.foldl_cons]
    by_cases hb : b = 32
    · have e : wstep (d, c) b = (d ++ [c], ByteArray.empty) := by unfold wstep; rw [if_pos hb]
      rw [e, wst_wl r (d ++ [c]) ByteArray.empty, wl, if_pos hb]
      simp
    · have e : wstep (d, c) b = (d, c ++ ⟨#[b]⟩) := by unfold wstep; rw [if_neg hb]
      rw [e, wst_wl r d (c ++ ⟨#[b]⟩), wl, if_neg hb]
      simp

theorem words_wl (s : ByteArray) : (wordsB s).map (·.data.toList) = wl s.data.toList [] := by
  have := wst_wl s.data.toList [] ByteArray.empty
  simpa [wordsB, wst] using this

def sp (l : List UInt8) : List (List UInt8) := splitK [32] 0 (count l [32]) l

theorem sp_sp (l : List UInt8) : sp (32 :: l) = [] :: sp l := by
  unfold sp
  rw [count_cons_eq, Nat.add_comm, splitK]
  have h : index (32 :: l) [32] = 0 := by rw [index]; simp [List.isPrefixOf]
  rw [if_neg (by rw [h]; decide), h]
  simp

theorem sp_ne (l : List UInt8) : ∃ x r, sp l = x :: r := by
  unfold sp
  cases count l [32] with
  | zero => exact ⟨_, _, rfl⟩
  | succ k =>
    unfold splitK
    split
    · exact ⟨_, _, rfl⟩
    · exact ⟨_, _, rfl⟩

theorem sp_cons {b : UInt8} (hb : b ≠ 32) (l : List UInt8) {x : List UInt8} {r : List (List UInt8)} (h : sp l = x :: r) : sp (b :: l) = (b :: x) :: r := by
  have hp : ([32] : List UInt8).isPrefixOf (b :: l) = false := by simp [List.isPrefixOf, Ne.symm hb]
  have hix : index (b :: l) [32] = if index l [32] == -1 then -1 else index l [32] + 1 := by rw [index, hp]; simp
  unfold sp at h ⊢
  rw [count_cons_ne b 32 l hb]
  cases hc : count l [32] with
  | zero =>
    rw [hc] at h
    simp only [splitK] at h ⊢
    injection h with h1 h2
    rw [h1, h2]
  | succ k =>
    rw [hc] at h
    simp only [splitK] at h ⊢
    by_cases hm : index l [32] = -1
    · rw [if_pos (beq_iff_eq.2 hm)] at h
      rw [if_pos (by rw [hix, if_pos (beq_iff_eq.2 hm)]; rfl)]
      injection h with h1 h2
      rw [h1, h2]
    · have hge := index_ge l [32]
      obtain ⟨j, hj⟩ : ∃ j : Nat, index l [32] = j := ⟨(index l [32]).toNat, by omega⟩
      have e1 : index (b :: l) [32] = ((j + 1 : Nat) : Int) := by rw [hix, if_neg (fun e => hm (beq_iff_eq.1 e)), hj]; omega
      rw [if_neg (fun e => hm (beq_iff_eq.1 e)), hj] at h
      rw [if_neg (by rw [e1]; simp; omega), e1]
      simp only [Int.toNat_natCast, Nat.add_zero, List.take_succ_cons] at h ⊢
      injection h with h1 h2
      rw [← h1, ← h2]
      congr 1

theorem wl_sp : ∀ (l cur : List UInt8) (x : List UInt8) (r : List (List UInt8)), sp l = x :: r → wl l cur = (cur ++ x) :: r
  | [], cur, x, r, h => by
    have : sp [] = [[]] := rfl
    rw [this] at h
    injection h with h1 h2
    subst h1; subst h2
    simp [wl]
  | b :: l, cur, x, r, h => by
    obtain ⟨y, q, hy⟩ := sp_ne l
    by_cases hb : b = 32
    · subst hb
      rw [sp_sp] at h
      injection h with h1 h2
      subst h1
      rw [wl, if_pos rfl, wl_sp l [] y q hy]
      rw [← h2, hy]
      simp
    · rw [sp_cons hb l hy] at h
      injection h with h1 h2
      subst h1; subst h2
      rw [wl, if_neg hb, wl_sp l (cur ++ [b]) y q hy]
      simp

theorem map_inj {a b : List ByteArray} (h : a.map (·.data.toList) = b.map (·.data.toList)) : a = b := by
  induction a generalizing b with
  | nil => cases b with | nil => rfl | cons _ _ => simp at h
  | cons x r ih =>
    cases b with
    | nil => simp at h
    | cons y q =>
      simp only [List.map_cons, List.cons.injEq] at h
      have h1 : x = y := by
        obtain ⟨⟨x⟩⟩ := x
        obtain ⟨⟨y⟩⟩ := y
        have := h.1
        simp at this
        subst this; rfl
      rw [h1, ih h.2]

theorem split_words (s : ByteArray) : splitB ⟨#[32]⟩ 0 (countB s ⟨#[32]⟩) s = wordsB s := by
  apply map_inj
  rw [words_wl]
  obtain ⟨x, r, h⟩ := sp_ne s.data.toList
  rw [wl_sp _ [] x r h]
  rw [splitB_data]
  simp only [List.nil_append]
  rw [← h]
  rfl

theorem split_count (s : ByteArray) : countB s ⟨#[32]⟩ + 1 = (wordsB s).length := by
  rw [← split_words s]
  exact (splitB_all ⟨#[32]⟩ (Nat.le_refl 1) 0 _ s rfl).symm

theorem drop_data (s : ByteArray) (k : Nat) : (s.extract k s.size).data.toList = s.data.toList.drop k := by
  simp only [ByteArray.data_extract, Array.toList_extract, List.extract_eq_take_drop]
  exact List.take_of_length_le (by simp)

/-- strings.Cut of the text from a place on: the line that begins there. -/
theorem cut_line (s : ByteArray) (k : Nat) :
    (¬ (lineB s k).2 = 0 → (⟨(cut (s.extract k s.size).data.toList [10]).1.toArray⟩ : ByteArray) = (lineB s k).1 ∧ (cut (s.extract k s.size).data.toList [10]).2.2 = true) ∧
    ((lineB s k).2 = 0 → (cut (s.extract k s.size).data.toList [10]).2.2 = false) := by
  rw [drop_data]
  have hi := index_one 10 (s.data.toList.drop k)
  unfold lineB
  cases hf : (s.data.toList.drop k).findIdx? (· == 10) with
  | none =>
    rw [hf] at hi
    simp only at hi
    refine ⟨fun h => absurd rfl h, fun _ => ?_⟩
    unfold cut
    rw [hi]
    rfl
  | some j =>
    have hi : index (s.data.toList.drop k) [10] = (j : Int) := by rw [hi, hf]
    refine ⟨fun _ => ?_, fun h => ?_⟩
    · unfold cut
      rw [if_pos (by rw [hi]; omega), hi]
      refine ⟨?_, rfl⟩
      apply ByteArray.ext
      apply Array.toList_inj.1
      simp only [ByteArray.data_extract, Array.toList_extract, List.extract_eq_take_drop]
      rw [show k + j - k = (j : Int).toNat by omega]
    · simp only at h
      omega

end Go.Proofs.YtjjggdcnpndgjaaDoor
