/- Rows that are made. -/
import Derived.Test.YtjjggdcnpndgjaaGreatDoorJPfault2
namespace Go.Proofs.YtjjggdcnpndgjaaGreatDoor
open Go.RowKit

theorem flatM {α : Type} (m : Nat) (f : α → List Value) (hf : ∀ a, (f a).length = m) : ∀ (l : List α) (i : Nat) (a : α) (j : Nat), l[i]? = some a → j < m → (l.flatMap f)[i * m + j]? = (f a)[j]? := by
  intro l
  induction l with
  | nil => intro i a j h; simp at h
  | cons x r ih =>
    intro i a j h hj
    rw [List.flatMap_cons]
    match i with
    | 0 =>
      simp at h; subst h
      rw [List.getElem?_append_left (by rw [hf]; omega)]
      congr 1; omega
    | i + 1 =>
      simp at h
      rw [List.getElem?_append_right (by rw [hf, Nat.succ_mul]; omega), hf]
      rw [← ih i a j h hj]
      congr 1; rw [Nat.succ_mul]; omega

theorem flatM_len {α : Type} (m : Nat) (f : α → List Value) (hf : ∀ a, (f a).length = m) (l : List α) : (l.flatMap f).length = l.length * m := by
  induction l with
  | nil => simp
  | cons x r ih => rw [List.flatMap_cons, List.length_append, ih, hf, List.length_cons, Nat.succ_mul]; omega

theorem made_flat {α : Type} (m : Nat) (hm : 0 < m) (f : α → List Value) (hf : ∀ a, (f a).length = m) (a : α) (n : Nat) : (madeCells (f a).toArray (n * m)).toList = (List.replicate n a).flatMap f := by
  apply List.ext_getElem?
  intro q
  by_cases hq : q < n * m
  · have hd : q / m < n := by rw [Nat.div_lt_iff_lt_mul hm]; exact hq
    have hr : q % m < m := Nat.mod_lt _ hm
    have h1 := flatM m f hf (List.replicate n a) (q / m) a (q % m) (by simp [hd]) hr
    rw [show q / m * m + q % m = q from by rw [Nat.mul_comm]; exact Nat.div_add_mod q m] at h1
    rw [h1]
    unfold madeCells
    rw [Array.toList_map, List.getElem?_map]
    rw [show (Array.range (n * m)).toList[q]? = some q from by simp [hq]]
    simp only [Option.map_some, List.size_toArray, hf]
    rw [List.getElem?_eq_getElem (by rw [hf]; exact hr)]
    simp [hf, hr]
  · rw [List.getElem?_eq_none (by rw [Array.length_toList, size_madeCells]; omega), List.getElem?_eq_none (by rw [flatM_len m f hf]; simp; omega)]

theorem own_made (w : World) (cur : Array Value) (n size e base : Nat) (hb : base ≤ w.heap.size) (hm : n ≤ maxLen) (hs : cur.size = n * size) :
    (w.alloc (.cells cur e)).ownsRow base e size (.slice (some ⟨w.heap.size, 0, none⟩) n n) n cur.toList :=
  ⟨by rw [Array.length_toList]; exact hs, .inr ⟨w.heap.size, n, cur, rfl, hb, heap_alloc_new w _, Nat.le_refl _, hm, hs, List.take_of_length_le (by rw [Array.length_toList, hs]; exact Nat.le_refl _)⟩⟩


end Go.Proofs.YtjjggdcnpndgjaaGreatDoor
