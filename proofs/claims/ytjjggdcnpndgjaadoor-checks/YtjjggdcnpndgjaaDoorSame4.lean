/- Pure: the program's answer is the reference's. -/
import Derived.Test.YtjjggdcnpndgjaaDoorSame3
namespace Go.Proofs.YtjjggdcnpndgjaaDoor
open Go.RowKit

theorem Inv.cnt0 {G : Gr} {ws : List ByteArray} {t n r : Nat} (h : Inv G ws t n r) (u : ByteArray) : (cnt ws u == 0) = (!hasTok G.toks u && !hasNam G.names u) := by
  rw [Bool.eq_iff_iff]
  have := h.has u
  simp only [beq_iff_eq, Bool.and_eq_true, Bool.not_eq_true']
  constructor
  · intro h0
    constructor
    · cases hq : hasTok G.toks u
      · rfl
      · have := this.1 (.inl hq); omega
    · cases hq : hasNam G.names u
      · rfl
      · have := this.1 (.inr hq); omega
  · rintro ⟨h1, h2⟩
    cases hc : cnt ws u with
    | zero => rfl
    | succ k =>
      have := this.2 (by omega)
      rw [h1, h2] at this
      simp at this

theorem tok_cnt0 {G : Gr} {ws : List ByteArray} {t n r : Nat} (h : Inv G ws t n r) {u : ByteArray} (hu : tokB u = true) : (cnt ws u == 0) = !hasTok G.toks u := by
  rw [h.cnt0, h.no_name hu]; simp

theorem line_unk {G : Gr} {ws : List ByteArray} {t n r : Nat} (h : Inv G ws t n r) {a : Nat} {l : List ByteArray} (hl : isLineB l = true) (h1 : ¬ l.length = 1) :
    lineUnk ws (a, shapeOf l, l) = unknownB G l := by
  rcases line_shape hl h1 with ⟨hsh, _, _⟩ | ⟨hsh, _, ht1, ht2⟩ | ⟨hsh, _, _, _⟩
  · have h0 := shape_head hl h1 hsh
    have e : (nth l 0).toList = [116, 111, 107, 101, 110] := by simpa using h0
    unfold lineUnk unknownB usesB
    simp only [hsh, e]
    rfl
  · have h0 := shape_head hl h1 hsh
    unfold lineUnk unknownB usesB
    rw [if_pos h0.2]
    simp only [hsh]
    simp only [beq_self_eq_true, Bool.true_and, if_true, List.any_cons, List.any_nil, Bool.or_false]
    rw [tok_cnt0 h ht1, tok_cnt0 h ht2]
    generalize hasTok G.toks (nth l 1) = b1
    generalize hasTok G.toks (nth l 2) = b2
    generalize ((nth l 1).toList == (nth l 2).toList) = b3
    revert b1 b2 b3; decide
  · have h0 := shape_head hl h1 hsh
    have eR : unknownB G l = (l.drop 3).any (unkB G) := by
      unfold unknownB
      rw [if_neg (by rw [h0.2.1]; decide), if_pos h0.2.2]
    have eL : lineUnk ws (a, shapeOf l, l) = ((l.drop 3).filter fun x => !barB x).any fun u => cnt ws u == 0 := by
      unfold lineUnk usesB
      rw [hsh, ← rules_flat]
      rfl
    rw [eL, eR, List.any_filter]
    congr 1
    funext x
    unfold unkB
    rw [h.cnt0]

theorem empty_known {G : Gr} {l : List ByteArray} (hl : isLineB l = true) (h1 : l.length = 1) : unknownB G l = false := by
  unfold isLineB at hl
  rw [if_pos h1] at hl
  have e : (nth l 0).toList = [] := by simpa using hl
  unfold unknownB
  rw [e]
  rfl

theorem find_same {G : Gr} {ws : List ByteArray} {t n r : Nat} (h : Inv G ws t n r) : ∀ (ls : List (Nat × List ByteArray)), (∀ x ∈ ls, isLineB x.2 = true) →
    unkL ws (progL ls) = (ls.find? fun x => unknownB G x.2).map (·.1)
  | [], _ => rfl
  | x :: ls, hall => by
    have hx := hall x (by simp)
    have ih := find_same h ls (fun y hy => hall y (by simp [hy]))
    by_cases h1 : x.2.length = 1
    · rw [progL_cons_empty h1, ih, List.find?_cons_of_neg (by rw [empty_known hx h1]; decide)]
    · rw [progL_cons h1]
      have e := line_unk h (a := x.1) hx h1
      unfold unkL
      rw [e]
      cases hq : unknownB G x.2
      · rw [if_neg (by decide), ih, List.find?_cons_of_neg (by rw [hq]; decide)]
      · rw [if_pos rfl, List.find?_cons_of_pos (p := fun y => unknownB G y.2) (a := x) hq]; rfl

theorem cnt2_any (P : List Ln) : (P.any fun x => x.2.1 == 2) = decide (¬ cnt2 P = 0) := by
  unfold cnt2
  rw [Bool.eq_iff_iff, List.any_eq_true, decide_eq_true_eq]
  constructor
  · rintro ⟨x, hx, h⟩ h0
    rw [List.length_eq_zero_iff, List.filter_eq_nil_iff] at h0
    exact h0 x hx h
  · intro h0
    have : 0 < (P.filter fun x => x.2.1 == 2).length := by omega
    obtain ⟨x, hx⟩ := List.length_pos_iff_exists_mem.1 this
    rw [List.mem_filter] at hx
    exact ⟨x, hx.1, hx.2⟩

theorem prog_same (s : ByteArray) : progB s = ((readB s).1, (readB s).2.1) := by
  unfold progB readB
  by_cases h1 : 4000 < s.size
  · rw [if_pos h1, if_pos h1]
  · rw [if_neg h1, if_neg h1]
    by_cases h2 : (scanA s 0).2 < s.size
    · rw [if_pos h2, if_pos h2]
    · rw [if_neg h2, if_neg h2]
      have hall : ∀ x ∈ (scanA s 0).1, isLineB x.2 = true := fun x hx => (scan_mem s _ _ x hx).2
      have hI : Inv G0 [] 0 0 0 := ⟨fun u => by simp [hasTok, hasNam, G0, cnt], fun x hx => by simp [G0] at hx, fun x hx => by simp [G0] at hx, rfl, rfl, rfl⟩
      have hS := pass_same (scanA s 0).1 G0 (-1) 0 0 0 [] hall hI (.inl ⟨rfl, by omega⟩)
      rcases hp : pass2 (scanA s 0).1 G0 (-1) with ⟨G, m, o⟩
      rw [hp] at hS
      cases o with
      | some a => rw [hS.1 a rfl]
      | none =>
        obtain ⟨ht, hm, t', r', hI'⟩ := hS.2 rfl
        simp only [List.nil_append, Nat.zero_add] at hI' hm
        rw [if_neg (by decide)] at hm
        rw [ht]
        cases hM : manyB (progL (scanA s 0).1) 0 0 0 with
        | some a =>
          rw [hM] at hm
          have hm' : m = (a : Int) := hm
          simp only [hm']
          rw [if_pos (by omega)]
        | none =>
          rw [hM] at hm
          have hm' : m = -1 := hm
          simp only [hm']
          have e0 : ¬ (0 : Int) ≤ -1 := by decide
          rw [if_neg e0, cnt2_any]
          have hn := hI'.nn
          by_cases h0 : cnt2 (progL (scanA s 0).1) = 0
          · rw [if_pos (show G.names.length = 0 by omega), if_neg (show ¬ decide (¬ cnt2 (progL (scanA s 0).1) = 0) = true by simp [h0])]
          · rw [if_neg (show ¬ G.names.length = 0 by omega), if_pos (show decide (¬ cnt2 (progL (scanA s 0).1) = 0) = true by simp [h0])]
            rw [find_same hI' _ hall]
            cases hf : (scanA s 0).1.find? fun x => unknownB G x.2 <;> rfl

end Go.Proofs.YtjjggdcnpndgjaaDoor
