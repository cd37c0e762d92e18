/- Pure: one line, as the reference takes it and as the program does. -/
import Derived.Test.YtjjggdcnpndgjaaDoorSame1
namespace Go.Proofs.YtjjggdcnpndgjaaDoor
open Go.RowKit

/-- What the reference's grammar and the program's counts have in common. -/
structure Inv (G : Gr) (ws : List ByteArray) (t n r : Nat) : Prop where
  has : ∀ u, (hasTok G.toks u = true ∨ hasNam G.names u = true) ↔ 0 < cnt ws u
  low : ∀ x ∈ G.toks, tokB x.1 = true
  upp : ∀ x ∈ G.names, nameB x = true
  nt : G.toks.length = t
  nn : G.names.length = n
  nr : G.rules.length = r

theorem cnt_add (ws : List ByteArray) (w u : ByteArray) : 0 < cnt (ws ++ [w]) u ↔ (0 < cnt ws u ∨ (w.toList == u.toList) = true) := by
  rw [cnt_pos, cnt_pos, List.any_append, Bool.or_eq_true]
  simp

theorem hasTok_add (T : List (ByteArray × Int × Int)) (x : ByteArray × Int × Int) (u : ByteArray) : hasTok (T ++ [x]) u = true ↔ (hasTok T u = true ∨ (x.1.toList == u.toList) = true) := by
  unfold hasTok
  rw [List.any_append, Bool.or_eq_true]
  simp

theorem hasNam_add (T : List ByteArray) (x : ByteArray) (u : ByteArray) : hasNam (T ++ [x]) u = true ↔ (hasNam T u = true ∨ (x.toList == u.toList) = true) := by
  unfold hasNam
  rw [List.any_append, Bool.or_eq_true]
  simp

theorem Inv.no_name {G : Gr} {ws : List ByteArray} {t n r : Nat} (h : Inv G ws t n r) {u : ByteArray} (hu : tokB u = true) : hasNam G.names u = false := by
  unfold hasNam
  rw [List.any_eq_false]
  intro x hx
  rw [tok_not_name hu (h.upp x hx)]
  decide

theorem Inv.no_tok {G : Gr} {ws : List ByteArray} {t n r : Nat} (h : Inv G ws t n r) {u : ByteArray} (hu : nameB u = true) : hasTok G.toks u = false := by
  unfold hasTok
  rw [List.any_eq_false]
  intro x hx
  have h1 := tok_not_name (h.low x hx) hu
  rw [beq_eq_false_iff_ne] at h1
  simp only [beq_iff_eq]
  exact fun e => h1 e.symm

theorem step_tok {G : Gr} {ws : List ByteArray} {t n r : Nat} (h : Inv G ws t n r) {l : List ByteArray} (h0 : ((nth l 0).toList == [116, 111, 107, 101, 110]) = true) (ht : tokB (nth l 1) = true) :
    (0 < cnt ws (nth l 1) ∧ (giveB G l).2 = 3) ∨
    (¬ 0 < cnt ws (nth l 1) ∧ Inv (giveB G l).1 (ws ++ [nth l 1]) (t + 1) n r ∧ (giveB G l).2 = if 20 < t + 1 ∨ 20 < n ∨ 60 < r ∨ 8 < 0 then 4 else 0) := by
  unfold giveB
  rw [if_pos h0]
  have hno := h.no_name ht
  cases hq : hasTok G.toks (nth l 1)
  · right
    have hc : ¬ 0 < cnt ws (nth l 1) := by
      rw [← h.has, hq, hno]; simp
    refine ⟨hc, ?_, ?_⟩
    · rw [if_neg (by simp)]
      refine ⟨fun u => ?_, fun x hx => ?_, h.upp, by simp [h.nt], h.nn, h.nr⟩
      · rw [cnt_add, ← h.has, hasTok_add]
        constructor
        · rintro ((h1 | h1) | h1)
          · exact .inl (.inl h1)
          · exact .inr h1
          · exact .inl (.inr h1)
        · rintro ((h1 | h1) | h1)
          · exact .inl (.inl h1)
          · exact .inr h1
          · exact .inl (.inr h1)
      · rw [List.mem_append] at hx
        rcases hx with hx | hx
        · exact h.low x hx
        · simp at hx; subst hx; exact ht
    · rw [if_neg (by simp)]
      unfold totI
      simp only [List.length_append, List.length_cons, List.length_nil, h.nt, h.nn, h.nr, Bool.false_eq_true, if_false]
      by_cases hx : 20 < t + 1 ∨ 20 < n ∨ 60 < r
      · rw [if_pos (by omega), if_pos (by omega)]
      · rw [if_neg (by omega), if_neg (by omega)]
  · left
    exact ⟨(h.has _).1 (.inl hq), by rw [if_pos rfl]⟩

theorem step_swap {G : Gr} {ws : List ByteArray} {t n r : Nat} (h : Inv G ws t n r) {l : List ByteArray} (h0 : ((nth l 0).toList == [116, 111, 107, 101, 110]) = false) (hw : ((nth l 0).toList == [115, 119, 97, 112]) = true) :
    Inv (giveB G l).1 ws t n r ∧ (giveB G l).2 = if 20 < t ∨ 20 < n ∨ 60 < r ∨ 8 < 0 then 4 else 0 := by
  unfold giveB
  rw [if_neg (by simp [h0]), if_pos hw]
  refine ⟨⟨h.has, h.low, h.upp, h.nt, h.nn, h.nr⟩, ?_⟩
  unfold totI
  simp only [h.nt, h.nn, h.nr, Bool.false_eq_true, if_false]
  by_cases hx : 20 < t ∨ 20 < n ∨ 60 < r
  · rw [if_pos hx, if_pos (by omega)]
  · rw [if_neg hx, if_neg (by omega)]

theorem step_rule {G : Gr} {ws : List ByteArray} {t n r : Nat} (h : Inv G ws t n r) {l : List ByteArray} (h0 : ((nth l 0).toList == [116, 111, 107, 101, 110]) = false) (hw : ((nth l 0).toList == [115, 119, 97, 112]) = false)
    (hr : ((nth l 0).toList == [114, 117, 108, 101]) = true) (ht : nameB (nth l 1) = true) :
    (0 < cnt ws (nth l 1) ∧ (giveB G l).2 = 3) ∨
    (¬ 0 < cnt ws (nth l 1) ∧ Inv (giveB G l).1 (ws ++ [nth l 1]) t (n + 1) (r + (rulesL l).length) ∧ (giveB G l).2 = if 20 < t ∨ 20 < n + 1 ∨ 60 < r + (rulesL l).length ∨ 8 < longB (rulesL l) then 4 else 0) := by
  have hR := rst_rules G.rules (nth l 1) l
  unfold giveB
  rw [if_neg (by simp [h0]), if_neg (by simp [hw]), if_pos hr]
  have hno := h.no_tok ht
  cases hq : hasNam G.names (nth l 1)
  · right
    have hc : ¬ 0 < cnt ws (nth l 1) := by
      rw [← h.has, hq, hno]; simp
    refine ⟨hc, ?_, ?_⟩
    · rw [if_neg (by simp)]
      refine ⟨fun u => ?_, h.low, fun x hx => ?_, h.nt, by simp [h.nn], ?_⟩
      · rw [cnt_add, ← h.has, hasNam_add]
        constructor
        · rintro (h1 | (h1 | h1))
          · exact .inl (.inl h1)
          · exact .inl (.inr h1)
          · exact .inr h1
        · rintro ((h1 | h1) | h1)
          · exact .inl h1
          · exact .inr (.inl h1)
          · exact .inr (.inr h1)
      · rw [List.mem_append] at hx
        rcases hx with hx | hx
        · exact h.upp x hx
        · simp at hx; subst hx; exact ht
      · show ((rst G.rules (nth l 1) (l.drop 3)).1 ++ [(nth l 1, (rst G.rules (nth l 1) (l.drop 3)).2.1)]).length = _
        rw [hR.1]; simp [h.nr]
    · rw [if_neg (by simp)]
      unfold totI
      rw [hR.2]
      simp only [hR.1]
      simp only [List.length_append, List.length_cons, List.length_nil, List.length_map, h.nt, h.nn, h.nr]
      by_cases hx : 20 < t ∨ 20 < n + 1 ∨ 60 < r + (rulesL l).length
      · rw [if_pos (by omega), if_pos (by omega)]
      · rw [if_neg (by omega)]
        by_cases hy : 8 < longB (rulesL l)
        · rw [if_pos (decide_eq_true hy), if_pos (by omega)]
        · rw [if_neg (by simp [hy]), if_neg (by omega)]
  · left
    exact ⟨(h.has _).1 (.inr hq), by rw [if_pos rfl]⟩

theorem step_empty {G : Gr} {ws : List ByteArray} {t n r : Nat} (h : Inv G ws t n r) {l : List ByteArray} (hl : isLineB l = true) (h1 : l.length = 1) :
    (giveB G l).1 = G ∧ (giveB G l).2 = if 20 < t ∨ 20 < n ∨ 60 < r then 4 else 0 := by
  unfold isLineB at hl
  rw [if_pos h1] at hl
  have e : (nth l 0).toList = [] := by simpa using hl
  unfold giveB
  rw [e]
  rw [if_neg (by decide), if_neg (by decide), if_neg (by decide)]
  refine ⟨rfl, ?_⟩
  unfold totI
  simp only [h.nt, h.nn, h.nr, Bool.false_eq_true, if_false]

end Go.Proofs.YtjjggdcnpndgjaaDoor
