/- The table in memory; the rows that fill writes (pure, and heap). -/
import Derived.Test.YtjjggdcnpndgjaaGreatDoorJPspk
import Derived.Test.YtjjggdcnpndgjaaGreatDoorJPwords1
import Derived.Test.YtjjggdcnpndgjaaGreatDoorJCl1
namespace Go.Proofs.YtjjggdcnpndgjaaGreatDoor
open Go.RowKit

/-- What a token's place in a name's row says when r of the name's rules are done. -/
def RowI (S : Nat → Nat) (r : Nat) (R : Nat → Int) (t : Nat) : Prop := (R t = -1 ∧ ∀ q, q < r → (S q).testBit t = false) ∨ (∃ q : Nat, q < r ∧ R t = q ∧ (S q).testBit t = true ∧ ∀ q', q' < r → q' ≠ q → (S q').testBit t = false)

/-- The same, with some of the next rule's tokens done. -/
def MidI (S : Nat → Nat) (r : Nat) (pre : List Nat) (R : Nat → Int) (t : Nat) : Prop := (t ∈ pre ∧ R t = r ∧ (S r).testBit t = true ∧ ∀ q, q < r → (S q).testBit t = false) ∨ (t ∉ pre ∧ RowI S r R t)

theorem row_zero {S : Nat → Nat} {R : Nat → Int} {t : Nat} (h : R t = -1) : RowI S 0 R t := .inl ⟨h, fun q hq => by omega⟩

theorem mid_start {S : Nat → Nat} {r : Nat} {R : Nat → Int} {t : Nat} (h : RowI S r R t) : MidI S r [] R t := .inr ⟨by simp, h⟩

theorem mid_step {S : Nat → Nat} {r : Nat} {pre : List Nat} {R : Nat → Int} {x : Nat} (h : ∀ t, t < 21 → MidI S r pre R t) (hx : x < 21) (hb : (S r).testBit x = true) (hR : R x = -1) : ∀ t, t < 21 → MidI S r (pre ++ [x]) (fun u => if u = x then (r : Int) else R u) t := fun t ht => by
  by_cases e : t = x
  · subst e
    refine .inl ⟨by simp, by simp, hb, ?_⟩
    rcases h t hx with ⟨_, h1, _⟩ | ⟨_, h1 | ⟨q, _, h2, _⟩⟩
    · omega
    · exact h1.2
    · omega
  · rcases h t ht with ⟨h1, h2, h3, h4⟩ | ⟨h1, h2⟩
    · exact .inl ⟨by simp [h1], by simp [e, h2], h3, h4⟩
    · refine .inr ⟨by simp [h1, e], ?_⟩
      unfold RowI
      simp only [if_neg e]
      exact h2

theorem bit_mem {x t : Nat} (ht : t < 21) (h : x.testBit t = true) : t ∈ bitsOf x := by
  unfold bitsOf
  exact List.mem_filter.2 ⟨List.mem_range.2 ht, h⟩

theorem bits_lt {x t : Nat} (h : t ∈ bitsOf x) : t < 21 ∧ x.testBit t = true := by
  unfold bitsOf at h
  exact ⟨List.mem_range.1 (List.mem_filter.1 h).1, (List.mem_filter.1 h).2⟩

theorem bits_nodup (x : Nat) : (bitsOf x).Nodup := List.Pairwise.filter _ List.nodup_range

theorem mid_done {S : Nat → Nat} {r : Nat} {R : Nat → Int} {t : Nat} (ht : t < 21) (h : MidI S r (bitsOf (S r)) R t) : RowI S (r + 1) R t := by
  rcases h with ⟨_, h2, h3, h4⟩ | ⟨h1, h2⟩
  · exact .inr ⟨r, by omega, h2, h3, fun q' hq hne => h4 q' (by omega)⟩
  · have hz : (S r).testBit t = false := by
      cases hb : (S r).testBit t with
      | false => rfl
      | true => exact absurd (bit_mem ht hb) h1
    rcases h2 with ⟨h2, h3⟩ | ⟨q, h2, h3, h4, h5⟩
    · refine .inl ⟨h2, fun q hq => ?_⟩
      by_cases e : q = r
      · subst e; exact hz
      · exact h3 q (by omega)
    · refine .inr ⟨q, by omega, h3, h4, fun q' hq hne => ?_⟩
      by_cases e : q' = r
      · subst e; exact hz
      · exact h5 q' (by omega) hne

theorem mid_clash {S : Nat → Nat} {r : Nat} {pre : List Nat} {R : Nat → Int} {x : Nat} (h : MidI S r pre R x) (hx : x ∉ pre) (hR : R x ≠ -1) : ∃ q : Nat, q < r ∧ R x = q ∧ (S q).testBit x = true := by
  rcases h with ⟨h1, _⟩ | ⟨_, ⟨h1, _⟩ | ⟨q, h1, h2, h3, _⟩⟩
  · exact absurd h1 hx
  · exact absurd h1 hR
  · exact ⟨q, h1, h2, h3⟩

theorem row_none {S : Nat → Nat} {r : Nat} {R : Nat → Int} {t : Nat} (h : RowI S r R t) {q q' : Nat} (hq : q < q') (hr : q' < r) : ¬ ((S q).testBit t = true ∧ (S q').testBit t = true) := by
  rintro ⟨h1, h2⟩
  rcases h with ⟨_, h3⟩ | ⟨p, _, _, _, h3⟩
  · rw [h3 q (by omega)] at h1; cases h1
  · by_cases e : q = p
    · rw [h3 q' hr (by omega)] at h2; cases h2
    · rw [h3 q (by omega) e] at h1; cases h1

def updF {α : Type} (R : Nat → α) (n : Nat) (f : α) : Nat → α := fun m => if m = n then f else R m

/-- The table's box. -/
def TbV (w : World) (tb : Nat) (adT : Option Addr) (nT capT gN nN capN kb : Nat) (R : Nat → Nat → Int) (E : Nat → Nat) : Prop :=
  ∃ cs, w.heap[tb]? = some (.cells cs 166 (0, 0)) ∧ cs.size = 443 ∧ cs[0]? = some (.slice adT nT capT) ∧ cs[1]? = some (.slice (some ⟨gN, 0, none⟩) nN capN) ∧ cs[2]? = some (.slice (some ⟨kb, 0, none⟩) nN nN) ∧
    (∀ n t, n < 20 → t < 21 → cs[3 + n * 21 + t]? = some (.int .i64 (R n t))) ∧ ∀ m, m < 20 → cs[423 + m]? = some (.int .i64 (E m))

section
variable {w w' : World} {tb : Nat} {adT : Option Addr} {nT capT gN nN capN kb : Nat} {R : Nat → Nat → Int} {E : Nat → Nat}

theorem TbV.lt (h : TbV w tb adT nT capT gN nN capN kb R E) : tb < w.heap.size := by
  obtain ⟨cs, h1, _⟩ := h
  exact lt_of_block h1

theorem TbV.free (h : TbV w tb adT nT capT gN nN capN kb R E) (j : Nat) : w.frozen? ⟨tb, j, none⟩ = false := by
  obtain ⟨cs, h1, _⟩ := h
  exact block_free h1

theorem TbV.kind (h : TbV w tb adT nT capT gN nN capN kb R E) : ∃ c e f, w.heap[tb]? = some (.cells c e f) := by
  obtain ⟨cs, h1, _⟩ := h
  exact ⟨_, _, _, h1⟩

theorem TbV.heads (h : TbV w tb adT nT capT gN nN capN kb R E) : w.cell? ⟨tb, 0, none⟩ = some (.slice adT nT capT) ∧ w.cell? ⟨tb, 1, none⟩ = some (.slice (some ⟨gN, 0, none⟩) nN capN) ∧ w.cell? ⟨tb, 2, none⟩ = some (.slice (some ⟨kb, 0, none⟩) nN nN) := by
  obtain ⟨cs, h1, _, h2, h3, h4, _⟩ := h
  exact ⟨(block_cell h1).trans h2, (block_cell h1).trans h3, (block_cell h1).trans h4⟩

theorem TbV.row (h : TbV w tb adT nT capT gN nN capN kb R E) {n t : Nat} (hn : n < 20) (ht : t < 21) : w.cell? ⟨tb, 3 + n * 21 + t, none⟩ = some (.int .i64 (R n t)) := by
  obtain ⟨cs, h1, _, _, _, _, h2, _⟩ := h
  exact (block_cell h1).trans (h2 n t hn ht)

theorem TbV.empty (h : TbV w tb adT nT capT gN nN capN kb R E) {m : Nat} (hm : m < 20) : w.cell? ⟨tb, 423 + m, none⟩ = some (.int .i64 (E m)) := by
  obtain ⟨cs, h1, _, _, _, _, _, h2⟩ := h
  exact (block_cell h1).trans (h2 m hm)

theorem TbV.block (h : TbV w tb adT nT capT gN nN capN kb R E) (hb : w'.heap[tb]? = w.heap[tb]?) : TbV w' tb adT nT capT gN nN capN kb R E := by
  obtain ⟨cs, h1, h2⟩ := h
  exact ⟨cs, hb.trans h1, h2⟩

theorem TbV.keeps {S : List Nat} (h : TbV w tb adT nT capT gN nN capN kb R E) (hk : Keeps w w' S) (hS : tb ∉ S) : TbV w' tb adT nT capT gN nN capN kb R E := h.block (hk.block tb h.lt hS)

theorem TbV.put (h : TbV w tb adT nT capT gN nN capN kb R E) {n t : Nat} (hn : n < 20) (ht : t < 21) (x : Int) : TbV (w.setCell ⟨tb, 3 + n * 21 + t, none⟩ (.int .i64 x)) tb adT nT capT gN nN capN kb (updF R n (fun u => if u = t then x else R n u)) E := by
  obtain ⟨cs, h1, hs, h2, h3, h4, h5, h6⟩ := h
  refine ⟨_, cells_set h1 _, by simpa using hs, ?_, ?_, ?_, fun n' t' hn' ht' => ?_, fun m hm => ?_⟩
  · rw [Array.getElem?_setIfInBounds_ne (by omega)]; exact h2
  · rw [Array.getElem?_setIfInBounds_ne (by omega)]; exact h3
  · rw [Array.getElem?_setIfInBounds_ne (by omega)]; exact h4
  · unfold updF
    by_cases e : n' = n
    · subst e
      by_cases e2 : t' = t
      · subst e2
        rw [Array.getElem?_setIfInBounds_self_of_lt (by omega)]
        simp
      · rw [Array.getElem?_setIfInBounds_ne (by omega), h5 n' t' hn' ht']
        simp [e2]
    · rw [Array.getElem?_setIfInBounds_ne (by omega), h5 n' t' hn' ht']
      simp [e]
  · rw [Array.getElem?_setIfInBounds_ne (by omega)]; exact h6 m hm

theorem TbV.putE (h : TbV w tb adT nT capT gN nN capN kb R E) {n : Nat} (hn : n < 20) (x : Nat) : TbV (w.setCell ⟨tb, 423 + n, none⟩ (.int .i64 (x : Int))) tb adT nT capT gN nN capN kb R (fun m => if m = n then x else E m) := by
  obtain ⟨cs, h1, hs, h2, h3, h4, h5, h6⟩ := h
  refine ⟨_, cells_set h1 _, by simpa using hs, ?_, ?_, ?_, fun n' t' hn' ht' => ?_, fun m hm => ?_⟩
  · rw [Array.getElem?_setIfInBounds_ne (by omega)]; exact h2
  · rw [Array.getElem?_setIfInBounds_ne (by omega)]; exact h3
  · rw [Array.getElem?_setIfInBounds_ne (by omega)]; exact h4
  · rw [Array.getElem?_setIfInBounds_ne (by omega)]; exact h5 n' t' hn' ht'
  · by_cases e : m = n
    · subst e
      rw [Array.getElem?_setIfInBounds_self_of_lt (by omega)]
      simp
    · rw [Array.getElem?_setIfInBounds_ne (by omega), h6 m hm]
      simp [e]

theorem TbV.same {R' : Nat → Nat → Int} (h : TbV w tb adT nT capT gN nN capN kb R E) (hR : ∀ n t, n < 20 → t < 21 → R' n t = R n t) : TbV w tb adT nT capT gN nN capN kb R' E := by
  obtain ⟨cs, h1, hs, h2, h3, h4, h5, h6⟩ := h
  exact ⟨cs, h1, hs, h2, h3, h4, fun n t hn ht => by rw [hR n t hn ht]; exact h5 n t hn ht, h6⟩

end

/-- The facts and the grammar lie as they lay where the table's box alone is written. -/
theorem FcM.tab {W0 W : World} {n₀ tb kb : Nat} {N : NG} {tws : List ByteArray} {pg : List Nm} {adT : Option Addr} {capT gN capN : Nat} {k : List Fa} {R : Nat → Nat → Int} {E : Nat → Nat} {S : List Nat} (h : FcM W0 n₀ tb kb N tws pg adT capT gN capN k) (hS : ∀ q ∈ S, n₀ ≤ q ∧ q ≠ kb) (hk : Keeps W0 W S) (hv : TbV W tb adT N.nT capT gN N.nN capN kb R E) : FcM W n₀ tb kb N tws pg adT capT gN capN k where
  gr := h.gr.below (hk.below h.ln (fun q hq => (hS q hq).1))
  n0 := h.n0
  ne := h.ne
  lf := hv.lt
  f0 := hv.heads.1
  f1 := hv.heads.2.1
  f2 := hv.heads.2.2
  kn := h.kn.keeps hk (fun hm => (hS kb hm).2 rfl)

end Go.Proofs.YtjjggdcnpndgjaaGreatDoor
