/- What an append to one of the grammar's rows makes of it. -/
import Derived.Test.YtjjggdcnpndgjaaDoorGram
namespace Go.Proofs.YtjjggdcnpndgjaaDoor
open Go.RowKit

section
variable {w w1 : World} {B gb : Nat} {G : Gr} {vT vS vN vR : Value} {pv : List Value} {S : List Nat}

/-- The grammar stays where none of its blocks is written. -/
theorem GrV.keeps (h : GrV w B gb G vT vS vN vR pv) (hk : Keeps w w1 S) (hg : gb ∉ S) (hT : ∀ g, vT.ownBlock = some g → g ∉ S) (hS : ∀ g, vS.ownBlock = some g → g ∉ S)
    (hN : ∀ g, vN.ownBlock = some g → g ∉ S) (hR : ∀ g, vR.ownBlock = some g → g ∉ S) (hP : ∀ p ∈ pv, ∀ g, p.ownBlock = some g → g ∉ S) : GrV w1 B gb G vT vS vN vR pv where
  blk := (hk.block gb (lt_of_block h.blk) hg).trans h.blk
  hb := h.hb
  toks := own_keeps h.toks hk hT
  swps := own_keeps h.swps hk hS
  names := own_keeps h.names hk hN
  rules := own_keeps h.rules hk hR
  pvl := h.pvl
  parts := fun i r p hr hp => ⟨own_keeps (h.parts i r p hr hp).1 hk (hP p (List.mem_of_getElem? hp)), (h.parts i r p hr hp).2⟩

theorem GrV.part_of (h : GrV w B gb G vT vS vN vR pv) {p : Value} (hp : p ∈ pv) : ∃ l, PartsAt w B vN p l := by
  obtain ⟨i, hi, rfl⟩ := List.mem_iff_getElem.1 hp
  have hl := h.pvl
  exact ⟨_, h.parts i (G.rules[i]'(by omega)) pv[i] (by simp) (by simp)⟩

/-- Which of the grammar's blocks a block of another kind is. -/
theorem GrV.off (h : GrV w B gb G vT vS vN vR pv) : (∀ g, vT.ownBlock = some g → gb ≠ g) ∧ (∀ g, vS.ownBlock = some g → gb ≠ g) ∧ (∀ g, vN.ownBlock = some g → gb ≠ g) ∧ (∀ g, vR.ownBlock = some g → gb ≠ g) := by
  refine ⟨fun g hg e => ?_, fun g hg e => ?_, fun g hg e => ?_, fun g hg e => ?_⟩ <;> subst e
  · exact own_not_block h.toks h.blk (by decide) hg
  · exact own_not_block h.swps h.blk (by decide) hg
  · exact own_not_block h.names h.blk (by decide) hg
  · exact own_not_block h.rules h.blk (by decide) hg

theorem mem_own {v : Value} {k : Nat} (h : k ∈ v.ownBlock.toList) : v.ownBlock = some k := by
  cases hv : v.ownBlock with
  | none => rw [hv] at h; simp at h
  | some g => rw [hv] at h; simp at h; rw [h]

/-- A row that lies apart from what was written stays, a store into the grammar's own block behind it too. -/
theorem row_over {e sz n j : Nat} {v u : Value} {xs : List Value} (h : w.ownsRow B e sz v n xs) (hk : Keeps w w1 S) (hn : ∀ g, v.ownBlock = some g → g ∉ S) (hgb : ∀ g, v.ownBlock = some g → gb ≠ g) :
    (w1.setCell ⟨gb, j, none⟩ u).ownsRow B e sz v n xs :=
  ownsRow_setCell_other (own_keeps h hk hn) (fun hg => hgb gb hg rfl) u

theorem row_over' {e sz n j : Nat} {v u : Value} {xs : List Value} {cs : Array Value} {t : Nat} {fr : Nat × Nat} (h : w1.ownsRow B e sz v n xs) (hb : w1.heap[gb]? = some (.cells cs t fr)) (hne : e ≠ t) :
    (w1.setCell ⟨gb, j, none⟩ u).ownsRow B e sz v n xs :=
  ownsRow_setCell_other h (own_not_block h hb hne) u

theorem GrV.blk1 (h : GrV w B gb G vT vS vN vR pv) (hk : Keeps w w1 S) (hg : gb ∉ S) : w1.heap[gb]? = some (.cells #[vT, vS, vN, vR] 39 (0, 0)) := (hk.block gb (lt_of_block h.blk) hg).trans h.blk

/-- The parts' rows, over a write to another row and a store into the grammar's block. -/
theorem GrV.parts_over (h : GrV w B gb G vT vS vN vR pv) (hk : Keeps w w1 S) (hp : ∀ p ∈ pv, ∀ g, p.ownBlock = some g → g ∉ S) {j : Nat} {u : Value} :
    ∀ (i : Nat) (r : ByteArray × List ByteArray) (p : Value), G.rules[i]? = some r → pv[i]? = some p → PartsAt (w1.setCell ⟨gb, j, none⟩ u) B vN p r.2 := by
  intro i r p hr hpv
  have h1 := h.parts i r p hr hpv
  exact ⟨row_over h1.1 hk (hp p (List.mem_of_getElem? hpv)) (fun g hg e => own_not_block h1.1 h.blk (by decide) (e ▸ hg)), h1.2⟩

/-- A row that was appended to, then stored into its field: field 0. -/
theorem GrV.addTok (h : GrV w B gb G vT vS vN vR pv) (hk : Keeps w w1 vT.ownBlock.toList) {v' : Value} {t : ByteArray × Int × Int}
    (hown : w1.ownsRow B 46 3 v' (G.toks.length + 1) (tokCells G.toks ++ [.string t.1, .int .i64 t.2.1, .int .i64 t.2.2])) :
    GrV (w1.setCell ⟨gb, 0, none⟩ v') B gb { G with toks := G.toks ++ [t] } v' vS vN vR pv := by
  obtain ⟨oT, oS, oN, oR⟩ := h.off
  have hgb : gb ∉ vT.ownBlock.toList := fun hm => oT gb (mem_own hm) rfl
  have hb1 := h.blk1 hk hgb
  refine ⟨?_, h.hb, ?_, ?_, ?_, ?_, h.pvl, ?_⟩
  · exact cells_set hb1 v'
  · have e1 : tokCells (G.toks ++ [t]) = tokCells G.toks ++ [.string t.1, .int .i64 t.2.1, .int .i64 t.2.2] := by simp [tokCells]
    show (w1.setCell _ _).ownsRow B _ 3 v' (G.toks ++ [t]).length (tokCells (G.toks ++ [t]))
    rw [e1, List.length_append]
    exact row_over' hown hb1 (by decide)
  · exact row_over h.swps hk (fun g hg hm => own_apart h.swps h.toks (by decide) hg (mem_own hm)) oS
  · exact row_over h.names hk (fun g hg hm => own_apart h.names h.toks (by decide) hg (mem_own hm)) oN
  · exact row_over h.rules hk (fun g hg hm => own_apart h.rules h.toks (by decide) hg (mem_own hm)) oR
  · exact h.parts_over hk (fun p hp g hg hm => by obtain ⟨l, hl⟩ := h.part_of hp; exact own_apart hl.1 h.toks (by decide) hg (mem_own hm))

theorem GrV.addSwp (h : GrV w B gb G vT vS vN vR pv) (hk : Keeps w w1 vS.ownBlock.toList) {v' : Value} {t : ByteArray × ByteArray × Int}
    (hown : w1.ownsRow B 48 3 v' (G.swps.length + 1) (swpCells G.swps ++ [.string t.1, .string t.2.1, .int .i64 t.2.2])) :
    GrV (w1.setCell ⟨gb, 1, none⟩ v') B gb { G with swps := G.swps ++ [t] } vT v' vN vR pv := by
  obtain ⟨oT, oS, oN, oR⟩ := h.off
  have hgb : gb ∉ vS.ownBlock.toList := fun hm => oS gb (mem_own hm) rfl
  have hb1 := h.blk1 hk hgb
  refine ⟨?_, h.hb, ?_, ?_, ?_, ?_, h.pvl, ?_⟩
  · exact cells_set hb1 v'
  · exact row_over h.toks hk (fun g hg hm => own_apart h.toks h.swps (by decide) hg (mem_own hm)) oT
  · have e1 : swpCells (G.swps ++ [t]) = swpCells G.swps ++ [.string t.1, .string t.2.1, .int .i64 t.2.2] := by simp [swpCells]
    show (w1.setCell _ _).ownsRow B _ 3 v' (G.swps ++ [t]).length (swpCells (G.swps ++ [t]))
    rw [e1, List.length_append]
    exact row_over' hown hb1 (by decide)
  · exact row_over h.names hk (fun g hg hm => own_apart h.names h.swps (by decide) hg (mem_own hm)) oN
  · exact row_over h.rules hk (fun g hg hm => own_apart h.rules h.swps (by decide) hg (mem_own hm)) oR
  · exact h.parts_over hk (fun p hp g hg hm => by obtain ⟨l, hl⟩ := h.part_of hp; exact own_apart hl.1 h.swps (by decide) hg (mem_own hm))

/-- The names: the parts' rows are none of theirs, before and behind. -/
theorem GrV.addName (h : GrV w B gb G vT vS vN vR pv) (hk : Keeps w w1 vN.ownBlock.toList) {v' : Value} {x : ByteArray} (hnew : v'.ownBlock = vN.ownBlock ∨ ∃ k, v'.ownBlock = some k ∧ w.heap.size ≤ k)
    (hown : w1.ownsRow B 9 1 v' (G.names.length + 1) (G.names.map Value.string ++ [.string x])) :
    GrV (w1.setCell ⟨gb, 2, none⟩ v') B gb { G with names := G.names ++ [x] } vT vS v' vR pv := by
  obtain ⟨oT, oS, oN, oR⟩ := h.off
  have hgb : gb ∉ vN.ownBlock.toList := fun hm => oN gb (mem_own hm) rfl
  have hb1 := h.blk1 hk hgb
  refine ⟨?_, h.hb, ?_, ?_, ?_, ?_, h.pvl, ?_⟩
  · exact cells_set hb1 v'
  · exact row_over h.toks hk (fun g hg hm => own_apart h.toks h.names (by decide) hg (mem_own hm)) oT
  · exact row_over h.swps hk (fun g hg hm => own_apart h.swps h.names (by decide) hg (mem_own hm)) oS
  · show (w1.setCell _ _).ownsRow B _ 1 v' (G.names ++ [x]).length ((G.names ++ [x]).map Value.string)
    rw [List.map_append, List.length_append]
    exact row_over' hown hb1 (by decide)
  · exact row_over h.rules hk (fun g hg hm => own_apart h.rules h.names (by decide) hg (mem_own hm)) oR
  · intro i r p hr hpv
    have h1 := h.parts i r p hr hpv
    have h2 := h.parts_over (u := v') (j := 2) hk (fun p hp g hg hm => by
      obtain ⟨l, hl⟩ := h.part_of hp
      rcases hl.2 with h3 | h3
      · rw [h3] at hg; cases hg
      · exact h3 (hg.trans (mem_own hm).symm)) i r p hr hpv
    refine ⟨h2.1, ?_⟩
    rcases h1.2 with h3 | h3
    · exact .inl h3
    · right
      rcases hnew with h4 | ⟨k, h4, h5⟩
      · rw [h4]; exact h3
      · intro h6
        have := own_lt h1.1 (h6.trans h4)
        omega

/-- The rules: r's own parts row comes in. -/
theorem GrV.addRule (h : GrV w B gb G vT vS vN vR pv) (hk : Keeps w w1 vR.ownBlock.toList) {v' vP : Value} {r : ByteArray × List ByteArray} (hP : PartsAt w B vN vP r.2)
    (hown : w1.ownsRow B 50 2 v' (G.rules.length + 1) (ruleCells G.rules pv ++ [.string r.1, vP])) :
    GrV (w1.setCell ⟨gb, 3, none⟩ v') B gb { G with rules := G.rules ++ [r] } vT vS vN v' (pv ++ [vP]) := by
  obtain ⟨oT, oS, oN, oR⟩ := h.off
  have hgb : gb ∉ vR.ownBlock.toList := fun hm => oR gb (mem_own hm) rfl
  have hb1 := h.blk1 hk hgb
  have hl := h.pvl
  refine ⟨?_, h.hb, ?_, ?_, ?_, ?_, by simp [hl], ?_⟩
  · exact cells_set hb1 v'
  · exact row_over h.toks hk (fun g hg hm => own_apart h.toks h.rules (by decide) hg (mem_own hm)) oT
  · exact row_over h.swps hk (fun g hg hm => own_apart h.swps h.rules (by decide) hg (mem_own hm)) oS
  · exact row_over h.names hk (fun g hg hm => own_apart h.names h.rules (by decide) hg (mem_own hm)) oN
  · have e1 : ruleCells (G.rules ++ [r]) (pv ++ [vP]) = ruleCells G.rules pv ++ [.string r.1, vP] := by
      unfold ruleCells
      rw [List.zip_append hl.symm]
      simp
    show (w1.setCell _ _).ownsRow B _ 2 v' (G.rules ++ [r]).length (ruleCells (G.rules ++ [r]) (pv ++ [vP]))
    rw [e1, List.length_append]
    exact row_over' hown hb1 (by decide)
  · intro i q p hr hpv
    by_cases hi : i < G.rules.length
    · rw [List.getElem?_append_left hi] at hr
      rw [List.getElem?_append_left (by omega)] at hpv
      exact h.parts_over hk (fun p hp g hg hm => by obtain ⟨l, hl⟩ := h.part_of hp; exact own_apart hl.1 h.rules (by decide) hg (mem_own hm)) i q p hr hpv
    · rw [List.getElem?_append_right (by omega)] at hr
      rw [List.getElem?_append_right (by omega)] at hpv
      obtain ⟨h1, _⟩ := List.getElem?_eq_some_iff.1 hr
      simp at h1
      have h0 : i - G.rules.length = 0 := by omega
      have h0' : i - pv.length = 0 := by omega
      rw [h0] at hr
      rw [h0'] at hpv
      simp at hr hpv
      subst hr; subst hpv
      exact ⟨row_over hP.1 hk (fun g hg hm => own_apart hP.1 h.rules (by decide) hg (mem_own hm)) (fun g hg e => own_not_block hP.1 h.blk (by decide) (e ▸ hg)), hP.2⟩

/-- What give tells of the counts. -/
def totI (G : Gr) (bad : Bool) : Int := if 20 < G.toks.length ∨ 20 < G.names.length ∨ 60 < G.rules.length then 4 else if bad then 4 else 0

theorem own_ge {e sz n : Nat} {v : Value} {xs : List Value} (h : w.ownsRow B e sz v n xs) : ∀ k, k ∈ v.ownBlock.toList → B ≤ k := fun k hk => (h.lt k (mem_own hk)).1

end

theorem own_slice {w : World} {B e sz n : Nat} {v : Value} {xs : List Value} (h : w.ownsRow B e sz v n xs) : ∃ a c, v = .slice a n c := by
  rcases h.2 with ⟨rfl, rfl⟩ | ⟨g, cap, cur, rfl, _⟩
  · exact ⟨_, _, rfl⟩
  · exact ⟨_, _, rfl⟩

end Go.Proofs.YtjjggdcnpndgjaaDoor
