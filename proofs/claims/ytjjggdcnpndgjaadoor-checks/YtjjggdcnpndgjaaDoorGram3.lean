/- A rule line, part by part: the local rule beside the grammar. -/
import Derived.Test.YtjjggdcnpndgjaaDoorGram2
namespace Go.Proofs.YtjjggdcnpndgjaaDoor
open Go.RowKit

theorem StrsAt.keeps {w w' : World} {S : List Nat} {g off : Nat} {l : List ByteArray} (h : StrsAt w g off l) (hk : Keeps w w' S) (hg : g ∉ S) : StrsAt w' g off l :=
  ⟨Nat.lt_of_lt_of_le h.1 hk.size, fun j hj => (hk.cell (by exact h.1) (by exact hg)).trans (h.2 j hj)⟩

structure RV (w : World) (B gb rb g : Nat) (G : Gr) (l : List ByteArray) (nm : ByteArray) (R : List (ByteArray × List ByteArray)) (cur : List ByteArray) (vT vS vN vR : Value) (pv : List Value) (vP : Value) : Prop where
  gr : GrV w B gb { G with rules := R } vT vS vN vR pv
  blk : w.heap[rb]? = some (.cells #[.string nm, vP] 50 (0, 0))
  vr : vR.ownBlock ≠ some rb
  part : PartsAt w B vN vP cur
  old : ∀ p ∈ pv, p.ownBlock = none ∨ p.ownBlock ≠ vP.ownBlock
  line : StrsAt w g 0 l
  rg : vR.ownBlock ≠ some g
  pg : vP.ownBlock ≠ some g
  rbg : rb ≠ g
  gbg : gb ≠ g
  hb : B ≤ rb

def RInv (w : World) (B gb rb g : Nat) (G : Gr) (l : List ByteArray) (nm : ByteArray) (R : List (ByteArray × List ByteArray)) (cur : List ByteArray) : Prop :=
  ∃ vT vS vN vR pv vP, RV w B gb rb g G l nm R cur vT vS vN vR pv vP

section
variable {w w1 : World} {B gb rb g : Nat} {G : Gr} {l : List ByteArray} {nm : ByteArray} {R : List (ByteArray × List ByteArray)} {cur : List ByteArray} {vT vS vN vR : Value} {pv : List Value} {vP : Value}

theorem RV.rows (h : RV w B gb rb g G l nm R cur vT vS vN vR pv vP) : gb ≠ rb ∧ (∀ k, vT.ownBlock = some k → k ≠ rb) ∧ (∀ k, vS.ownBlock = some k → k ≠ rb) ∧ (∀ k, vN.ownBlock = some k → k ≠ rb) ∧ (∀ p ∈ pv, ∀ k, p.ownBlock = some k → k ≠ rb) ∧ (∀ k, vP.ownBlock = some k → k ≠ rb) := by
  refine ⟨fun e => ?_, fun k hk e => ?_, fun k hk e => ?_, fun k hk e => ?_, fun p hp k hk e => ?_, fun k hk e => ?_⟩
  · have h1 := h.gr.blk; rw [e, h.blk] at h1; injection h1 with h1; injection h1 with _ h2; exact absurd h2 (by decide)
  · subst e; exact own_not_block h.gr.toks h.blk (by decide) hk
  · subst e; exact own_not_block h.gr.swps h.blk (by decide) hk
  · subst e; exact own_not_block h.gr.names h.blk (by decide) hk
  · subst e; obtain ⟨q, hq⟩ := h.gr.part_of hp; exact own_not_block hq.1 h.blk (by decide) hk
  · subst e; exact own_not_block h.part.1 h.blk (by decide) hk

/-- At a bar: the rule so far goes to the rules, the local one begins anew. -/
theorem RV.bar (h : RV w B gb rb g G l nm R cur vT vS vN vR pv vP) (hk : Keeps w w1 vR.ownBlock.toList) {g' n' cap' : Nat} (hn' : n' = R.length + 1) (hat : vR.ownBlock = some g' ∨ w.heap.size ≤ g')
    (hown : w1.ownsRow B 50 2 (.slice (some ⟨g', 0, none⟩) n' cap') n' (ruleCells R pv ++ [.string nm, vP])) :
    RV (((w1.setCell ⟨gb, 3, none⟩ (.slice (some ⟨g', 0, none⟩) n' cap')).setCell ⟨rb, 0, none⟩ (.string nm)).setCell ⟨rb, 1, none⟩ (.slice none 0 0)) B gb rb g G l nm (R ++ [(nm, cur)]) [] vT vS vN (.slice (some ⟨g', 0, none⟩) n' cap') (pv ++ [vP]) (.slice none 0 0) := by
  subst hn'
  obtain ⟨rG, rT, rS, rN, rP, rQ⟩ := h.rows
  have hlt : rb < w.heap.size := lt_of_block h.blk
  have hg' : g' ≠ rb := by
    rcases hat with e | e
    · intro e2; exact h.vr (e2 ▸ e)
    · omega
  have hgg : g' ≠ g := by
    rcases hat with e | e
    · intro e2; exact h.rg (e2 ▸ e)
    · have := h.line.1; omega
  have hV1 := h.gr.addRule (r := (nm, cur)) hk h.part hown
  have hrb : rb ∉ vR.ownBlock.toList := fun hm => h.vr (mem_own hm)
  have hb1 : (w1.setCell ⟨gb, 3, none⟩ (.slice (some ⟨g', 0, none⟩) (R.length + 1) cap')).heap[rb]? = some (.cells #[.string nm, vP] 50 (0, 0)) := by
    rw [Below.heap_setCell _ _ _ _ (by exact fun e => rG e.symm)]
    exact (hk.block rb hlt hrb).trans h.blk
  have hk2 : ∀ W : World, Keeps W ((W.setCell ⟨rb, 0, none⟩ (.string nm)).setCell ⟨rb, 1, none⟩ (.slice none 0 0)) [rb] := fun W => ((Keeps.refl W [rb]).setCell (by simp) _).setCell (by simp) _
  have hall : Keeps w (((w1.setCell ⟨gb, 3, none⟩ (.slice (some ⟨g', 0, none⟩) (R.length + 1) cap')).setCell ⟨rb, 0, none⟩ (.string nm)).setCell ⟨rb, 1, none⟩ (.slice none 0 0)) (gb :: rb :: vR.ownBlock.toList) :=
    (((hk.mono (fun k hm => by simp only [List.mem_cons]; exact .inr (.inr hm))).setCell (by simp) _).setCell (by simp) _).setCell (by simp) _
  have nosl : (Value.slice (none : Option Addr) 0 0).ownBlock = none := rfl
  refine ⟨hV1.keeps (hk2 _) (by simpa using rG) (fun k hk => by simpa using rT k hk) (fun k hk => by simpa using rS k hk) (fun k hk => by simpa using rN k hk) (fun k hk => by simp [Value.ownBlock] at hk; subst hk; simpa using hg') (fun p hp k hk => ?_),
    ?_, ?_, ⟨World.ownsRow_nil _ _ _ _, .inl rfl⟩, ?_, h.line.keeps hall ?_, ?_, by rw [nosl]; simp, h.rbg, h.gbg, h.hb⟩
  · rcases List.mem_append.1 hp with hp | hp
    · simpa using rP p hp k hk
    · simp at hp; subst hp; simpa using rQ k hk
  · have := cells_set (j := 1) (cells_set (j := 0) hb1 (.string nm)) (.slice none 0 0)
    simpa using this
  · simpa [Value.ownBlock] using hg'
  · intro p _
    rw [nosl]
    cases p.ownBlock with
    | none => exact .inl rfl
    | some k => exact .inr (by simp)
  · simp only [List.mem_cons, not_or]
    exact ⟨fun e => h.gbg e.symm, fun e => h.rbg e.symm, fun hm => h.rg (mem_own hm)⟩
  · simpa [Value.ownBlock] using hgg

/-- A part: it goes to the local rule. -/
theorem RV.add (h : RV w B gb rb g G l nm R cur vT vS vN vR pv vP) (hk : Keeps w w1 vP.ownBlock.toList) {g' n' cap' : Nat} {x : ByteArray} (hn' : n' = cur.length + 1) (hat : vP.ownBlock = some g' ∨ w.heap.size ≤ g')
    (hown : w1.ownsRow B 9 1 (.slice (some ⟨g', 0, none⟩) n' cap') n' (cur.map Value.string ++ [.string x])) :
    RV (w1.setCell ⟨rb, 1, none⟩ (.slice (some ⟨g', 0, none⟩) n' cap')) B gb rb g G l nm R (cur ++ [x]) vT vS vN vR pv (.slice (some ⟨g', 0, none⟩) n' cap') := by
  subst hn'
  obtain ⟨rG, rT, rS, rN, rP, rQ⟩ := h.rows
  have hlt : rb < w.heap.size := lt_of_block h.blk
  have hrb : rb ∉ vP.ownBlock.toList := fun hm => rQ rb (mem_own hm) rfl
  have hall : Keeps w (w1.setCell ⟨rb, 1, none⟩ (.slice (some ⟨g', 0, none⟩) (cur.length + 1) cap')) (rb :: vP.ownBlock.toList) := (hk.mono (fun k hm => by simp only [List.mem_cons]; exact .inr hm)).setCell (by simp) _
  have hb1 : w1.heap[rb]? = some (.cells #[.string nm, vP] 50 (0, 0)) := (hk.block rb hlt hrb).trans h.blk
  have hgg : g' ≠ g := by
    rcases hat with e | e
    · intro e2; exact h.pg (e2 ▸ e)
    · have := h.line.1; omega
  have hsep : ∀ v : Value, (v.ownBlock = none ∨ v.ownBlock ≠ vP.ownBlock) → (∀ k, v.ownBlock = some k → k < w.heap.size) → (v.ownBlock = none ∨ v.ownBlock ≠ some g') := by
    intro v h1 h2
    rcases h1 with h1 | h1
    · exact .inl h1
    · right
      intro e
      rcases hat with h3 | h3
      · exact h1 (e.trans h3.symm)
      · have := h2 g' e; omega
  refine ⟨h.gr.keeps hall ?_ ?_ ?_ ?_ ?_ ?_, ?_, h.vr, ⟨?_, ?_⟩, ?_, h.line.keeps hall ?_, h.rg, by simpa [Value.ownBlock] using hgg, h.rbg, h.gbg, h.hb⟩
  · simp only [List.mem_cons, not_or]
    exact ⟨rG, fun hm => own_not_block h.part.1 h.gr.blk (by decide) (mem_own hm)⟩
  · intro k hk
    simp only [List.mem_cons, not_or]
    exact ⟨rT k hk, fun hm => own_apart h.gr.toks h.part.1 (by decide) hk (mem_own hm)⟩
  · intro k hk
    simp only [List.mem_cons, not_or]
    exact ⟨rS k hk, fun hm => own_apart h.gr.swps h.part.1 (by decide) hk (mem_own hm)⟩
  · intro k hk
    simp only [List.mem_cons, not_or]
    refine ⟨rN k hk, fun hm => ?_⟩
    rcases h.part.2 with h3 | h3
    · rw [h3] at hm; simp at hm
    · exact h3 ((mem_own hm).trans hk.symm)
  · intro k hk
    simp only [List.mem_cons, not_or]
    exact ⟨fun e => h.vr (e ▸ hk), fun hm => own_apart h.gr.rules h.part.1 (by decide) hk (mem_own hm)⟩
  · intro p hp k hk
    simp only [List.mem_cons, not_or]
    refine ⟨rP p hp k hk, fun hm => ?_⟩
    rcases h.old p hp with h3 | h3
    · rw [h3] at hk; cases hk
    · exact h3 (hk.trans (mem_own hm).symm)
  · have := cells_set (j := 1) hb1 (.slice (some ⟨g', 0, none⟩) (cur.length + 1) cap')
    simpa using this
  · have := ownsRow_setCell_other hown (a := ⟨rb, 1, none⟩) (own_not_block hown hb1 (by decide)) (.slice (some ⟨g', 0, none⟩) (cur.length + 1) cap')
    simpa using this
  · have h5 := hsep vN (by
      rcases h.part.2 with h3 | h3
      · cases hv : vN.ownBlock with
        | none => exact .inl rfl
        | some k => right; rw [h3]; simp
      · exact .inr fun e => h3 e.symm) (fun k hk => own_lt h.gr.names hk)
    right
    rcases h5 with h5 | h5
    · rw [h5]; simp [Value.ownBlock]
    · intro e; exact h5 (e.symm.trans (by simp [Value.ownBlock]))
  · intro p hp
    have h5 := hsep p (h.old p hp) (fun k hk => by obtain ⟨q, hq⟩ := h.gr.part_of hp; exact own_lt hq.1 hk)
    rcases h5 with h5 | h5
    · exact .inl h5
    · exact .inr (by simpa [Value.ownBlock] using h5)
  · simp only [List.mem_cons, not_or]
    exact ⟨fun e => h.rbg e.symm, fun hm => h.pg (mem_own hm)⟩

end

theorem RV.start {w : World} {B gb g : Nat} {G : Gr} {l : List ByteArray} {vT vS vN vR : Value} {pv : List Value} (nm : ByteArray) (h : GrV w B gb G vT vS vN vR pv) (hl : StrsAt w g 0 l) (hgR : vR.ownBlock ≠ some g) (gbg : gb ≠ g) (hB : B ≤ w.heap.size) :
    RV (w.alloc (.cells #[.string nm, .slice none 0 0] 50)) B gb w.heap.size g G l nm G.rules [] vT vS vN vR pv (.slice none 0 0) := by
  have hk : Keeps w (w.alloc (.cells #[.string nm, .slice none 0 0] 50)) [] := (Keeps.refl w []).alloc _
  have hg := hl.1
  have nosl : (Value.slice (none : Option Addr) 0 0).ownBlock = none := rfl
  refine ⟨h.keeps hk (by simp) (by simp) (by simp) (by simp) (by simp) (by simp), heap_alloc_new w _, fun e => ?_, ⟨World.ownsRow_nil _ _ _ _, .inl rfl⟩, fun p _ => ?_, hl.keeps hk (by simp), hgR, by rw [nosl]; simp, by omega, gbg, hB⟩
  · have := own_lt h.rules e; omega
  · rw [nosl]
    cases p.ownBlock with
    | none => exact .inl rfl
    | some k => exact .inr (by simp)

/-- One part of a rule line. -/
def rstep (nm : ByteArray) (st : List (ByteArray × List ByteArray) × List ByteArray × Bool) (x : ByteArray) : List (ByteArray × List ByteArray) × List ByteArray × Bool :=
  if barB x then (st.1 ++ [(nm, st.2.1)], [], st.2.2) else (st.1, st.2.1 ++ [x], st.2.2 || decide (8 < st.2.1.length + 1))

def rst (R : List (ByteArray × List ByteArray)) (nm : ByteArray) (l : List ByteArray) : List (ByteArray × List ByteArray) × List ByteArray × Bool := l.foldl (rstep nm) (R, [], false)

theorem rst_next {R : List (ByteArray × List ByteArray)} {nm : ByteArray} {l : List ByteArray} {k : Nat} (h3 : 3 ≤ k) (hk : k < l.length) : rst R nm ((l.take (k + 1)).drop 3) = rstep nm (rst R nm ((l.take k).drop 3)) (nth l k) := by
  rw [List.take_succ_eq_append_getElem hk, List.drop_append_of_le_length (by simp; omega)]
  unfold rst nth
  rw [List.foldl_append, List.getD_eq_getElem?_getD, List.getElem?_eq_getElem hk]
  rfl

def errOf (b : Bool) : Int := if b then 4 else 0

end Go.Proofs.YtjjggdcnpndgjaaDoor
