/- The program's grammar, as it lies in a world that is only added to; what it keeps of its names. -/
import Derived.Test.YtjjggdcnpndgjaaGreatDoorJ6
import Derived.Test.YtjjggdcnpndgjaaGreatDoorJ7
import Derived.RangeFuncNested
import Derived.RangeFuncBound
import Derived.RangeFuncCalls
import Derived.RangeFuncLeaves
import Derived.Shelf.Abstract
import Derived.WalkKit
import Derived.OwnWalkIn
import Derived.TacticsInMore
import Derived.LoopNIn
import Derived.LoopIn
namespace Go.Proofs.YtjjggdcnpndgjaaGreatDoor
open Go.RowKit

def isNam : Pt → Bool
  | .tok _ => false
  | .nam _ => true
def numOf : Pt → Nat
  | .tok t => t
  | .nam n => n

/-- A list of parts, in blocks below n₀. -/
def PartsV (w : World) (n₀ : Nat) (v : Value) (ps : List Pt) : Prop :=
  ∃ ad cap, v = .slice ad ps.length cap ∧ ps.length ≤ cap ∧ (0 < ps.length → ∃ g off, ad = some ⟨g, off, none⟩ ∧ g < n₀ ∧ ∀ i p, ps[i]? = some p → w.cell? ⟨g, off + i * 2, none⟩ = some (.bool (isNam p)) ∧ w.cell? ⟨g, off + i * 2 + 1, none⟩ = some (.int .i64 (numOf p)))

theorem PartsV.below {w w' : World} {n₀ : Nat} {v : Value} {ps : List Pt} (h : PartsV w n₀ v ps) (hb : Below n₀ w w') : PartsV w' n₀ v ps := by
  obtain ⟨ad, cap, h1, h2, h3⟩ := h
  refine ⟨ad, cap, h1, h2, fun h0 => ?_⟩
  obtain ⟨g, off, h4, h5, h6⟩ := h3 h0
  exact ⟨g, off, h4, h5, fun i p hp => ⟨(hb.cell (by exact h5)).trans (h6 i p hp).1, (hb.cell (by exact h5)).trans (h6 i p hp).2⟩⟩

abbrev Nm := ByteArray × List (List Pt)

/-- A name's rules. -/
def RulesV (w : World) (n₀ : Nat) (v : Value) (rs : List (List Pt)) : Prop :=
  ∃ g cap, v = .slice (some ⟨g, 0, none⟩) rs.length cap ∧ g < n₀ ∧ rs.length ≤ cap ∧ ∀ r ps, rs[r]? = some ps → ∃ p, w.cell? ⟨g, r, none⟩ = some p ∧ PartsV w n₀ p ps

theorem RulesV.below {w w' : World} {n₀ : Nat} {v : Value} {rs : List (List Pt)} (h : RulesV w n₀ v rs) (hb : Below n₀ w w') : RulesV w' n₀ v rs := by
  obtain ⟨g, cap, h1, h2, h3, h4⟩ := h
  refine ⟨g, cap, h1, h2, h3, fun r ps hr => ?_⟩
  obtain ⟨p, h5, h6⟩ := h4 r ps hr
  exact ⟨p, (hb.cell (by exact h2)).trans h5, h6.below hb⟩

structure PGr (w : World) (n₀ : Nat) (N : NG) (tws : List ByteArray) (pg : List Nm) (adT : Option Addr) (capT gN capN : Nat) : Prop where
  ok : N.Ok
  leN : N.nN ≤ 20
  leT : N.nT ≤ 20
  leR : N.rules.length ≤ 60
  lT : N.nT ≤ capT
  lN : N.nN ≤ capN
  twl : tws.length = N.nT
  pgl : pg.length = N.nN
  hgN : gN < n₀
  rules : N.rules = pg.zipIdx.flatMap fun x => x.1.2.map fun ps => (x.2, ps)
  toks : ∀ t, t < N.nT → ∃ gT, adT = some ⟨gT, 0, none⟩ ∧ gT < n₀ ∧ w.cell? ⟨gT, t * 4, none⟩ = some (.string (nth tws t)) ∧ w.cell? ⟨gT, t * 4 + 1, none⟩ = some (.int .i64 (N.put t))
  toks2 : ∀ t, t < N.nT → ∃ gT gs cs, adT = some ⟨gT, 0, none⟩ ∧ gT < n₀ ∧ w.cell? ⟨gT, t * 4 + 2, none⟩ = some (.int .i64 (N.drop t)) ∧ w.cell? ⟨gT, t * 4 + 3, none⟩ = some (.slice (some ⟨gs, 0, none⟩) N.nT cs) ∧ gs < n₀ ∧ N.nT ≤ cs ∧ ∀ u, u < N.nT → w.cell? ⟨gs, u, none⟩ = some (.int .i64 (N.swp t u))
  names : ∀ n nm, pg[n]? = some nm → w.cell? ⟨gN, n * 2, none⟩ = some (.string nm.1) ∧ ∃ v, w.cell? ⟨gN, n * 2 + 1, none⟩ = some v ∧ RulesV w n₀ v nm.2

theorem PGr.below {w w' : World} {n₀ : Nat} {N : NG} {tws : List ByteArray} {pg : List Nm} {adT : Option Addr} {capT gN capN : Nat} (h : PGr w n₀ N tws pg adT capT gN capN) (hb : Below n₀ w w') : PGr w' n₀ N tws pg adT capT gN capN where
  ok := h.ok
  leN := h.leN
  leT := h.leT
  leR := h.leR
  lT := h.lT
  lN := h.lN
  twl := h.twl
  pgl := h.pgl
  hgN := h.hgN
  rules := h.rules
  toks := fun t ht => by
    obtain ⟨gT, h1, h2, h3, h4⟩ := h.toks t ht
    exact ⟨gT, h1, h2, (hb.cell (by exact h2)).trans h3, (hb.cell (by exact h2)).trans h4⟩
  toks2 := fun t ht => by
    obtain ⟨gT, gs, cs, h1, h2, h3, h4, h5, h6, h7⟩ := h.toks2 t ht
    exact ⟨gT, gs, cs, h1, h2, (hb.cell (by exact h2)).trans h3, (hb.cell (by exact h2)).trans h4, h5, h6, fun u hu => (hb.cell (by exact h5)).trans (h7 u hu)⟩
  names := fun n nm hn => by
    obtain ⟨h1, v, h2, h3⟩ := h.names n nm hn
    exact ⟨(hb.cell (by exact h.hgN)).trans h1, v, (hb.cell (by exact h.hgN)).trans h2, h3.below hb⟩

def faCells (k : List Fa) : List Value := k.flatMap fun a => [.int .i64 a.least, .bool a.reached, .int .u32 a.first, .int .u32 a.follow]

theorem flat4 {α : Type} (f : α → List Value) (hf : ∀ a, (f a).length = 4) : ∀ (l : List α) (i : Nat) (a : α) (j : Nat), l[i]? = some a → j < 4 → (l.flatMap f)[i * 4 + j]? = (f a)[j]? := by
  intro l
  induction l with
  | nil => intro i a j h; simp at h
  | cons x r ih =>
    intro i a j h hj
    rw [List.flatMap_cons]
    match i with
    | 0 =>
      simp at h; subst h
      rw [List.getElem?_append_left (by rw [hf]; omega)]
      congr 1; omega
    | i + 1 =>
      simp at h
      rw [List.getElem?_append_right (by rw [hf]; omega), hf]
      rw [← ih i a j h hj]
      congr 1; omega

/-- What is known of the names lies in block kb. -/
def KnV (w : World) (kb n : Nat) (k : List Fa) : Prop := k.length = n ∧ w.ownsRow kb 216 4 (.slice (some ⟨kb, 0, none⟩) n n) n (faCells k)

theorem KnV.cells {w : World} {kb n : Nat} {k : List Fa} (h : KnV w kb n k) {i : Nat} {a : Fa} (ha : k[i]? = some a) :
    w.cell? ⟨kb, i * 4, none⟩ = some (.int .i64 a.least) ∧ w.cell? ⟨kb, i * 4 + 1, none⟩ = some (.bool a.reached) ∧ w.cell? ⟨kb, i * 4 + 2, none⟩ = some (.int .u32 a.first) ∧ w.cell? ⟨kb, i * 4 + 3, none⟩ = some (.int .u32 a.follow) := by
  have hi := (List.getElem?_eq_some_iff.1 ha).1
  have hl := h.1
  have h4 := fun j hj => flat4 (fun a : Fa => [Value.int .i64 a.least, .bool a.reached, .int .u32 a.first, .int .u32 a.follow]) (fun _ => rfl) k i a j ha hj
  refine ⟨?_, ?_, ?_, ?_⟩
  · rw [h.2.cellAt _ (by omega)]; exact h4 0 (by omega)
  · rw [h.2.cellAt _ (by omega)]; exact h4 1 (by omega)
  · rw [h.2.cellAt _ (by omega)]; exact h4 2 (by omega)
  · rw [h.2.cellAt _ (by omega)]; exact h4 3 (by omega)

theorem KnV.free {w : World} {kb n : Nat} {k : List Fa} (h : KnV w kb n k) (j : Nat) : w.frozen? ⟨kb, j, none⟩ = false := h.2.frozenAt j
theorem KnV.lt {w : World} {kb n : Nat} {k : List Fa} (h : KnV w kb n k) : kb < w.heap.size := (h.2.lt kb rfl).2
theorem KnV.keeps {w w' : World} {kb n : Nat} {k : List Fa} {S : List Nat} (h : KnV w kb n k) (hk : Keeps w w' S) (hS : kb ∉ S) : KnV w' kb n k := ⟨h.1, own_keeps h.2 hk (fun g hg => by simp [Value.ownBlock] at hg; subst hg; exact hS)⟩

theorem faCells_modify (f : Fa → Fa) (j : Nat) (hj : j < 4) (u : Value) : ∀ (k : List Fa) (i : Nat), (∀ a, k[i]? = some a → [Value.int .i64 (f a).least, .bool (f a).reached, .int .u32 (f a).first, .int .u32 (f a).follow] = [Value.int .i64 a.least, .bool a.reached, .int .u32 a.first, .int .u32 a.follow].set j u) →
    i < k.length → faCells (k.modify i f) = (faCells k).set (i * 4 + j) u
  | [], i, _, h => by simp at h
  | b :: r, 0, h, _ => by
    have h1 := h b rfl
    unfold faCells
    simp only [List.modify_zero_cons, List.flatMap_cons]
    rw [h1, Nat.zero_mul, Nat.zero_add, List.set_append_left _ _ (by simpa using hj)]
  | b :: r, i + 1, h, hl => by
    have h1 := faCells_modify f j hj u r i (fun a ha => h a (by simpa using ha)) (by simpa using hl)
    unfold faCells at h1 ⊢
    simp only [List.modify_succ_cons, List.flatMap_cons]
    rw [h1, List.set_append_right _ _ (by simp; omega)]
    congr 2
    simp; omega

/-- One number of one fact is written. -/
theorem KnV.put {w : World} {kb n : Nat} {k : List Fa} (h : KnV w kb n k) {i : Nat} (hi : i < n) (f : Fa → Fa) (j : Nat) (hj : j < 4) (u : Value)
    (hf : ∀ a, k[i]? = some a → [Value.int .i64 (f a).least, .bool (f a).reached, .int .u32 (f a).first, .int .u32 (f a).follow] = [Value.int .i64 a.least, .bool a.reached, .int .u32 a.first, .int .u32 a.follow].set j u) :
    KnV (w.setCell ⟨kb, i * 4 + j, none⟩ u) kb n (k.modify i f) ∧ Keeps w (w.setCell ⟨kb, i * 4 + j, none⟩ u) [kb] := by
  refine ⟨⟨by rw [List.length_modify]; exact h.1, ?_⟩, (Keeps.refl w [kb]).setCell (by simp) _⟩
  rw [faCells_modify f j hj u k i hf (by rw [h.1]; exact hi)]
  exact (h.2.stored (i * 4 + j) u).1

end Go.Proofs.YtjjggdcnpndgjaaGreatDoor
