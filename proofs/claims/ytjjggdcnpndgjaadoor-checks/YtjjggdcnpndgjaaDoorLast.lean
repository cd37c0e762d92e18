/- A region that draws its order and ends in one operation that waits for all others (a store): the others under a condition S, in any order; then that one. Nothing of the program. -/
import Derived.WalkKit
import Derived.Deep.RegionHeld3
namespace Go.Proofs.YtjjggdcnpndgjaaDoor
open Go.RowKit

/-- What is asked behind a region, of a way that ends as it should; any other way is not borne. -/
def OnlyEnd (R : Act → World → Prop) : Exit → Act → World → Prop
  | .normal, a, w => R a w
  | _, _, _ => False

/-- The operation in whose place nothing is done. -/
def idle (o : Oper) : Oper := { o with op := .move (.const undef) }

/-- The last operation idle. -/
def cutLast : List Oper → List Oper
  | [] => []
  | [o] => [idle o]
  | o :: p :: r => o :: cutLast (p :: r)

theorem cutLast_length : ∀ l : List Oper, (cutLast l).length = l.length
  | [] => rfl
  | [_] => rfl
  | _ :: p :: r => by simp [cutLast, cutLast_length (p :: r)]

theorem cutLast_at : ∀ (l : List Oper) (i : Nat), i + 1 ≠ l.length → (cutLast l)[i]? = l[i]?
  | [], i, _ => rfl
  | [o], i, h => by
    match i with
    | 0 => simp at h
    | i + 1 => rfl
  | o :: p :: r, i, h => by
    match i with
    | 0 => rfl
    | i + 1 =>
      show (cutLast (p :: r))[i]? = (p :: r)[i]?
      exact cutLast_at (p :: r) i (by simp at h ⊢; omega)

theorem cutLast_end : ∀ (l : List Oper) (o : Oper), l.getLast? = some o → (cutLast l)[l.length - 1]? = some (idle o) ∧ l[l.length - 1]? = some o
  | [], o, h => by simp at h
  | [x], o, h => by simp at h; subst h; exact ⟨rfl, rfl⟩
  | x :: p :: r, o, h => by
    have := cutLast_end (p :: r) o (by simpa using h)
    refine ⟨?_, ?_⟩
    · show (x :: cutLast (p :: r))[(p :: r).length]? = _
      simpa using this.1
    · simpa using this.2

/-- The last one waits for each other, at one step or at two; none waits for itself or a later one; the last one is plain. -/
def lastB (l : List Oper) : Bool :=
  match l.getLast? with
  | none => false
  | some o => o.guard.isNone && (o.dst.isNone && ((List.range (l.length - 1)).all (fun j => o.after.toList.any fun e => Region.binds .any e && (e.on == j || ((l[e.on]?).map fun x => x.after.toList.any fun e2 => Region.binds .any e2 && e2.on == j).getD false)) &&
      (List.range l.length).all fun i => ((l[i]?).map fun x => x.after.toList.all fun e => decide (e.on < i)).getD true))

section
variable {P : Program} {Q : Exit → Act → World → Prop} {S : World → Prop}

theorem ready_cut (l : List Oper) (listed : Array Bool) : Region.ready .any (cutLast l).toArray listed = Region.ready .any l.toArray listed := by
  unfold Region.ready
  rw [List.size_toArray, List.size_toArray, cutLast_length]
  apply List.filter_congr
  intro i hi
  rw [List.mem_range] at hi
  congr 1
  by_cases h : i + 1 = l.length
  · cases hl : l.getLast? with
    | none => rw [List.getLast?_eq_none_iff] at hl; subst hl; simp at hi
    | some o =>
      have := cutLast_end l o hl
      have e : i = l.length - 1 := by omega
      rw [List.getElem?_toArray, List.getElem?_toArray, e, this.1, this.2]
      rfl
  · rw [List.getElem?_toArray, List.getElem?_toArray, cutLast_at l i h]

theorem yielded_cut (l : List Oper) (t : Array Value) : yielded (cutLast l).toArray t = yielded l.toArray t := by
  funext j
  unfold yielded
  rw [List.getElem?_toArray, List.getElem?_toArray]
  by_cases h : j + 1 = l.length
  · cases hl : l.getLast? with
    | none => rw [List.getLast?_eq_none_iff] at hl; subst hl; rfl
    | some o =>
      have := cutLast_end l o hl
      have e : j = l.length - 1 := by omega
      rw [e, this.1, this.2]
      rfl
  · rw [cutLast_at l j h]

theorem wp_onlyEnd {o : Oper} {a : Act} {w : World} {R : Act → World → Prop} {K K' : Act → World → Prop} (hK : ∀ a w, K a w → K' a w) (h : o.wp P a w K (OnlyEnd R) ∨ (o.asks P a w ∧ LetsOut (OnlyEnd R))) :
    o.wp P a w K' Q ∨ (o.asks P a w ∧ LetsOut Q) := by
  rcases h with h | ⟨_, a', w', h⟩
  · left
    unfold Oper.wp at *
    generalize (execOp a.eval o).run P w = r at *
    cases r with
    | ok n w' =>
      cases n <;> simp only [Oper.upon] at h ⊢ <;>
        first
          | exact hK _ _ h
          | exact Calls.mono h (fun e w'' he => by
              cases e with
              | returned v => exact hK _ _ he
              | panicked c => exact False.elim he
              | outgrown => obtain ⟨_, _, he⟩ := he; exact False.elim he)
          | exact Rows.mono h (fun _ _ he => hK _ _ he)
    | halt x w' =>
      cases x <;> simp only [Oper.upon] at h ⊢
      case panic v => exact False.elim h
  · exact False.elim h

/-- Nothing may come up: all have come up. -/
theorem ready_nil {l : List Oper} (hB : lastB l = true) {listed : Array Bool} (hs : listed.size = l.length) (h : Region.ready .any l.toArray listed = []) : ∀ i, i < l.length → listed.getD i true = true := by
  intro i
  induction i using Nat.strongRecOn with
  | _ i ih =>
    intro hi
    cases hv : listed.getD i true with
    | true => rfl
    | false =>
      have hmem : i ∈ Region.ready .any l.toArray listed := by
        rw [mem_ready]
        refine ⟨hv, l[i], by simp [hi], fun e he hb => ?_⟩
        unfold lastB at hB
        split at hB
        · cases hB
        · simp only [Bool.and_eq_true, List.all_eq_true, List.mem_range] at hB
          have h1 := hB.2.2.2 i hi
          rw [List.getElem?_eq_getElem hi] at h1
          simp only [Option.map_some, Option.getD_some, List.all_eq_true, decide_eq_true_eq] at h1
          have h2 := h1 e (by simpa using he)
          have h3 := ih e.on h2 (by omega)
          rw [Array.getD_eq_getD_getElem?] at h3 ⊢
          rw [Array.getElem?_eq_getElem (by omega)] at h3 ⊢
          simpa using h3
      rw [h] at hmem
      cases hmem

/-- What has come up came behind what it waits for. -/
def Closed (l : List Oper) (listed : Array Bool) : Prop := ∀ (k : Nat) (o : Oper), l[k]? = some o → listed.getD k false = true → ∀ e ∈ o.after, Region.binds .any e = true → listed.getD e.on false = true

theorem Closed.step {l : List Oper} {listed : Array Bool} (hc : Closed l listed) {i : Nat} (hi : i ∈ Region.ready .any l.toArray listed) : Closed l (listed.setIfInBounds i true) := by
  intro k o hk hl e he hb
  by_cases hki : i = k
  · subst hki
    obtain ⟨_, o', h1, h2⟩ := mem_ready.1 hi
    rw [List.getElem?_toArray, hk] at h1
    injection h1 with h1
    subst h1
    exact getD_set_true (h2 e he hb)
  · rw [getD_set_ne false hki] at hl
    exact getD_set_true (hc k o hk hl e he hb)

/-- Where the last one may come up, each other has come up. -/
theorem last_ready {l : List Oper} (hB : lastB l = true) {listed : Array Bool} (hc : Closed l listed) (h : l.length - 1 ∈ Region.ready .any l.toArray listed) : ∀ j, j + 1 < l.length → listed.getD j false = true := by
  intro j hj
  obtain ⟨_, o, ho, hall⟩ := mem_ready.1 h
  unfold lastB at hB
  split at hB
  · cases hB
  · rename_i o' hl
    have h2 := (cutLast_end l o' hl).2
    rw [List.getElem?_toArray, h2] at ho
    injection ho with ho
    subst ho
    simp only [Bool.and_eq_true, List.all_eq_true, List.mem_range] at hB
    have h3 := hB.2.2.1 j (by omega)
    rw [List.any_eq_true] at h3
    obtain ⟨e, he, h3⟩ := h3
    simp only [Bool.and_eq_true, Bool.or_eq_true, beq_iff_eq] at h3
    have h4 := hall e (by simpa using he) h3.1
    rcases h3.2 with h5 | h5
    · rw [h5] at h4; exact h4
    · cases hx : l[e.on]? with
      | none => rw [hx] at h5; simp at h5
      | some x =>
        rw [hx] at h5
        simp only [Option.map_some, Option.getD_some, List.any_eq_true, Bool.and_eq_true, beq_iff_eq] at h5
        obtain ⟨e2, he2, hb2, hj2⟩ := h5
        have := hc e.on x hx h4 e2 (by simpa using he2) hb2
        rw [hj2] at this
        exact this

theorem wpAny_uncut {l : List Oper} {o : Oper} (ho : l.getLast? = some o) (hB : lastB l = true) : ∀ (fuel : Nat) (listed : Array Bool) (a : Act) (w : World), listed.size = l.length → Closed l listed → listed.getD (l.length - 1) true = false →
    wpAny P .any (cutLast l).toArray (OnlyEnd fun a w => wpList P #[o] Q [o] a w) fuel listed a w → wpAny P .any l.toArray Q fuel listed a w := by
  have hpos : 0 < l.length := by cases l with | nil => simp at ho | cons _ _ => simp
  intro fuel
  induction fuel with
  | zero =>
    intro listed a w hs hcl hl h
    have h1 := h.1
    rw [ready_cut] at h1
    have := ready_nil hB hs h1 (l.length - 1) (by omega)
    rw [hl] at this; cases this
  | succ fuel ih =>
    intro listed a w hs hcl hl h
    refine ⟨fun h1 => ?_, fun i hi => ?_⟩
    · have := ready_nil hB hs h1 (l.length - 1) (by omega)
      rw [hl] at this; cases this
    · have h2 := h.2 i (by rw [ready_cut]; exact hi)
      unfold wpOp at h2 ⊢
      have hio : ∃ oi, l[i]? = some oi := by
        obtain ⟨_, oi, h3, _⟩ := mem_ready.1 hi
        exact ⟨oi, by simpa using h3⟩
      obtain ⟨oi, hoi⟩ := hio
      by_cases hlast : i + 1 = l.length
      · have e : i = l.length - 1 := by omega
        subst e
        have hc := cutLast_end l o ho
        rw [List.getElem?_toArray, hc.1] at h2
        rw [List.getElem?_toArray, hc.2]
        have hg : o.guard = none ∧ o.dst = none := by
          unfold lastB at hB
          rw [ho] at hB
          simp only [Bool.and_eq_true, Option.isNone_iff_eq_none] at hB
          exact ⟨hB.1, hB.2.1⟩
        have hw1 : Region.wanted (idle o) (yielded (cutLast l).toArray a.tmps) = true := by
          unfold Region.wanted idle; rw [hg.1]
        have hw2 : Region.wanted o (yielded l.toArray a.tmps) = true := by
          unfold Region.wanted; rw [hg.1]
        have hw3 : Region.wanted o (yielded #[o] a.tmps) = true := by
          unfold Region.wanted; rw [hg.1]
        simp only [hw1, hw2, if_true] at h2 ⊢
        have hnil : Region.ready .any l.toArray (listed.setIfInBounds (l.length - 1) true) = [] := by
          rw [List.eq_nil_iff_forall_not_mem]
          intro j hj
          obtain ⟨h4, oj, h5, _⟩ := mem_ready.1 hj
          have hjl : j < l.length := by
            rw [List.getElem?_toArray] at h5
            exact (List.getElem?_eq_some_iff.1 h5).1
          by_cases hjl' : j = l.length - 1
          · subst hjl'
            simp [hs] at h4
          · rw [getD_set_ne true (Ne.symm hjl')] at h4
            have h6 := last_ready hB hcl hi j (by omega)
            rw [Array.getD_eq_getD_getElem?, Array.getElem?_eq_getElem (by omega)] at h4 h6
            simp at h4 h6
            rw [h4] at h6; cases h6
        have hend : wpList P #[o] Q [o] a w := by
          rcases h2 with h2 | ⟨_, a', w', h2⟩
          · have h7 : (idle o).wp P a w (wpAny P .any (cutLast l).toArray (OnlyEnd fun a w => wpList P #[o] Q [o] a w) fuel (listed.setIfInBounds (l.length - 1) true)) (OnlyEnd fun a w => wpList P #[o] Q [o] a w) := h2
            unfold Oper.wp at h7
            have hr : (execOp a.eval (idle o)).run P w = .ok (.value undef) w := by
              simp [execOp, idle, Act.eval]
            rw [hr] at h7
            have h8 : wpAny P .any (cutLast l).toArray (OnlyEnd fun a w => wpList P #[o] Q [o] a w) fuel (listed.setIfInBounds (l.length - 1) true) (a.put o.dst undef) w := h7
            rw [hg.2] at h8
            have h9 : a.put none undef = a := rfl
            rw [h9] at h8
            cases fuel with
            | zero => exact h8.2
            | succ f => exact h8.1 (by rw [ready_cut]; exact hnil)
          · exact False.elim h2
        unfold wpList at hend
        rw [hw3, if_pos rfl] at hend
        refine hend.imp (fun h => Oper.wp_mono (fun a' w' h' => ?_) h) id
        cases fuel with
        | zero => exact ⟨hnil, h'⟩
        | succ f => exact ⟨fun _ => h', by rw [hnil]; simp⟩
      · rw [List.getElem?_toArray, cutLast_at l i hlast, hoi] at h2
        rw [List.getElem?_toArray, hoi]
        simp only at h2 ⊢
        rw [yielded_cut] at h2
        have hs' : (listed.setIfInBounds i true).size = l.length := by simp [hs]
        have hcl' := hcl.step hi
        have hl' : (listed.setIfInBounds i true).getD (l.length - 1) true = false := by rw [getD_set_ne true (by omega)]; exact hl
        split at h2
        · rename_i hw
          rw [if_pos hw]
          exact wp_onlyEnd (fun a' w' h' => ih _ a' w' hs' hcl' hl' h') h2
        · rename_i hw
          rw [if_neg hw]
          exact ih _ _ _ hs' hcl' hl' h2

/-- The last of a list, to be laid out by its own equations. -/
def lastOf : List Oper → Oper
  | [] => default
  | [o] => o
  | _ :: p :: r => lastOf (p :: r)

theorem lastOf_spec : ∀ (l : List Oper), l ≠ [] → l.getLast? = some (lastOf l)
  | [], h => absurd rfl h
  | [o], _ => rfl
  | x :: p :: r, _ => by
    have := lastOf_spec (p :: r) (by simp)
    show (x :: p :: r).getLast? = some (lastOf (p :: r))
    rw [List.getLast?_cons_cons]; exact this

/-- THE LAW: all but the last operation under S; then the last one, as a walk's list. -/
theorem wp_region_last {id : Nat} {l : List Oper} {a : Act} {w : World} (S : World → Prop) (hm : P.follows .mixedOrders = true) (hB : lastB l = true) (hS : S w.drew)
    (h : S w.drew → wpAnyH P .any (cutLast l).toArray (OnlyEnd fun a w => wpList P #[lastOf l] Q [lastOf l] a w) S l.length (Array.replicate l.length false) a w.drew) : (Code.region id l.toArray true).wp P Q a w := by
  refine wp_region_any hm ?_
  have ho : l.getLast? = some (lastOf l) := by
    refine lastOf_spec l ?_
    intro e; subst e; cases hB
  have hpos : 0 < l.length := by cases l with | nil => simp at ho | cons _ _ => simp
  rw [List.size_toArray]
  refine wpAny_uncut ho hB _ _ _ _ (by simp) ?_ ?_ (wpAny_of_held _ _ _ _ (h hS))
  · intro k o' hk hl
    rw [Array.getD_eq_getD_getElem?] at hl
    rcases Nat.lt_or_ge k l.length with h' | h'
    · simp [h'] at hl
    · simp [h'] at hl
  rw [Array.getD_eq_getD_getElem?, Array.getElem?_eq_getElem (by simp; omega)]
  simp

end
end Go.Proofs.YtjjggdcnpndgjaaDoor
