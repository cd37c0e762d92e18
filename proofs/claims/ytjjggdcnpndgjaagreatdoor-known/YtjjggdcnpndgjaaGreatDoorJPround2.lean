/- A region that draws its order and ends in a store, inside a round. Nothing of the program. -/
import Derived.Test.YtjjggdcnpndgjaaGreatDoorJPround
namespace Go.Proofs.YtjjggdcnpndgjaaGreatDoor

theorem wpAny_last {P : Program} {Q : Exit → Act → World → Prop} {S : World → Prop} {l : List Oper} {a : Act} {w : World} (hB : lastB l = true) (hS : S w.drew)
    (h : S w.drew → wpAnyH P .any (cutLast l).toArray (OnlyEnd fun a w => wpList P #[lastOf l] Q [lastOf l] a w) S l.length (Array.replicate l.length false) a w.drew) : wpAny P .any l.toArray Q l.length (Array.replicate l.length false) a w.drew := by
  have ho : l.getLast? = some (lastOf l) := by
    refine lastOf_spec l ?_
    intro e; subst e; cases hB
  have hpos : 0 < l.length := by cases l with | nil => simp at ho | cons _ _ => simp
  refine wpAny_uncut ho hB _ _ _ _ (by simp) ?_ ?_ (wpAny_of_held _ _ _ _ (h hS))
  · intro k o' hk hl
    rw [Array.getD_eq_getD_getElem?] at hl
    rcases Nat.lt_or_ge k l.length with h' | h'
    · simp [h'] at hl
    · simp [h'] at hl
  rw [Array.getD_eq_getD_getElem?, Array.getElem?_eq_getElem (by simp; omega)]
  simp

theorem wpIn_region_round_last {lp n : Nat} {P : Program} {id : Nat} {l : List Oper} {Q : Exit → Act → World → Prop} {a : Act} {w : World} (S : World → Prop) (hm : P.follows .mixedOrders = true) (hd : plainB l.toArray = true) (hQ : ¬ LetsOut Q) (hB : lastB l = true) (hS : S w.drew)
    (h : S w.drew → wpAnyH P .any (cutLast l).toArray (OnlyEnd fun a w => wpList P #[lastOf l] Q [lastOf l] a w) S l.length (Array.replicate l.length false) a w.drew) : (Code.region id l.toArray true).wpIn (Fence.wide.inRound lp) n P Q a w :=
  wpIn_region_any hm (wpAny_round hd hQ _ _ _ _ (by rw [List.size_toArray]; exact wpAny_last hB hS h))

end Go.Proofs.YtjjggdcnpndgjaaGreatDoor
