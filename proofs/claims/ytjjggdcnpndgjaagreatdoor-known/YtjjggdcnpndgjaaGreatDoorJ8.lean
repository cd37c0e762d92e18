/- (*Grammar).heads. (*Grammar).heads, walked. -/
import Derived.Test.YtjjggdcnpndgjaaGreatDoorJWspeaks
import Derived.Test.YtjjggdcnpndgjaaGreatDoorJ1
import Derived.Laws.MakeOwn
namespace Go.Proofs.YtjjggdcnpndgjaaGreatDoor
open Go.RowKit

/-- make([]T, n): the world behind it, written out. -/
theorem wpList_make_exact {P : Program} (w : World) {ops : Array Oper} {rest : List Oper} {o : Oper} {a : Act} {Q : Exit → Act → World → Prop}
    (hg : o.guard = none) (l c : Operand) (t : TypeId) (hop : o.op = Op.makeSlice t l c)
    (e : TypeId) (i : TypeInfo) (z : Value) (h1 : P.underlying t = some (.slice e)) (h2 : P.info? e = some i) (h3 : i.zero = some z)
    (L C : Int) (n : Nat) (hl : a.eval l = .int .i64 L) (hc : a.eval c = .int .i64 C) (hL : L = (n : Int)) (hC : C = (n : Int)) (b2 : (i.bytes : Int) * (n : Int) ≤ 281474976710656) (b3 : (n : Int) ≤ 9223372036854775807)
    (hK : wpList P ops Q rest (a.put o.dst (.slice (some ⟨w.heap.size, 0, none⟩) n n)) (w.alloc (.cells (madeCells z.cells (n * i.size)) e))) :
    wpList P ops Q (o :: rest) a w := by
  refine wpList_plain hg fun K hK' => ?_
  have hrun := run_make (P := P) w t e i z h1 h2 h3 .i64 .i64 n n (by omega) (Int.le_refl _) b2 b3
  simp only [Int.toNat_natCast] at hrun
  subst hL
  subst hC
  unfold Oper.wp
  simp [execOp, hop, hl, hc, hrun, Result.andThen]
  exact hK' _ _ hK

/-- The first k rows are laid. -/
structure MatK (w : World) (b : Nat) (N : NG) (k : Nat) : Prop where
  top : w.ownsRow b 150 1 (.slice (some ⟨b, 0, none⟩) N.nN N.nN) N.nN (rowVals b (N.nT + 1) k ++ List.replicate (N.nN - k) (.slice none 0 0))
  rows : ∀ n, n < k → w.ownsRow b 4 1 (rowSl b (N.nT + 1) n) (N.nT + 1) (bools (row0 N))
  size : w.heap.size = b + 1 + k

theorem MatK.start (w : World) (N : NG) (hn : N.nN ≤ 20) : MatK (w.alloc (.cells (madeCells #[Value.slice none 0 0] N.nN) 150)) w.heap.size N 0 where
  top := by
    have := World.ownsRow_lit (base := w.heap.size) (e := 150) (size := 1) w (madeCells #[Value.slice none 0 0] N.nN) N.nN (Nat.le_refl _) (by unfold maxLen; omega) (by rw [size_madeCells, Nat.mul_one])
    rw [toList_madeCells_one] at this
    simpa [rowVals] using this
  rows := fun n h => by omega
  size := by simp

theorem MatK.done {w : World} {b : Nat} {N : NG} (h : MatK w b N N.nN) : Mat w b N (List.replicate N.nN (row0 N)) where
  ok := mok0 N
  top := by have := h.top; rw [Nat.sub_self] at this; simpa using this
  rows := fun n hn => by
    have : mAt (List.replicate N.nN (row0 N)) n = row0 N := by
      unfold mAt; rw [List.getD_eq_getElem?_getD, List.getElem?_replicate, if_pos hn]; rfl
    rw [this]; exact h.rows n hn

end Go.Proofs.YtjjggdcnpndgjaaGreatDoor

namespace Go.Proofs.YtjjggdcnpndgjaaGreatDoor
open Go.RowKit

end Go.Proofs.YtjjggdcnpndgjaaGreatDoor
