import Derived.Test.YtjjggdcnpndgjaaDoorWgive2
import Derived.Test.YtjjggdcnpndgjaaDoorWgive4
import Derived.Test.YtjjggdcnpndgjaaDoorGram4
namespace Go.Proofs.YtjjggdcnpndgjaaDoor
open Go.RowKit

theorem GrV.below {w w1 : World} {B gb : Nat} {G : Gr} {vT vS vN vR : Value} {pv : List Value} (h : GrV w B gb G vT vS vN vR pv) (hb : Below w.heap.size w w1) : GrV w1 B gb G vT vS vN vR pv :=
  h.keeps (Keeps.of_below hb []) (by simp) (by simp) (by simp) (by simp) (by simp) (by simp)

theorem GrAt.below {w w1 : World} {B gb : Nat} {G : Gr} (h : GrAt w B gb G) (hb : Below w.heap.size w w1) : GrAt w1 B gb G := by
  obtain ⟨vT, vS, vN, vR, pv, hV⟩ := h
  exact ⟨vT, vS, vN, vR, pv, hV.below hb⟩

/-- (*Grammar).give: whatever line: what it makes of the grammar, and what it tells. w0: the world ahead of the line's words. -/
theorem give_any (l : List ByteArray) (g n cap : Nat) (G : Gr) (w0 w : World) (B gb : Nat) (hG : GrAt w0 B gb G) (hb : Below w0.heap.size w0 w) (hB : B ≤ w0.heap.size) (hle : GrLe G 100000) (hg : w0.heap.size ≤ g)
    (hl : l.length = n) (hn : 1 ≤ n) (hnb : n ≤ 4001) (hc : StrsAt w g 0 l) (hline : isLineB l = true) :
    Calls Tryd.prog 11 #[.pointer (some ⟨gb, 0, none⟩), .slice (some ⟨g, 0, none⟩) n cap] w fun e w' =>
      e = .returned (.int .i64 (giveB G l).2) ∧ GrAt w' B gb (giveB G l).1 ∧ Below B w w' := by
  obtain ⟨vT, vS, vN, vR, pv, hV0⟩ := hG
  have hgb := lt_of_block hV0.blk
  have hV := hV0.below hb
  obtain ⟨l1, l2, l3, l4⟩ := hle
  have hBw : B ≤ w.heap.size := Nat.le_trans hB hb.size
  have ne : ∀ {v : Value}, (∀ k, v.ownBlock = some k → k < w0.heap.size) → v.ownBlock ≠ some g := fun h e => by have := h g e; omega
  have nT := ne fun k hk => own_lt hV0.toks hk
  have nS := ne fun k hk => own_lt hV0.swps hk
  have nN := ne fun k hk => own_lt hV0.names hk
  have nR := ne fun k hk => own_lt hV0.rules hk
  have ngb : g ≠ gb := by omega
  have hGw : GrAt w B gb G := ⟨_, _, _, _, _, hV⟩
  have same : ∀ {G' : Gr} {x : Int}, G' = G → (∀ {e : Ending} {w' : World}, e = .returned (.int .i64 x) ∧ w = w' → e = .returned (.int .i64 x) ∧ GrAt w' B gb G' ∧ Below B w w') := by
    intro G' x hGG e w' h
    obtain ⟨h1, rfl⟩ := h
    subst hGG
    exact ⟨h1, hGw, Below.refl _ _⟩
  cases ht : ((nth l 0).toList == [116, 111, 107, 101, 110])
  case true =>
    obtain ⟨h4, _, hn2, hn3⟩ := line_tok hline ht
    have hx : giveB G l = (if hasTok G.toks (nth l 1) then (G, 3) else ({ G with toks := G.toks ++ [(nth l 1, valD (nth l 2).data.toList, valD (nth l 3).data.toList)] }, totI { G with toks := G.toks ++ [(nth l 1, valD (nth l 2).data.toList, valD (nth l 3).data.toList)] } false)) := by
      unfold giveB; rw [if_pos ht]
    cases hh : hasTok G.toks (nth l 1)
    · rw [hx, hh]
      exact give_tok l g n cap G w B gb vT vS vN vR pv hV (by omega) (by omega) (by omega) hBw hl (by omega) hc ht (num_size hn2).1 (num_size hn3).1 (num_size hn2).2 (num_size hn3).2 hh ngb nT
    · rw [hx, hh]
      exact (give_twice l g n cap G w B gb hGw (by omega) hl (by omega) hc ht hh).mono fun e w' h => same rfl h
  case false =>
  cases hw : ((nth l 0).toList == [115, 119, 97, 112])
  case true =>
    obtain ⟨h4, _, _, hn3⟩ := line_swap hline ht hw
    have hx : giveB G l = ({ G with swps := G.swps ++ [(nth l 1, nth l 2, valD (nth l 3).data.toList)] }, totI { G with swps := G.swps ++ [(nth l 1, nth l 2, valD (nth l 3).data.toList)] } false) := by
      unfold giveB; rw [if_neg (by simp [ht]), if_pos hw]
    rw [hx]
    exact give_swap l g n cap G w B gb vT vS vN vR pv hV (by omega) (by omega) (by omega) (by omega) hBw hl (by omega) hc ht hw (num_size hn3).1 (num_size hn3).2 ngb nS
  case false =>
  cases hr : ((nth l 0).toList == [114, 117, 108, 101])
  case true =>
    obtain ⟨h3, _, _⟩ := line_rule hline ht hw hr
    have hx : giveB G l = (if hasNam G.names (nth l 1) then (G, 3)
     else ({ G with names := G.names ++ [nth l 1], rules := (rst G.rules (nth l 1) (l.drop 3)).1 ++ [(nth l 1, (rst G.rules (nth l 1) (l.drop 3)).2.1)] },
      totI { G with names := G.names ++ [nth l 1], rules := (rst G.rules (nth l 1) (l.drop 3)).1 ++ [(nth l 1, (rst G.rules (nth l 1) (l.drop 3)).2.1)] } (rst G.rules (nth l 1) (l.drop 3)).2.2)) := by
      unfold giveB; rw [if_neg (by simp [ht]), if_neg (by simp [hw]), if_pos hr]
    cases hh : hasNam G.names (nth l 1)
    · rw [hx, hh]
      exact give_rule l g n cap G w B gb vT vS vN vR pv hV (by omega) (by omega) (by omega) hBw hl (by omega) hnb hc ht hw hr hh ngb nN nR
    · rw [hx, hh]
      exact (give_twiceName l g n cap G w B gb hGw (by omega) hl (by omega) hc ht hw hr hh).mono fun e w' h => same rfl h
  case false =>
    have hx : giveB G l = (G, totI G false) := by
      unfold giveB; rw [if_neg (by simp [ht]), if_neg (by simp [hw]), if_neg (by simp [hr])]
    rw [hx]
    exact (give_none l g n cap G w B gb vT vS vN vR pv hV (by omega) (by omega) (by omega) hl hn hc ht hw hr).mono fun e w' h => same rfl h

end Go.Proofs.YtjjggdcnpndgjaaDoor
