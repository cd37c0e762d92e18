/- Blocks of other kinds. What source.built lays: parts, rules, names and tokens. Pure: what source.built has laid behind so many lines, rules, words. (*source.Grammar).noteSwaps, walked. -/
import Derived.Test.YtjjggdcnpndgjaaGreatDoorJ1
import Derived.Test.YtjjggdcnpndgjaaGreatDoorJ14
import Derived.Test.YtjjggdcnpndgjaaGreatDoorJ15
namespace Go.Proofs.YtjjggdcnpndgjaaGreatDoor
open Go.RowKit

/-- No block of this kind is in S. -/
def Off (w : World) (S : List Nat) (t : Nat) : Prop := ∀ g c, w.heap[g]? = some (.cells c t (0, 0)) → g ∉ S

theorem own_off {w : World} {B e sz n : Nat} {v : Value} {xs : List Value} {S : List Nat} (h : w.ownsRow B e sz v n xs) (ho : Off w S e) : ∀ g, v.ownBlock = some g → g ∉ S := fun g hg => by
  obtain ⟨c, hc⟩ := own_kind h hg
  exact ho g c hc
theorem off_own {w : World} {B e e' sz n : Nat} {v : Value} {xs : List Value} (h : w.ownsRow B e' sz v n xs) (hne : e ≠ e') : Off w v.ownBlock.toList e := fun g c hc hm => by
  obtain ⟨c', hc'⟩ := own_kind h (mem_own hm)
  rw [hc] at hc'
  injection hc' with hc'
  injection hc' with _ he
  exact hne he
theorem off_nil (w : World) (e : Nat) : Off w [] e := fun g c _ hm => by cases hm
theorem kind_ne {w : World} {a b : Nat} {c d : Array Value} {s t : Nat} {fr fr' : Nat × Nat} (ha : w.heap[a]? = some (.cells c s fr)) (hb : w.heap[b]? = some (.cells d t fr')) (h : s ≠ t) : a ≠ b := fun e => by
  subst e
  rw [ha] at hb
  injection hb with hb
  injection hb with _ hb
  exact h hb

end Go.Proofs.YtjjggdcnpndgjaaGreatDoor

namespace Go.Proofs.YtjjggdcnpndgjaaGreatDoor
open Go.RowKit Go.Shelf

theorem own_agree {w W : World} {B e sz n : Nat} {v : Value} {xs : List Value} (h : w.ownsRow B e sz v n xs) (hW : ∀ q, B ≤ q → q < w.heap.size → W.heap[q]? = w.heap[q]?) : W.ownsRow B e sz v n xs := by
  obtain ⟨h1, h2⟩ := h
  refine ⟨h1, ?_⟩
  rcases h2 with h2 | ⟨g, cap, cur, hv, hg, hh, r⟩
  · exact .inl h2
  · exact .inr ⟨g, cap, cur, hv, hg, by rw [hW g hg (lt_of_block hh)]; exact hh, r⟩

def ptCells (ps : List Pt) : List Value := ps.flatMap fun p => [.bool (isNam p), .int .i64 (numOf p)]
abbrev Tk := ByteArray × Nat × Nat
/-- The tokens' cells: a word, two costs, a row of swaps. -/
def tkOne (t : Tk) (v : Value) : List Value := [.string t.1, .int .i64 (t.2.1 : Int), .int .i64 (t.2.2 : Int), v]
def tkCells (T : List Tk) : List Value := T.flatMap fun t => tkOne t (.slice none 0 0)
def tkCellsS (T : List Tk) (f : Nat → Value) : List Value := T.zipIdx.flatMap fun x => tkOne x.1 (f x.2)
def nmCells (M : List Nm) (pv : List Value) : List Value := (M.zip pv).flatMap fun t => [.string t.1.1, t.2]

def PrtM (w : World) (B : Nat) (v : Value) (ps : List Pt) : Prop := w.ownsRow B 235 2 v ps.length (ptCells ps)
structure RulM (w : World) (B : Nat) (v : Value) (rs : List (List Pt)) (pvs : List Value) : Prop where
  row : w.ownsRow B 228 1 v rs.length pvs
  each : ∀ (i : Nat) ps p, rs[i]? = some ps → pvs[i]? = some p → PrtM w B p ps
structure BtV (w : World) (B gb n : Nat) (TC : List Value) (M : List Nm) (vT vN : Value) (pv : List Value) : Prop where
  blk : w.heap[gb]? = some (.cells #[vT, vN] 135 (0, 0))
  hb : B ≤ gb
  toks : w.ownsRow B 268 4 vT n TC
  names : w.ownsRow B 219 2 vN M.length (nmCells M pv)
  pvl : pv.length = M.length
  ruls : ∀ (i : Nat) nm p, M[i]? = some nm → pv[i]? = some p → ∃ pvs, RulM w B p nm.2 pvs

section
variable {w w1 : World} {B gb : Nat} {S : List Nat}

theorem RulM.keeps {v : Value} {rs : List (List Pt)} {pvs : List Value} (h : RulM w B v rs pvs) (hk : Keeps w w1 S) (h1 : Off w S 228) (h2 : Off w S 235) : RulM w1 B v rs pvs :=
  ⟨own_keeps h.row hk (own_off h.row h1), fun i ps p hr hp => own_keeps (h.each i ps p hr hp) hk (own_off (h.each i ps p hr hp) h2)⟩
theorem RulM.base {B' : Nat} {v : Value} {rs : List (List Pt)} {pvs : List Value} (h : RulM w B v rs pvs) (hB : B' ≤ B) : RulM w B' v rs pvs :=
  ⟨ownsRow_base h.row hB, fun i ps p hr hp => ownsRow_base (h.each i ps p hr hp) hB⟩
theorem RulM.setOther {v u : Value} {rs : List (List Pt)} {pvs : List Value} {j : Nat} {cs : Array Value} {t : Nat} {fr : Nat × Nat} (h : RulM w B v rs pvs) (hb : w.heap[gb]? = some (.cells cs t fr)) (h1 : 228 ≠ t) (h2 : 235 ≠ t) : RulM (w.setCell ⟨gb, j, none⟩ u) B v rs pvs :=
  ⟨row_over' h.row hb h1, fun i ps p hr hp => row_over' (h.each i ps p hr hp) hb h2⟩

theorem BtV.cells {n : Nat} {TC : List Value} {M : List Nm} {vT vN : Value} {pv : List Value} (h : BtV w B gb n TC M vT vN pv) : w.cell? ⟨gb, 0, none⟩ = some vT ∧ w.cell? ⟨gb, 1, none⟩ = some vN ∧ w.frozen? ⟨gb, 0, none⟩ = false ∧ w.frozen? ⟨gb, 1, none⟩ = false :=
  ⟨block_cell h.blk, block_cell h.blk, block_free h.blk, block_free h.blk⟩

theorem BtV.below {n : Nat} {TC : List Value} {M : List Nm} {vT vN : Value} {pv : List Value} (h : BtV w B gb n TC M vT vN pv) (hb : Below w.heap.size w w1) : BtV w1 B gb n TC M vT vN pv :=
  ⟨(hb.block gb (lt_of_block h.blk)).trans h.blk, h.hb, own_keeps h.toks (Keeps.of_below hb []) (by simp), own_keeps h.names (Keeps.of_below hb []) (by simp), h.pvl,
   fun i nm p hm hp => by obtain ⟨pvs, hr⟩ := h.ruls i nm p hm hp; exact ⟨pvs, hr.keeps (Keeps.of_below hb []) (off_nil _ _) (off_nil _ _)⟩⟩

theorem BtV.addTok {n : Nat} {T : List Tk} {M : List Nm} {vT vN v' : Value} {pv : List Value} (h : BtV w B gb n (tkCells T) M vT vN pv) (hk : Keeps w w1 vT.ownBlock.toList) {t : Tk}
    (hown : w1.ownsRow B 268 4 v' (n + 1) (tkCells T ++ tkOne t (.slice none 0 0))) : BtV (w1.setCell ⟨gb, 0, none⟩ v') B gb (n + 1) (tkCells (T ++ [t])) M v' vN pv := by
  have hgb : gb ∉ vT.ownBlock.toList := fun hm => own_not_block h.toks h.blk (by decide) (mem_own hm)
  have hb1 := (hk.block gb (lt_of_block h.blk) hgb).trans h.blk
  refine ⟨cells_set hb1 v', h.hb, ?_, ?_, h.pvl, fun i nm p hm hp => ?_⟩
  · have e : tkCells (T ++ [t]) = tkCells T ++ tkOne t (.slice none 0 0) := by simp [tkCells]
    rw [e]
    exact row_over' hown hb1 (by decide)
  · exact row_over h.names hk (own_off h.names (off_own h.toks (by decide))) (fun g hg e => own_not_block h.names h.blk (by decide) (e ▸ hg))
  · obtain ⟨pvs, hr⟩ := h.ruls i nm p hm hp
    exact ⟨pvs, (hr.keeps hk (off_own h.toks (by decide)) (off_own h.toks (by decide))).setOther hb1 (by decide) (by decide)⟩

theorem BtV.addName {n : Nat} {TC : List Value} {M : List Nm} {vT vN v' vR : Value} {pv pvs : List Value} (h : BtV w B gb n TC M vT vN pv) (hk : Keeps w w1 vN.ownBlock.toList) {nm : Nm} (hR : RulM w B vR nm.2 pvs)
    (hown : w1.ownsRow B 219 2 v' (M.length + 1) (nmCells M pv ++ [.string nm.1, vR])) : BtV (w1.setCell ⟨gb, 1, none⟩ v') B gb n TC (M ++ [nm]) vT v' (pv ++ [vR]) := by
  have hgb : gb ∉ vN.ownBlock.toList := fun hm => own_not_block h.names h.blk (by decide) (mem_own hm)
  have hb1 := (hk.block gb (lt_of_block h.blk) hgb).trans h.blk
  have hl := h.pvl
  refine ⟨cells_set hb1 v', h.hb, ?_, ?_, by simp [hl], fun i q p hm hp => ?_⟩
  · exact row_over h.toks hk (own_off h.toks (off_own h.names (by decide))) (fun g hg e => own_not_block h.toks h.blk (by decide) (e ▸ hg))
  · have e : nmCells (M ++ [nm]) (pv ++ [vR]) = nmCells M pv ++ [.string nm.1, vR] := by
      unfold nmCells
      rw [List.zip_append hl.symm]
      simp
    rw [e, List.length_append]
    exact row_over' hown hb1 (by decide)
  · have keep : ∀ {v : Value} {rs : List (List Pt)} {ps : List Value}, RulM w B v rs ps → RulM (w1.setCell ⟨gb, 1, none⟩ v') B v rs ps := fun hr => (hr.keeps hk (off_own h.names (by decide)) (off_own h.names (by decide))).setOther hb1 (by decide) (by decide)
    by_cases hi : i < M.length
    · rw [List.getElem?_append_left hi] at hm
      rw [List.getElem?_append_left (by omega)] at hp
      obtain ⟨ps, hr⟩ := h.ruls i q p hm hp
      exact ⟨ps, keep hr⟩
    · rw [List.getElem?_append_right (by omega)] at hm
      rw [List.getElem?_append_right (by omega)] at hp
      obtain ⟨h1, _⟩ := List.getElem?_eq_some_iff.1 hm
      simp at h1
      rw [show i - M.length = 0 by omega] at hm
      rw [show i - pv.length = 0 by omega] at hp
      simp at hm hp
      subst hm; subst hp
      exact ⟨pvs, keep hR⟩
end

theorem RulM.push {w w1 : World} {B : Nat} {v v' p : Value} {rs : List (List Pt)} {ps : List Pt} {pvs : List Value} (h : RulM w B v rs pvs) (hp : PrtM w B p ps) (hk : Keeps w w1 v.ownBlock.toList) (hown : w1.ownsRow B 228 1 v' (rs.length + 1) (pvs ++ [p])) : RulM w1 B v' (rs ++ [ps]) (pvs ++ [p]) := by
  have hpl : pvs.length = rs.length := by have := h.row.1; omega
  refine ⟨by rw [List.length_append]; exact hown, fun i q u hq hu => ?_⟩
  by_cases hi : i < rs.length
  · rw [List.getElem?_append_left hi] at hq
    rw [List.getElem?_append_left (by omega)] at hu
    exact own_keeps (h.each i q u hq hu) hk (own_off (h.each i q u hq hu) (off_own h.row (by decide)))
  · rw [List.getElem?_append_right (by omega)] at hq
    rw [List.getElem?_append_right (by omega)] at hu
    obtain ⟨h1, _⟩ := List.getElem?_eq_some_iff.1 hq
    simp at h1
    rw [show i - rs.length = 0 by omega] at hq
    rw [show i - pvs.length = 0 by omega] at hu
    simp at hq hu
    subst hq; subst hu
    exact own_keeps hp hk (own_off hp (off_own h.row (by decide)))

/-- The grammar's own cells are written as they were. -/
theorem BtV.again {w : World} {B gb : Nat} {n : Nat} {TC : List Value} {M : List Nm} {vT vN : Value} {pv : List Value} (h : BtV w B gb n TC M vT vN pv) : BtV ((w.setCell ⟨gb, 0, none⟩ vT).setCell ⟨gb, 1, none⟩ vN) B gb n TC M vT vN pv := by
  have hb0 := cells_set (j := 0) h.blk vT
  have hb1 := cells_set (j := 1) hb0 vN
  refine ⟨hb1, h.hb, ?_, ?_, h.pvl, fun i nm p hm hp => ?_⟩
  · exact row_over' (row_over' h.toks h.blk (by decide)) hb0 (by decide)
  · exact row_over' (row_over' h.names h.blk (by decide)) hb0 (by decide)
  · obtain ⟨pvs, hr⟩ := h.ruls i nm p hm hp
    exact ⟨pvs, (hr.setOther h.blk (by decide) (by decide)).setOther hb0 (by decide) (by decide)⟩

theorem RulM.view {w : World} {B n₀ : Nat} {v : Value} {rs : List (List Pt)} {pvs : List Value} (h : RulM w B v rs pvs) (h0 : 0 < rs.length) (hn : w.heap.size ≤ n₀) : RulesV w n₀ v rs := by
  obtain ⟨g, cap, rfl, _, hlt, hc⟩ := owned_shape h.row h0
  refine ⟨g, cap, rfl, by omega, hc, fun r ps hr => ?_⟩
  have hi := (List.getElem?_eq_some_iff.1 hr).1
  have hpl : pvs.length = rs.length := by have := h.row.1; omega
  obtain ⟨p, hp⟩ : ∃ p, pvs[r]? = some p := ⟨_, List.getElem?_eq_getElem (by omega)⟩
  refine ⟨p, by rw [h.row.cellAt r (by omega)]; exact hp, ?_⟩
  have hP : w.ownsRow B 235 2 p ps.length (ptCells ps) := h.each r ps p hr hp
  rcases hP.2 with ⟨h1, h2⟩ | ⟨g2, cap2, cur, h1, _, hh, hnc, _⟩
  · exact ⟨none, 0, by rw [h2]; exact h1, by omega, fun h => by omega⟩
  · subst h1
    refine ⟨_, cap2, rfl, hnc, fun _ => ⟨g2, 0, rfl, by have := lt_of_block hh; omega, fun i q hq => ?_⟩⟩
    have hil := (List.getElem?_eq_some_iff.1 hq).1
    have h2 := fun j hj => flat2 (fun p : Pt => [Value.bool (isNam p), .int .i64 (numOf p)]) (fun _ => rfl) ps i q j hq hj
    rw [Nat.zero_add]
    refine ⟨?_, ?_⟩
    · rw [hP.cellAt _ (by omega)]; exact h2 0 (by omega)
    · rw [hP.cellAt _ (by omega)]; exact h2 1 (by omega)

/-- The rows of swaps, in blocks one behind the other. -/
def SwM (w : World) (b n : Nat) (S : Nat → Nat → Nat) : Prop := ∀ t, t < n → w.heap[b + t]? = some (.cells ((List.range n).map fun u => Value.int .i64 (S t u : Int)).toArray 3 (0, 0))
def swV (b n t : Nat) : Value := .slice (some ⟨b + t, 0, none⟩) n n

theorem SwM.agree {w W : World} {b n B : Nat} {S : Nat → Nat → Nat} (h : SwM w b n S) (hB : B ≤ b) (hW : ∀ q, B ≤ q → q < w.heap.size → W.heap[q]? = w.heap[q]?) : SwM W b n S :=
  fun t ht => (hW (b + t) (by omega) (lt_of_block (h t ht))).trans (h t ht)
theorem SwM.cell {w : World} {b n : Nat} {S : Nat → Nat → Nat} (h : SwM w b n S) {t u : Nat} (ht : t < n) (hu : u < n) : w.cell? ⟨b + t, u, none⟩ = some (.int .i64 (S t u : Int)) := by
  rw [block_cell (h t ht)]
  simp [hu]

theorem tkCellsS_len (T : List Tk) (f : Nat → Value) : (tkCellsS T f).length = T.length * 4 := by
  unfold tkCellsS
  have : ∀ (L : List (Tk × Nat)), (L.flatMap fun x => tkOne x.1 (f x.2)).length = L.length * 4 := by
    intro L
    induction L with
    | nil => rfl
    | cons a L ih => rw [List.flatMap_cons, List.length_append, ih, List.length_cons]; simp [tkOne]; omega
  rw [this]; simp
theorem tkCellsS_at {T : List Tk} {f : Nat → Value} {t : Nat} {x : Tk} (hx : T[t]? = some x) {j : Nat} (hj : j < 4) : (tkCellsS T f)[t * 4 + j]? = (tkOne x (f t))[j]? :=
  flat4 (fun x : Tk × Nat => tkOne x.1 (f x.2)) (fun _ => rfl) T.zipIdx t (x, t) j (by rw [List.getElem?_zipIdx, hx]; simp) hj

/-- What built has laid at its end, in any world that has its blocks. -/
theorem BtV.done {w W : World} {B gb bs : Nat} {M : List Nm} {T : List Tk} {vT vN : Value} {pv : List Value} (h : BtV w B gb T.length (tkCellsS T (swV bs T.length)) M vT vN pv) (hW : ∀ q, B ≤ q → q < w.heap.size → W.heap[q]? = w.heap[q]?) {N : NG} (hN : N.Ok) (leN : N.nN ≤ 20) (leT : N.nT ≤ 20) (leR : N.rules.length ≤ 60)
    (hS : SwM w bs T.length N.swp) (hbs : B ≤ bs)
    (hT : T.length = N.nT) (hM : M.length = N.nN) (hr : N.rules = rulN M) (hput : ∀ t x, T[t]? = some x → x.2.1 = N.put t ∧ x.2.2 = N.drop t) (hrl : ∀ nm ∈ M, 0 < nm.2.length) {adT aN : Option Addr} {nT nN capT capN : Nat} (hvT : vT = .slice adT nT capT) (hvN : vN = .slice aN nN capN) :
    nT = N.nT ∧ nN = N.nN ∧ ∃ gN, aN = some ⟨gN, 0, none⟩ ∧ PGr W w.heap.size N (T.map (·.1)) M adT capT gN capN := by
  have hTW := own_agree h.toks hW
  have hNW := own_agree h.names hW
  have hpos : 0 < M.length := by have := hN.pos; omega
  obtain ⟨gN, cN, hsh, _, hgl, hcl⟩ := owned_shape h.names hpos
  subst hvN
  injection hsh with e1 e2 e3
  subst e1; subst e3
  subst hvT
  have hnT : nT = T.length ∧ T.length ≤ capT ∧ (0 < T.length → ∃ g, adT = some ⟨g, 0, none⟩ ∧ g < w.heap.size) := by
    rcases h.toks.2 with ⟨h1, h2⟩ | ⟨g, cap, cur, h1, _, hh, hnc, _⟩
    · injection h1 with a1 a2 a3
      exact ⟨by omega, by omega, fun h => by omega⟩
    · injection h1 with a1 a2 a3
      subst a3
      exact ⟨a2, hnc, fun _ => ⟨g, a1, lt_of_block hh⟩⟩
  have hsl := fun t (ht : t < T.length) => lt_of_block (hS t ht)
  refine ⟨by omega, by omega, gN, rfl, ⟨hN, leN, leT, leR, by omega, by omega, by simp [hT], hM, hgl, hr, fun t ht => ?_, fun t ht => ?_, fun n nm hn => ?_⟩⟩
  · obtain ⟨g, rfl, hg⟩ := hnT.2.2 (by omega)
    obtain ⟨x, hx⟩ : ∃ x, T[t]? = some x := ⟨_, List.getElem?_eq_getElem (by omega)⟩
    have h4 := fun j hj => tkCellsS_at (f := swV bs T.length) hx (j := j) hj
    have e1 := hnT.1
    subst e1
    refine ⟨g, rfl, hg, ?_, ?_⟩
    · rw [hTW.cellAt _ (by omega)]
      have : nth (T.map (·.1)) t = x.1 := by unfold nth; rw [List.getD_eq_getElem?_getD, List.getElem?_map, hx]; rfl
      rw [this]; exact h4 0 (by omega)
    · rw [hTW.cellAt _ (by omega), ← (hput t x hx).1]; exact h4 1 (by omega)
  · obtain ⟨g, rfl, hg⟩ := hnT.2.2 (by omega)
    obtain ⟨x, hx⟩ : ∃ x, T[t]? = some x := ⟨_, List.getElem?_eq_getElem (by omega)⟩
    have h4 := fun j hj => tkCellsS_at (f := swV bs T.length) hx (j := j) hj
    have e1 := hnT.1
    subst e1
    have hSW := hS.agree hbs hW
    refine ⟨g, bs + t, T.length, rfl, hg, ?_, ?_, hsl t (by omega), by omega, fun u hu => hSW.cell (by omega) (by omega)⟩
    · rw [hTW.cellAt _ (by omega), ← (hput t x hx).2]; exact h4 2 (by omega)
    · rw [hTW.cellAt _ (by omega), ← hT]; exact h4 3 (by omega)
  · have hi := (List.getElem?_eq_some_iff.1 hn).1
    have hpl := h.pvl
    obtain ⟨p, hp⟩ : ∃ p, pv[n]? = some p := ⟨_, List.getElem?_eq_getElem (by omega)⟩
    have hz : (M.zip pv)[n]? = some (nm, p) := by rw [List.getElem?_zip_eq_some]; exact ⟨hn, hp⟩
    have h2 := fun j hj => flat2 (fun t : Nm × Value => [Value.string t.1.1, t.2]) (fun _ => rfl) (M.zip pv) n (nm, p) j hz hj
    subst e2
    refine ⟨?_, p, ?_, ?_⟩
    · rw [hNW.cellAt _ (by omega)]; exact h2 0 (by omega)
    · rw [hNW.cellAt _ (by omega)]; exact h2 1 (by omega)
    · obtain ⟨pvs, hR⟩ := h.ruls n nm p hn hp
      have hRW : RulM W B p nm.2 pvs := ⟨own_agree hR.row hW, fun i ps p hr hp => own_agree (hR.each i ps p hr hp) hW⟩
      obtain ⟨g, cap, hv, hlt, hc, hcell⟩ := hRW.view (hrl nm (List.mem_of_getElem? hn)) (Nat.le_refl _)
      obtain ⟨g', cap', hv', _, hlt', _⟩ := owned_shape hR.row (hrl nm (List.mem_of_getElem? hn))
      rw [hv] at hv'
      injection hv' with k1 k2 k3
      injection k1 with k1
      injection k1 with k1
      refine ⟨g, cap, hv, by omega, hc, fun r ps hr => ?_⟩
      obtain ⟨q, hq, ad, cq, hq1, hq2, hq3⟩ := hcell r ps hr
      refine ⟨q, hq, ad, cq, hq1, hq2, fun h0 => ?_⟩
      obtain ⟨g2, off, j1, _, j3⟩ := hq3 h0
      refine ⟨g2, off, j1, ?_, j3⟩
      have hpl2 : pvs.length = nm.2.length := by have := hR.row.1; omega
      have hi2 := (List.getElem?_eq_some_iff.1 hr).1
      obtain ⟨q', hq'⟩ : ∃ p, pvs[r]? = some p := ⟨_, List.getElem?_eq_getElem (by omega)⟩
      have hcell2 : W.cell? ⟨g, r, none⟩ = some q' := by
        have h5 := hRW.row
        rw [hv] at h5
        rw [h5.cellAt r (by omega)]; exact hq'
      rw [hcell2] at hq
      injection hq with hq
      subst hq
      have hP := hR.each r ps q' hr hq'
      refine own_lt hP ?_
      rw [hq1, j1]; rfl

end Go.Proofs.YtjjggdcnpndgjaaGreatDoor

namespace Go.Proofs.YtjjggdcnpndgjaaGreatDoor
open Go.RowKit Go.Shelf

def tkOf (x : Ln) : Tk := (nth x.2.2 1, (valD (nth x.2.2 2).data.toList).toNat, (valD (nth x.2.2 3).data.toList).toNat)
def tkL (P : List Ln) : List Tk := (tokLs P).map tkOf

theorem tkL_words (P : List Ln) : (tkL P).map (·.1) = twsL P := by
  unfold tkL twsL
  rw [List.map_map]; rfl
theorem tkL_put {P : List Ln} : ∀ (t : Nat) x, (tkL P)[t]? = some x → x.2.1 = (ngL P).put t ∧ x.2.2 = (ngL P).drop t := by
  intro t x h
  unfold tkL at h
  rw [List.getElem?_map] at h
  cases hy : (tokLs P)[t]? with
  | none => rw [hy] at h; cases h
  | some y =>
    rw [hy] at h
    injection h with h
    subst h
    refine ⟨?_, ?_⟩
    · show _ = (((tokLs P)[t]?.map fun x => valD (nth x.2.2 2).data.toList).getD 0).toNat
      rw [hy]; rfl
    · show _ = (((tokLs P)[t]?.map fun x => valD (nth x.2.2 3).data.toList).getD 0).toNat
      rw [hy]; rfl
theorem pgL_pos (f : ByteArray → Int) (P : List Ln) : ∀ nm ∈ pgL f P, 0 < nm.2.length := by
  intro nm h
  obtain ⟨x, _, rfl⟩ := List.mem_map.1 h
  show 0 < ((rulesL x.2.2).map _).length
  rw [List.length_map]
  unfold rulesL
  simp

theorem tokLs_next {P : List Ln} {k : Nat} {x : Ln} (hx : P[k]? = some x) : tokLs (P.take (k + 1)) = tokLs (P.take k) ++ if x.2.1 = 0 then [x] else [] := by
  obtain ⟨hk, e⟩ := List.getElem?_eq_some_iff.1 hx
  unfold tokLs
  rw [List.take_succ_eq_append_getElem hk, e, List.filter_append]
  by_cases h : x.2.1 = 0 <;> simp [h]
theorem namLs_next {P : List Ln} {k : Nat} {x : Ln} (hx : P[k]? = some x) : namLs (P.take (k + 1)) = namLs (P.take k) ++ if x.2.1 = 2 then [x] else [] := by
  obtain ⟨hk, e⟩ := List.getElem?_eq_some_iff.1 hx
  unfold namLs
  rw [List.take_succ_eq_append_getElem hk, e, List.filter_append]
  by_cases h : x.2.1 = 2 <;> simp [h]

theorem tkL_next {P : List Ln} {k : Nat} {x : Ln} (hx : P[k]? = some x) : tkL (P.take (k + 1)) = tkL (P.take k) ++ if x.2.1 = 0 then [tkOf x] else [] := by
  unfold tkL
  rw [tokLs_next hx, List.map_append]
  split <;> rfl
theorem pgL_next (f : ByteArray → Int) {P : List Ln} {k : Nat} {x : Ln} (hx : P[k]? = some x) : pgL f (P.take (k + 1)) = pgL f (P.take k) ++ if x.2.1 = 2 then [nmOf f x] else [] := by
  unfold pgL
  rw [namLs_next hx, List.map_append]
  split <;> rfl

theorem tkL_len (P : List Ln) (k : Nat) : (tkL (P.take k)).length ≤ k := by
  unfold tkL tokLs
  rw [List.length_map]
  have := List.length_filter_le (fun x : Ln => x.2.1 == 0) (P.take k)
  rw [List.length_take] at this
  omega
theorem pgL_len (f : ByteArray → Int) (P : List Ln) (k : Nat) : (pgL f (P.take k)).length ≤ k := by
  unfold pgL namLs
  rw [List.length_map]
  have := List.length_filter_le (fun x : Ln => x.2.1 == 2) (P.take k)
  rw [List.length_take] at this
  omega

/-- The rules of a line, in parts. -/
def ptR (f : ByteArray → Int) (r : List ByteArray) : List Pt := r.map fun w => ptC (f w)
def ptZ (f : ByteArray → Int) (r : List ByteArray) (i : Nat) : List Pt := ptR f (r.take i) ++ List.replicate (r.length - i) (.tok 0)

theorem ptZ_len (f : ByteArray → Int) (r : List ByteArray) {i : Nat} (h : i ≤ r.length) : (ptZ f r i).length = r.length := by
  unfold ptZ ptR; simp; omega
theorem ptZ_next (f : ByteArray → Int) {r : List ByteArray} {i : Nat} {u : ByteArray} (h : r[i]? = some u) : (ptZ f r i).set i (ptC (f u)) = ptZ f r (i + 1) := by
  obtain ⟨hi, e⟩ := List.getElem?_eq_some_iff.1 h
  unfold ptZ ptR
  have hl : ((r.take i).map fun w => ptC (f w)).length = i := by simp; omega
  rw [List.set_append_right _ _ (by omega), hl, Nat.sub_self]
  obtain ⟨m, hm⟩ : ∃ m, r.length - i = m + 1 := ⟨r.length - i - 1, by omega⟩
  rw [hm, List.replicate_succ, List.set_cons_zero, show r.length - (i + 1) = m by omega, List.take_succ_eq_append_getElem hi, e, List.map_append]
  simp
theorem ptZ_full (f : ByteArray → Int) (r : List ByteArray) : ptZ f r r.length = ptR f r := by unfold ptZ; simp

theorem rs_next (f : ByteArray → Int) {RS : List (List ByteArray)} {j : Nat} {r : List ByteArray} (h : RS[j]? = some r) : (RS.take (j + 1)).map (ptR f) = (RS.take j).map (ptR f) ++ [ptR f r] := by
  obtain ⟨hj, e⟩ := List.getElem?_eq_some_iff.1 h
  rw [List.take_succ_eq_append_getElem hj, e, List.map_append]; rfl

theorem ptCells_set : ∀ (L : List Pt) (i : Nat) (p : Pt), i < L.length → ptCells (L.set i p) = ((ptCells L).set (i * 2) (.bool (isNam p))).set (i * 2 + 1) (.int .i64 (numOf p))
  | [], i, _, h => by simp at h
  | q :: L, 0, p, _ => by simp [ptCells]
  | q :: L, i + 1, p, h => by
    have h1 := ptCells_set L i p (by simpa using h)
    unfold ptCells at h1 ⊢
    simp only [List.set_cons_succ, List.flatMap_cons]
    rw [h1]
    simp only [show (i + 1) * 2 = i * 2 + 1 + 1 from by omega, List.cons_append, List.nil_append, List.set_cons_succ]

theorem isNam_ptC (c : Int) : isNam (ptC c) = decide (c % 2 = 1) := by
  unfold ptC
  split
  · rename_i h; simp [isNam, h]
  · rename_i h; simp [isNam, h]
theorem numOf_ptC {c : Int} (h : 0 ≤ c) : ((numOf (ptC c) : Nat) : Int) = c / 2 := by
  unfold ptC
  split <;> simp [numOf] <;> omega

theorem CodeOk.pos {f : ByteArray → Int} {T M : List ByteArray} (h : CodeOk f T M) (s : ByteArray) : 0 ≤ f s := by
  have h1 := h s
  cases hM : fIdx M s with
  | some k => rw [hM] at h1; have h2 : f s = 2 * (k : Int) + 1 := h1; omega
  | none =>
    rw [hM] at h1
    cases hT : fIdx T s with
    | some k => rw [hT] at h1; have h2 : f s = 2 * (k : Int) := h1; omega
    | none => rw [hT] at h1; have h2 : f s = 0 := h1; omega

/-- The parts that make lays. -/
theorem part_made (w : World) (f : ByteArray → Int) (r : List ByteArray) (B : Nat) (hB : B ≤ w.heap.size) (hr : r.length ≤ 8) :
    (w.alloc (.cells (madeCells #[.bool false, .int .i64 0] (r.length * 2)) 235)).ownsRow B 235 2 (.slice (some ⟨w.heap.size, 0, none⟩) r.length r.length) r.length (ptCells (ptZ f r 0)) := by
  have h1 := own_made w (madeCells #[.bool false, .int .i64 0] (r.length * 2)) r.length 2 235 B hB (by unfold maxLen; omega) (size_madeCells _ _)
  have h2 := made_flat 2 (by omega) (fun p : Pt => [Value.bool (isNam p), .int .i64 (numOf p)]) (fun _ => rfl) (.tok 0) r.length
  have h3 : ptZ f r 0 = List.replicate r.length (.tok 0) := by unfold ptZ ptR; simp
  unfold ptCells
  rw [h3, ← h2]
  exact h1

theorem part_put {w : World} {B pb : Nat} (f : ByteArray → Int) {r : List ByteArray} {i : Nat} {u : ByteArray} (hu : r[i]? = some u) (hf : 0 ≤ f u) (h : w.ownsRow B 235 2 (.slice (some ⟨pb, 0, none⟩) r.length r.length) r.length (ptCells (ptZ f r i))) :
    ((w.setCell ⟨pb, i * 2, none⟩ (.bool (decide (f u % 2 = 1)))).setCell ⟨pb, i * 2 + 1, none⟩ (.int .i64 (f u / 2))).ownsRow B 235 2 (.slice (some ⟨pb, 0, none⟩) r.length r.length) r.length (ptCells (ptZ f r (i + 1))) := by
  have hi := (List.getElem?_eq_some_iff.1 hu).1
  have h1 := ((h.stored (i * 2) (.bool (decide (f u % 2 = 1)))).1.stored (i * 2 + 1) (.int .i64 (f u / 2))).1
  rw [← ptZ_next f hu, ptCells_set _ _ _ (by rw [ptZ_len f r (by omega)]; exact hi), isNam_ptC, numOf_ptC hf]
  exact h1

/-- The k-th row, where one block of another kind is written. -/
theorem RowsV.atK {w w' : World} {B g n cap nb : Nat} {rs : List (List ByteArray)} {pvs : List Value} (h : RowsV w B (.slice (some ⟨g, 0, none⟩) n cap) rs pvs) (hn : rs.length = n) (hb : Keeps w w' [nb]) {cs : Array Value} {t : Nat} {fr : Nat × Nat} (hnb : w.heap[nb]? = some (.cells cs t fr)) (h1 : 39 ≠ t) (h2 : 9 ≠ t) {k : Nat} (hk : k < n) :
    ∃ r p, rs[k]? = some r ∧ w'.cell? ⟨g, k, none⟩ = some p ∧ w'.ownsRow B 9 1 p r.length (r.map Value.string) ∧ (∀ q, p.ownBlock = some q → q < w.heap.size) := by
  have hr := h.row
  rw [hn] at hr
  have hpl : pvs.length = n := by have := hr.1; omega
  have hp : pvs[k]? = some (pvs[k]'(by omega)) := List.getElem?_eq_getElem (by omega)
  have hrk : rs[k]? = some (rs[k]'(by omega)) := List.getElem?_eq_getElem (by omega)
  have he := h.each k _ _ hrk hp
  have hr' := own_keeps hr hb (fun q hq hm => by rw [List.mem_singleton.1 hm] at hq; exact own_not_block hr hnb h1 hq)
  refine ⟨_, _, hrk, ?_, own_keeps he hb (fun q hq hm => by rw [List.mem_singleton.1 hm] at hq; exact own_not_block he hnb h2 hq), fun q hq => own_lt he hq⟩
  rw [hr'.cellAt k (by omega), hp]

theorem Keeps.keepsBelow {w w' : World} {k : Nat} (h : Keeps w w' [k]) (hk : k < w.heap.size) : Below k w w' := h.below (Nat.le_of_lt hk) (fun q hq => by rw [List.mem_singleton.1 hq]; exact Nat.le_refl _)

theorem Keeps.transOwn {a b c : World} {n : Nat} {S : List Nat} (h : Keeps a b [n]) (k : Keeps b c S) (hS : ∀ q, q ∈ S → a.heap.size ≤ q) : Keeps a c [n] :=
  ⟨k.os.trans h.os, k.tape.trans h.tape, k.output.trans h.output, Nat.le_trans h.size k.size, fun i hi hn => (k.block i (Nat.lt_of_lt_of_le hi h.size) (fun hm => by have := hS i hm; omega)).trans (h.block i hi hn)⟩

/-- A line more: what changing costs, so far. -/
def swVal (x : Ln) : Nat := (valD (nth x.2.2 3).data.toList).toNat
def swHit (f : ByteArray → Int) (x : Ln) (t u : Nat) : Prop := x.2.1 = 1 ∧ f (nth x.2.2 1) = 2 * (t : Int) ∧ f (nth x.2.2 2) = 2 * (u : Int)
instance (f : ByteArray → Int) (x : Ln) (t u : Nat) : Decidable (swHit f x t u) := by unfold swHit; infer_instance

theorem swpF_snoc (f : ByteArray → Int) (x : Ln) (t u : Nat) : ∀ {P : List Ln}, (∀ y ∈ P, y.2.1 = 1 → 1 ≤ swVal y) → swpF f (P ++ [x]) t u = if swpF f P t u = 0 ∧ swHit f x t u then swVal x else swpF f P t u
  | [], _ => by
    show (if swHit f x t u then swVal x else 0) = if (0 : Nat) = 0 ∧ swHit f x t u then swVal x else 0
    by_cases h : swHit f x t u
    · rw [if_pos h, if_pos ⟨rfl, h⟩]
    · rw [if_neg h, if_neg (fun e => h e.2)]
  | y :: P, h => by
    have ih := swpF_snoc f x t u (P := P) (fun z hz => h z (List.mem_cons_of_mem _ hz))
    show (if swHit f y t u then swVal y else swpF f (P ++ [x]) t u) = if (if swHit f y t u then swVal y else swpF f P t u) = 0 ∧ swHit f x t u then swVal x else if swHit f y t u then swVal y else swpF f P t u
    by_cases hy : swHit f y t u
    · have h1 := h y (List.mem_cons_self ..) hy.1
      rw [if_pos hy, if_pos hy, if_neg (by omega)]
    · rw [if_neg hy, if_neg hy, ih]

theorem swpF_next (f : ByteArray → Int) {P : List Ln} {k : Nat} {x : Ln} (hx : P[k]? = some x) (h : ∀ y ∈ P, y.2.1 = 1 → 1 ≤ swVal y) (t u : Nat) : swpF f (P.take (k + 1)) t u = if swpF f (P.take k) t u = 0 ∧ swHit f x t u then swVal x else swpF f (P.take k) t u := by
  obtain ⟨hk, e⟩ := List.getElem?_eq_some_iff.1 hx
  rw [List.take_succ_eq_append_getElem hk, e]
  exact swpF_snoc f x t u fun y hy => h y (List.mem_of_mem_take hy)

theorem results_cell {P : Program} {fn : Func} {p : Tmp} {ty : TypeId} (h : fn.results = #[.cell p ty]) (tmps : Array Value) (w : World) (g : Nat) (t' : TypeId) (cs : Array Value) (fr : Nat × Nat) (d : TypeDesc)
    (hp : tmps.getD p undef = .pointer (some ⟨g, 0, none⟩)) (hg : w.heap[g]? = some (.cells cs t' fr)) (hu : P.underlying ty = some d) (hd : (match d with | .struct _ | .array _ _ => true | _ => false) = true) (hi : (P.info? ty).map (·.size) = some cs.size) :
    (results fn tmps).run P w = .ok (.agg cs) w := by
  have hp' : tmps[p]?.getD undef = .pointer (some ⟨g, 0, none⟩) := by simpa using hp
  simp [results, h, hp', asAddr, run_loadVar_row w g t' ty cs fr d hg hu hd hi]

end Go.Proofs.YtjjggdcnpndgjaaGreatDoor

namespace Go.Proofs.YtjjggdcnpndgjaaGreatDoor
open Go.RowKit Go.Shelf Go.WideMaps Go.Maps

theorem Tryz.infoI3 : (Tryz.prog.info? 3).map (fun i => (i.zero, i.size, i.bytes)) = some (some (.int .i64 0), 1, 8) := by kernel_rfl

theorem words_cells {w : World} {p : Value} {l : List ByteArray} (h : WordsV w p l) (h3 : 3 ≤ l.length) : ∃ gw q qc cs, p = .slice (some ⟨gw, 1, none⟩) (q + 2) qc ∧ q + 2 ≤ qc ∧ w.heap[gw]? = some (.cells cs 9 (0, 0)) ∧ w.cell? ⟨gw, 1, none⟩ = some (.string (nth l 1)) ∧ w.cell? ⟨gw, 2, none⟩ = some (.string (nth l 2)) := by
  obtain ⟨g, n, cap, ad, cs, rfl, h2, h3', h4, h5, h6, h7⟩ := h
  have had := h7 (by omega)
  subst had
  obtain ⟨m, rfl⟩ : ∃ m, n = m + 2 := ⟨n - 2, by omega⟩
  exact ⟨g, m, cap, cs, rfl, h3', h5, by rw [block_cell h5]; exact h6 1 (by omega), by rw [block_cell h5]; exact h6 2 (by omega)⟩

theorem NumV.off {w w1 : World} {b m e sz n B : Nat} {f : ByteArray → Int} {v : Value} {xs : List Value} (h : NumV w b m f) (hv : w.ownsRow B e sz v n xs) (hk : Keeps w w1 v.ownBlock.toList) : NumV w1 b m f :=
  h.block (hk.block b h.lt (fun hm => by
    obtain ⟨D, ⟨es, clock, h4, _⟩, _⟩ := h
    obtain ⟨c, hc⟩ := own_kind hv (mem_own hm)
    rw [hc] at h4
    cases h4))
theorem NumV.set {w : World} {b m gb j : Nat} {f : ByteArray → Int} {u : Value} (h : NumV w b m f) (hne : gb ≠ b) : NumV (w.setCell ⟨gb, j, none⟩ u) b m f := h.block (Below.heap_setCell _ _ _ _ (by exact hne.symm))

theorem tkCellsS_nil (T : List Tk) : tkCellsS T (fun _ => .slice none 0 0) = tkCells T := by
  unfold tkCellsS tkCells
  have h : T = T.zipIdx.map Prod.fst := by simp
  conv => rhs; rw [h, List.flatMap_map]

theorem tkCellsS_set (T : List Tk) (f f' : Nat → Value) (t : Nat) (ht : t < T.length) (ho : ∀ i, i ≠ t → f' i = f i) : (tkCellsS T f).set (t * 4 + 3) (f' t) = tkCellsS T f' := by
  apply List.ext_getElem?
  intro i
  by_cases hi : i < T.length * 4
  · obtain ⟨x, hx⟩ : ∃ x, T[i / 4]? = some x := ⟨_, List.getElem?_eq_getElem (by omega)⟩
    have e : i = i / 4 * 4 + i % 4 := by omega
    have h1 := tkCellsS_at (f := f) hx (j := i % 4) (by omega)
    have h2 := tkCellsS_at (f := f') hx (j := i % 4) (by omega)
    rw [← e] at h1 h2
    rw [List.getElem?_set, h2]
    by_cases h3 : t * 4 + 3 = i
    · have e4 : i / 4 = t := by omega
      have e5 : i % 4 = 3 := by omega
      rw [if_pos h3, if_pos (by rw [tkCellsS_len]; omega), e4, e5]
      rfl
    · rw [if_neg h3, h1]
      by_cases h4 : i / 4 = t
      · have h5 : i % 4 < 3 := by omega
        obtain ⟨m, hm⟩ : ∃ m, i % 4 = m := ⟨_, rfl⟩
        rw [hm] at h5 ⊢
        match m, h5 with
        | 0, _ => rfl
        | 1, _ => rfl
        | 2, _ => rfl
      · rw [ho _ h4]
  · rw [List.getElem?_eq_none (by rw [List.length_set, tkCellsS_len]; omega), List.getElem?_eq_none (by rw [tkCellsS_len]; omega)]

theorem BtV.setTok {w : World} {B gb n : Nat} {TC : List Value} {M : List Nm} {gt cT : Nat} {vN : Value} {pv : List Value} (h : BtV w B gb n TC M (.slice (some ⟨gt, 0, none⟩) n cT) vN pv) (j : Nat) (u : Value) :
    BtV (w.setCell ⟨gt, j, none⟩ u) B gb n (TC.set j u) M (.slice (some ⟨gt, 0, none⟩) n cT) vN pv := by
  obtain ⟨c, hc⟩ := own_kind h.toks (g := gt) rfl
  have hne : gb ≠ gt := fun e => own_not_block h.toks h.blk (by decide) (by rw [e]; rfl)
  refine ⟨(Below.heap_setCell _ _ _ _ (by exact hne)).trans h.blk, h.hb, (h.toks.stored j u).1, row_over' h.names hc (by decide), h.pvl, fun i nm p hm hp => ?_⟩
  obtain ⟨pvs, hr⟩ := h.ruls i nm p hm hp
  exact ⟨pvs, hr.setOther hc (by decide) (by decide)⟩

/-- A cell of the swaps is written. -/
theorem SwM.put {w : World} {b n : Nat} {S S' : Nat → Nat → Nat} (h : SwM w b n S) {t u : Nat} (ht : t < n) (_hu : u < n) (ho : ∀ i j, ¬ (i = t ∧ j = u) → S' i j = S i j) : SwM (w.setCell ⟨b + t, u, none⟩ (.int .i64 (S' t u : Int))) b n S' := by
  intro i hi
  by_cases e : i = t
  · subst e
    rw [cells_set (h i hi)]
    congr 2
    apply Array.ext'
    rw [Array.toList_setIfInBounds]
    apply List.ext_getElem?
    intro j
    simp only [List.getElem?_set, List.getElem?_map, List.length_map, List.length_range]
    by_cases hj : j < n
    · rw [List.getElem?_range hj]
      by_cases e2 : u = j
      · subst e2
        rw [if_pos rfl, if_pos hj]; rfl
      · rw [if_neg e2]
        show some (Value.int .i64 (S i j : Int)) = some (Value.int .i64 (S' i j : Int))
        rw [ho i j (fun h => e2 h.2.symm)]
    · rw [List.getElem?_eq_none (by simpa using hj)]
      by_cases e2 : u = j
      · rw [if_pos e2, if_neg (by omega)]; rfl
      · rw [if_neg e2]; rfl
  · rw [Below.heap_setCell _ _ _ _ (by show b + i ≠ b + t; omega), h i hi]
    congr 3
    apply List.map_congr_left
    intro j _
    rw [ho i j (fun h => e h.1)]

theorem SwM.below {w w1 : World} {b n B : Nat} {S : Nat → Nat → Nat} (h : SwM w b n S) (hb : Below B w w1) (hB : b + n ≤ B) : SwM w1 b n S := fun t ht => (hb.block (b + t) (by omega)).trans (h t ht)

theorem words_third {w : World} {gw q qc : Nat} {l : List ByteArray} (h : WordsV w (.slice (some ⟨gw, 1, none⟩) (q + 2) qc) l) (h4 : 4 ≤ l.length) : 1 ≤ q ∧ w.cell? ⟨gw, 3, none⟩ = some (.string (nth l 3)) := by
  obtain ⟨g, n, cap, ad, cs, e, h2, h3', h4', h5, h6, h7⟩ := h
  injection e with e1 e2 e3
  have had := h7 (by omega)
  rw [had] at e1
  injection e1 with e1
  injection e1 with e1
  subst e1
  exact ⟨by omega, by rw [block_cell h5]; exact h6 3 (by omega)⟩

theorem BtV.setInt {w : World} {B gb n : Nat} {TC : List Value} {M : List Nm} {vT vN : Value} {pv : List Value} (h : BtV w B gb n TC M vT vN pv) {b j : Nat} {cs : Array Value} {fr : Nat × Nat} (hb : w.heap[b]? = some (.cells cs 3 fr)) (u : Value) :
    BtV (w.setCell ⟨b, j, none⟩ u) B gb n TC M vT vN pv := by
  have hne : gb ≠ b := fun e => by
    have h1 := h.blk
    rw [e, hb] at h1
    injection h1 with h1
    injection h1 with _ h1
    exact absurd h1 (by decide)
  refine ⟨(Below.heap_setCell _ _ _ _ (by exact hne)).trans h.blk, h.hb, row_over' h.toks hb (by decide), row_over' h.names hb (by decide), h.pvl, fun i nm p hm hp => ?_⟩
  obtain ⟨pvs, hr⟩ := h.ruls i nm p hm hp
  exact ⟨pvs, hr.setOther hb (by decide) (by decide)⟩

theorem Keeps.thenBelow {a b c : World} {S : List Nat} (h : Keeps a b S) (k : Below a.heap.size b c) : Keeps a c S :=
  ⟨k.os.trans h.os, k.tape.trans h.tape, k.output.trans h.output, Nat.le_trans h.size k.size, fun i hi hn => (k.block i hi).trans (h.block i hi hn)⟩

theorem part_field (b : Bool) (c : Int) (w : World) : (Instr.field 235 (.agg #[.bool b, .int .i64 c]) 1).run Tryz.prog w = .ok (.int .i64 c) w := by kernel_rfl

theorem made_int (n : Nat) : madeCells #[.int .i64 0] (n * 1) = ((List.range n).map fun _ => Value.int .i64 (((fun _ _ => 0 : Nat → Nat → Nat) 0 0 : Nat) : Int)).toArray := by
  have h := made_flat 1 (by omega) (fun _ : Unit => [Value.int .i64 0]) (fun _ => rfl) () n
  apply Array.ext'
  have h2 : (madeCells #[.int .i64 0] (n * 1)).toList = (List.replicate n ()).flatMap fun _ => [Value.int .i64 0] := h
  rw [h2]
  apply List.ext_getElem?
  intro i
  have h3 : ∀ m : Nat, ((List.replicate m ()).flatMap fun _ => [Value.int .i64 0]) = List.replicate m (Value.int .i64 0) := by
    intro m
    induction m with
    | zero => rfl
    | succ m ih =>
      rw [List.replicate_succ, List.flatMap_cons, List.replicate_succ, ih]
      rfl
  rw [h3, List.getElem?_replicate]
  simp only [List.getElem?_map]
  by_cases hi : i < n
  · rw [if_pos hi, List.getElem?_range hi]; rfl
  · rw [if_neg hi, List.getElem?_eq_none (by simpa using hi)]; rfl

theorem tkCellsS_congr {T : List Tk} {f g : Nat → Value} (h : ∀ i, i < T.length → f i = g i) : tkCellsS T f = tkCellsS T g := by
  apply List.ext_getElem?
  intro i
  by_cases hi : i < T.length * 4
  · obtain ⟨x, hx⟩ : ∃ x, T[i / 4]? = some x := ⟨_, List.getElem?_eq_getElem (by omega)⟩
    have e : i = i / 4 * 4 + i % 4 := by omega
    have h1 := tkCellsS_at (f := f) hx (j := i % 4) (by omega)
    have h2 := tkCellsS_at (f := g) hx (j := i % 4) (by omega)
    rw [← e] at h1 h2
    rw [h1, h2, h _ (by omega)]
  · rw [List.getElem?_eq_none (by rw [tkCellsS_len]; omega), List.getElem?_eq_none (by rw [tkCellsS_len]; omega)]

set_option linter.unusedSimpArgs false in
set_option maxHeartbeats 8000000 in
set_option maxRecDepth 100000 in
theorem swaps_any (P : List Ln) (G : Gr) (hg : GOk P G) (hok : LinesOk P) (Wb W : World) (hG : Glob Wb) (B0 B gb bn g cap : Nat) (pv : List Value) (hV : LnV Wb B0 (.slice (some ⟨g, 0, none⟩) P.length cap) P pv) (hcap : P.length ≤ cap) (hgl : g < Wb.heap.size) (hbW : Below Wb.heap.size Wb W) (hB : Wb.heap.size ≤ B)
    (M : List Nm) (vT vN : Value) (pvN : List Value) (hBt : BtV W B gb (tkL P).length (tkCells (tkL P)) M vT vN pvN) (hNu : NumV W bn P.length (codeL P)) :
    Calls Tryz.prog 203 #[.pointer (some ⟨gb, 0, none⟩), .slice (some ⟨g, 0, none⟩) P.length cap, .map (some bn)] W fun e w' => e = .returned (.tuple #[]) ∧
      BtV w' B gb (tkL P).length (tkCellsS (tkL P) (swV W.heap.size (tkL P).length)) M vT vN pvN ∧ SwM w' W.heap.size (tkL P).length (swpF (codeL P) P) ∧ Keeps W w' vT.ownBlock.toList := by
  obtain ⟨i0, hi, hz0, hz1, hz2⟩ := info_parts Tryz.infoI3
  obtain ⟨T, hT⟩ : ∃ T, tkL P = T := ⟨_, rfl⟩
  have hTl : T.length = (tokLs P).length := by rw [← hT]; unfold tkL; simp
  rw [hT] at hBt ⊢
  have hT20 : T.length ≤ 20 := by rw [hTl]; exact hg.nT
  obtain ⟨nT, hnT⟩ : ∃ n, T.length = n := ⟨_, rfl⟩
  have HTL : Hid (T.length = nT) := hid hnT
  rw [hnT] at hBt hTl hT20 ⊢
  obtain ⟨aT, cT, rfl⟩ : ∃ a c, vT = .slice a nT c := by
    rcases hBt.toks.2 with ⟨h1, h2⟩ | ⟨g, cap, cur, h1, _, _, _⟩
    · exact ⟨none, 0, by rw [h1, h2]⟩
    · exact ⟨_, _, h1⟩
  have hsh : 0 < nT → ∃ gt, aT = some ⟨gt, 0, none⟩ ∧ gt < W.heap.size ∧ nT ≤ cT := fun h0 => by
    obtain ⟨g, cap, e, _, h2, h3⟩ := owned_shape hBt.toks h0
    injection e with e1 _ e3
    exact ⟨g, e1, h2, by omega⟩
  obtain ⟨n, hN⟩ : ∃ n, n = P.length := ⟨_, rfl⟩
  have hn := hok.len
  rw [← hN] at hn hcap hV hNu ⊢
  have HN : Hid (n = P.length) := hid hN
  have HSH : Hid _ := hid hsh
  have HV : Hid _ := hid hV
  have HOK : Hid _ := hid hok
  have HGK : Hid _ := hid hg
  have HG : Hid _ := hid hG
  have HNu : Hid _ := hid hNu
  have HTK : Hid _ := hid hTl
  obtain ⟨f, hf⟩ : ∃ f, f = codeL P := ⟨_, rfl⟩
  have HF : Hid (f = codeL P) := hid hf
  have HBt0 : Hid (BtV W B gb nT (tkCellsS T (fun i => if i < 0 then swV W.heap.size nT i else .slice none 0 0)) M (.slice aT nT cT) vN pvN) := hid (by
    have e : tkCellsS T (fun i => if i < 0 then swV W.heap.size nT i else .slice none 0 0) = tkCells T := by
      rw [← tkCellsS_nil]; exact tkCellsS_congr fun i _ => if_neg (by omega)
    rw [e]; exact hBt)
  have hgbW : gb < W.heap.size := lt_of_block hBt.blk
  have HBW : Hid _ := hid hbW
  have HTs : Hid _ := hid hBt.toks
  have HGE : Hid (∀ k, k ∈ (Value.slice aT nT cT).ownBlock.toList → B ≤ k) := hid (own_ge hBt.toks)
  have b00 := hBt.cells.1
  have hbsz := hbW.size
  clear hN hsh hV hok hg hG hNu hT hTl hBt hbW hf hnT
  go_enter Tryz.func203, Tryz.ntmps203
  go_wp2
  go_loopw [17] (fun i wr => ∃ t : Nat, t ≤ nT ∧ i = .int .i64 t ∧ Hid (BtV wr B gb nT (tkCellsS T (fun i => if i < t then swV W.heap.size nT i else .slice none 0 0)) M (.slice aT nT cT) vN pvN) ∧
    Hid (∀ i, i < t → wr.heap[W.heap.size + i]? = some (.cells ((List.range nT).map fun _ => Value.int .i64 (((fun _ _ => 0 : Nat → Nat → Nat) 0 0 : Nat) : Int)).toArray 3 (0, 0))) ∧ wr.heap.size = W.heap.size + t ∧ Hid (Keeps W wr (Value.slice aT nT cT).ownBlock.toList)) (fun i _ => nT - (intOf i).toNat)
  case atStart => exact ⟨0, Nat.zero_le _, rfl, HBt0, hid (fun i hi => by omega), rfl, hid (Keeps.refl _ _)⟩
  case round =>
    clear HBt0 b00
    obtain ⟨t, ht, rfl, hBt, hZ, hszr, hK⟩ := hrel
    obtain ⟨wo, rfl⟩ : ∃ wo, wo = wr := ⟨_, rfl⟩
    by_cases hlt : t < nT
    · obtain ⟨gt, rfl, hgt, hcT⟩ := HSH.out (by omega)
      have g0 := hBt.out.cells.1
      have hgbw : gb < wo.heap.size := by omega
      have hgtw : gt < wo.heap.size := by omega
      go_wp2
      refine wp_region_last (fun w' => w'.cell? ⟨gb, 0, none⟩ = some (.slice (some ⟨gt, 0, none⟩) nT cT)) (by kernel_rfl) (by kernel_rfl) g0 (fun hHeld => ?_)
      simp only [cutLast, idle, lastOf]
      refine tkA 0 ?vv42 rfl ?hy42 hHeld ?_
      case hy42 => (intro w hSw; (try dsimp only at hSw); first | (go_simp; done) | (go_simp; with_reducible rfl))
      try simp only [zA, zC, Act.put, zD, zE, zF]
      refine tkA 1 ?vv15 rfl ?hy15 hHeld ?_
      case hy15 => (intro w hSw; (try dsimp only at hSw); first | (go_simp; done) | (go_simp; with_reducible rfl))
      try simp only [zA, zB, zC, Act.put, zD, zE, zF]
      refine tkA 2 ?vv16 rfl ?hy16 hHeld ?_
      case hy16 => (intro w hSw; (try dsimp only at hSw); first | (go_simp; done) | (go_simp; with_reducible rfl))
      try simp only [zA, zB, zC, Act.put, zD, zE, zF]
      refine tkA 3 ?vv17 rfl ?hy17 hHeld ?_
      case hy17 => (intro w hSw; (try dsimp only at hSw); first | (go_simp; done) | (go_simp; with_reducible rfl))
      try simp only [zA, zB, zC, Act.put, zD, zE, zF]
      refine tkA 4 ?vv18 rfl ?hy18 hHeld ?_
      case hy18 => (intro w hSw; (try dsimp only at hSw); first | (go_simp; done) | (go_simp; with_reducible rfl))
      try simp only [zA, zB, zC, Act.put, zD, zE, zF]
      refine tkA 5 ?vv19 rfl ?hy19 hHeld ?_
      case hy19 => (intro w hSw; (try dsimp only at hSw); first | (go_simp; done) | (go_simp; with_reducible rfl))
      try simp only [zA, zB, zC, Act.put, zD, zE, zF]
      refine tkA 6 ?vv20 rfl ?hy20 hHeld ?_
      case hy20 => (intro w hSw; (try dsimp only at hSw); first | (go_simp; done) | (go_simp; with_reducible rfl))
      try simp only [zA, zB, zC, Act.put, zD, zE, zF]
      refine tkA 7 ?vv21 rfl ?hy21 hHeld ?_
      case hy21 => (intro w hSw; (try dsimp only at hSw); first | (go_simp; done) | (go_simp; with_reducible rfl))
      try simp only [zA, zB, zC, Act.put, zD, zE, zF]
      refine tkA 8 ?vv22 rfl ?hy22 hHeld ?_
      case hy22 => (intro w hSw; (try dsimp only at hSw); first | (go_simp; done) | (go_simp; with_reducible rfl))
      try simp only [zA, zB, zC, Act.put, zD, zE, zF]
      refine tkA 9 ?vv23 rfl ?hy23 hHeld ?_
      case hy23 => (intro w hSw; (try dsimp only at hSw); first | (go_simp; done) | (go_simp; with_reducible rfl))
      try simp only [zA, zB, zC, Act.put, zD, zE, zF]
      refine wpAnyH_ready (rs := [10]) (by kernel_rfl) (by simp) ?_
      refine AllReadyH.cons rfl (fun K hK => ?_) AllReadyH.nil
      try simp only [zA, zB, zC]
      rw [if_pos (by rfl)]; refine wp_make_exact _ (.tmp 29) (.tmp 29) 45 rfl 3 i0 (.int .i64 0) Tryz.underlying45 hi hz0 nT rfl rfl (by rw [hz2]; omega) (by omega) ?_; rw [hz1]
      refine hK.out _ _ ?_ (fun hHeld => ?_)
      · exact box_alloc _ hHeld
      clear hK K
      try simp only [Act.put, zD, zE, zF]
      refine tkA 11 ?vv24 rfl ?hy24 hHeld ?_
      case hy24 => (intro w hSw; (try dsimp only at hSw); first | (go_simp; done) | (go_simp; with_reducible rfl))
      try simp only [zA, zB, zC, Act.put, zD, zE, zF]
      refine tkA 12 ?vv25 rfl ?hy25 hHeld ?_
      case hy25 => (intro w hSw; (try dsimp only at hSw); first | (go_simp; done) | (go_simp; with_reducible rfl))
      try simp only [zA, zB, zC, Act.put, zD, zE, zF]
      refine tkA 13 ?vv41 rfl ?hy41 hHeld ?_
      case hy41 => (intro w hSw; (try dsimp only at hSw); first | (go_simp; done) | (go_simp; with_reducible rfl))
      try simp only [zA, zB, zC, Act.put]
      refine wpAnyH_done (by kernel_rfl) ?_ _
      clear hHeld
      obtain ⟨X, hX⟩ : ∃ X, wo.drew.alloc (Obj.cells (madeCells (Value.int .i64 0).cells (nT * 1)) 3) = X := ⟨_, rfl⟩
      have hXB : Below wo.heap.size wo X := by rw [← hX]; exact bal (bdr (Below.refl _ _))
      have hXs : X.heap.size = wo.heap.size + 1 := by rw [← hX, World.size_alloc]; rfl
      have hXz : X.heap[wo.heap.size]? = some (.cells ((List.range nT).map fun _ => Value.int .i64 (((fun _ _ => 0 : Nat → Nat → Nat) 0 0 : Nat) : Int)).toArray 3 (0, 0)) := by
        have h1 := World.alloc_heap_new wo.drew (Obj.cells (madeCells (Value.int .i64 0).cells (nT * 1)) 3)
        rw [hX, show madeCells (Value.int .i64 0).cells (nT * 1) = _ from made_int nT] at h1
        exact h1
      have hBX := hBt.out.below hXB
      have hpl := hBX.toks.1
      have x0 := hBX.toks.cellAt (t * 4 + 3) (by omega)
      rw [List.getElem?_eq_getElem (by omega)] at x0
      obtain ⟨y0, hy0⟩ : ∃ y0, (tkCellsS T (fun i => if i < t then swV W.heap.size nT i else .slice none 0 0))[t * 4 + 3]'(by omega) = y0 := ⟨_, rfl⟩
      rw [hy0] at x0
      have x1 := hBX.toks.frozenAt (t * 4 + 3)
      have hdw : wo.drew.heap.size = W.heap.size + t := hszr
      rw [hX, hdw]
      have HB' : Hid (BtV (X.setCell ⟨gt, t * 4 + 3, none⟩ (.slice (some ⟨W.heap.size + t, 0, none⟩) nT nT)) B gb nT (tkCellsS T (fun i => if i < t + 1 then swV W.heap.size nT i else .slice none 0 0)) M (.slice (some ⟨gt, 0, none⟩) nT cT) vN pvN) := hid (by
        have h1 := hBX.setTok (t * 4 + 3) (.slice (some ⟨W.heap.size + t, 0, none⟩) nT nT)
        have e := tkCellsS_set T (fun i => if i < t then swV W.heap.size nT i else .slice none 0 0) (fun i => if i < t + 1 then swV W.heap.size nT i else .slice none 0 0) t (by rw [HTL.out]; exact hlt) (fun i hi => by
          by_cases h2 : i < t
          · simp only [if_pos h2, if_pos (show i < t + 1 by omega)]
          · simp only [if_neg h2, if_neg (show ¬ i < t + 1 by omega)])
        simp only [if_pos (Nat.lt_succ_self t)] at e
        rw [show swV W.heap.size nT t = .slice (some ⟨W.heap.size + t, 0, none⟩) nT nT from rfl] at e
        rw [e] at h1
        exact h1)
      have HZ' : Hid (∀ i, i < t + 1 → (X.setCell ⟨gt, t * 4 + 3, none⟩ (.slice (some ⟨W.heap.size + t, 0, none⟩) nT nT)).heap[W.heap.size + i]? = some (.cells ((List.range nT).map fun _ => Value.int .i64 (((fun _ _ => 0 : Nat → Nat → Nat) 0 0 : Nat) : Int)).toArray 3 (0, 0))) := hid (fun i hi => by
        refine (Below.heap_setCell _ _ _ _ (by show W.heap.size + i ≠ gt; omega)).trans ?_
        by_cases h2 : i < t
        · exact (hXB.block _ (by omega)).trans (hZ.out i h2)
        · rw [show W.heap.size + i = wo.heap.size by omega]; exact hXz)
      have HK' : Hid (Keeps W (X.setCell ⟨gt, t * 4 + 3, none⟩ (.slice (some ⟨W.heap.size + t, 0, none⟩) nT nT)) (Value.slice (some ⟨gt, 0, none⟩) nT cT).ownBlock.toList) := hid ((hK.out.trans (Keeps.of_below hXB _)).setCell (by simp [Value.ownBlock]) _)
      have hsz' : (X.setCell ⟨gt, t * 4 + 3, none⟩ (.slice (some ⟨W.heap.size + t, 0, none⟩) nT nT)).heap.size = W.heap.size + (t + 1) := by
        show (X.heap.modify _ _).size = _
        rw [Array.size_modify]; omega
      clear hX hXB hXs hXz hBX hpl hy0 hdw hZ hK hBt
      show wpList _ _ _ _ _ _
      go_wp2
      go_roundw
      case rel => exact ⟨t + 1, by omega, by go_num, HB', HZ', hsz', HK'⟩
      case measure => simp [intOf]; omega
    · have e : t = nT := by omega
      rw [e] at hBt hZ hszr
      clear e ht
      have HS0 : Hid (SwM wo W.heap.size nT (swpF f (P.take 0))) := hid (fun i hi => hZ.out i hi)
      have HB1 : Hid (BtV wo B gb nT (tkCellsS T (swV W.heap.size nT)) M (.slice aT nT cT) vN pvN) := hid (by
        rw [tkCellsS_congr (g := fun i => if i < nT then swV W.heap.size nT i else .slice none 0 0) (fun i hi => by rw [if_pos (by rw [HTL.out] at hi; exact hi)])]
        exact hBt.out)
      have HN1 : Hid (NumV wo bn n f) := hid (by rw [HF.out]; exact HNu.out.off HTs.out hK.out)
      have HBW1 : Hid (Below Wb.heap.size Wb wo) := hid (HBW.out.trans (hK.out.below hbsz (fun q hq => Nat.le_trans hB (HGE.out q hq))))
      have hbnW : bn < W.heap.size := HNu.out.lt
      clear hZ hBt HNu
      go_wp2
      go_loopw [36] (fun i wq => ∃ k : Nat, k ≤ n ∧ i = .int .i64 k ∧ Hid (SwM wq W.heap.size nT (swpF f (P.take k))) ∧ Hid (BtV wq B gb nT (tkCellsS T (swV W.heap.size nT)) M (.slice aT nT cT) vN pvN) ∧ Hid (Below W.heap.size wo wq)) (fun i _ => n - (intOf i).toNat)
      case atStart => exact ⟨0, Nat.zero_le _, rfl, HS0, HB1, hid (Below.refl _ _)⟩
      case round =>
        clear HS0 HB1
        obtain ⟨k, hk, rfl, hS, hBq, hb⟩ := hrel
        have hszq := hb.out.size
        have hWq : Below Wb.heap.size Wb wr := HBW1.out.trans (hb.out.mono (by omega))
        by_cases hlt2 : k < n
        · obtain ⟨x, hx⟩ : ∃ x, P[k]? = some x := ⟨_, List.getElem?_eq_getElem (by have := HN.out; omega)⟩
          have hpos : ∀ y ∈ P, y.2.1 = 1 → 1 ≤ swVal y := fun y hy h1 => by
            have := numB_val (HGK.out.swn y hy h1).1
            unfold swVal; omega
          have hnext := fun t u => swpF_next f hx hpos t u
          have hxok := HOK.out.ok x (List.mem_of_getElem? hx)
          have hx2 := HOK.out.sh x (List.mem_of_getElem? hx)
          have hus := HOK.out.usz x (List.mem_of_getElem? hx)
          obtain ⟨p, hp, hWV, k0, k1, k2⟩ := (HV.out.below hWq).at hx
          have hl3 : 3 ≤ x.2.2.length := hxok.1
          obtain ⟨gw, q, qc, csw, rfl, hqc, hbw, c1, c2⟩ := words_cells hWV hl3
          have hgw := lt_of_block hbw
          have HWV : Hid _ := hid hWV
          have HX : Hid _ := hid hx
          have HNX : Hid _ := hid hnext
          obtain ⟨at_, sh, l⟩ := x
          simp only at k0 k1 k2 hx2 c1 c2 hl3 hus
          have hgr : g < wr.heap.size := Nat.lt_of_lt_of_le hgl hWq.size
          clear hp hxok hWV hx hpos hnext
          by_cases hs1 : sh = 1
          · subst hs1
            have hmem := List.mem_of_getElem? HX.out
            have hl4 : l.length = 4 := (HGK.out.swn _ hmem rfl).2
            have hnum : numB (nth l 3) = true := (HGK.out.swn _ hmem rfl).1
            obtain ⟨t1, ht1, e1⟩ := code_tok HGK.out (HGK.out.swk _ hmem rfl).1 (HGK.out.swm _ hmem rfl).1
            obtain ⟨t2, ht2, e2⟩ := code_tok HGK.out (HGK.out.swk _ hmem rfl).2 (HGK.out.swm _ hmem rfl).2
            simp only at e1 e2
            rw [← HF.out] at e1 e2
            rw [← HTK.out] at ht1 ht2
            obtain ⟨gt, rfl, hgt, hcT⟩ := HSH.out (by omega)
            have hu1 : (nth l 1).size ≤ 4000 := hus _ (by show nth l 1 ∈ [nth l 1, nth l 2]; simp)
            have hu2 : (nth l 2).size ≤ 4000 := hus _ (by show nth l 2 ∈ [nth l 1, nth l 2]; simp)
            have hN2 : NumV wr bn n f := HN1.out.block (hb.out.block bn hbnW)
            have hN3 : NumV (wr.alloc (.cells #[.int .i64 at_, .int .i64 1, .slice (some ⟨gw, 1, none⟩) (q + 2) qc] 325)) bn n f := hN2.below (bal (Below.refl _ _))
            have HN3 : Hid _ := hid hN3
            obtain ⟨hq1, c3⟩ := words_third HWV.out (by show 4 ≤ l.length; omega)
            have hval := numB_val hnum
            have hs3 := (num_size hnum).1
            have HNM : Hid _ := hid hnum
            obtain ⟨nv, hnv⟩ : ∃ nv, valD (nth l 3).data.toList = nv := ⟨_, rfl⟩
            rw [hnv] at hval
            have CC : Hid (∀ w', Below wr.heap.size wr w' → Calls Tryz.prog 200 #[.string (nth l 3)] w' fun e w'' => e = .returned (.tuple #[.int .i64 nv, .bool true]) ∧ Below w'.heap.size w' w'') := hid fun w' hb' => by
              refine (pcost_any (nth l 3) w' (HG.out.below (hWq.trans (hb'.mono hWq.size)) HG.out.size) (by omega)).mono ?_
              rintro e w'' ⟨⟨m, rfl, hm⟩, hb''⟩
              rw [hm HNM.out, HNM.out, hnv]
              exact ⟨rfl, hb''⟩
            have HNV : Hid _ := hid hnv
            obtain ⟨Wl, hWl⟩ : ∃ Wl, wr.alloc (.cells #[.int .i64 at_, .int .i64 1, .slice (some ⟨gw, 1, none⟩) (q + 2) qc] 325) = Wl := ⟨_, rfl⟩
            have HBl : Hid (Below wr.heap.size wr Wl) := hid (by rw [← hWl]; exact bal (Below.refl _ _))
            have HSl : Hid (SwM Wl W.heap.size nT (swpF f (P.take k))) := hid (hS.out.below HBl.out (by omega))
            have HBt : Hid (BtV Wl B gb nT (tkCellsS T (swV W.heap.size nT)) M (.slice (some ⟨gt, 0, none⟩) nT cT) vN pvN) := hid (hBq.out.below HBl.out)
            have d2 : Wl.cell? ⟨wr.heap.size, 2, none⟩ = some (.slice (some ⟨gw, 1, none⟩) (q + 2) qc) := by rw [← hWl]; exact box_at wr _ _ 2
            have e1' := (HBl.out.cell (p := ⟨gw, 1, none⟩) (by exact hgw)).trans c1
            have e2' := (HBl.out.cell (p := ⟨gw, 2, none⟩) (by exact hgw)).trans c2
            have e3' := (HBl.out.cell (p := ⟨gw, 3, none⟩) (by exact hgw)).trans c3
            have g0 := HBt.out.cells.1
            have hpl := HBt.out.toks.1
            have s3 := HBt.out.toks.cellAt (t1 * 4 + 3) (by omega)
            obtain ⟨xt, hxt⟩ : ∃ x, T[t1]? = some x := ⟨_, List.getElem?_eq_getElem (by rw [HTL.out]; exact ht1)⟩
            rw [tkCellsS_at hxt (j := 3) (by omega)] at s3
            have s3' : Wl.cell? ⟨gt, t1 * 4 + 3, none⟩ = some (.slice (some ⟨W.heap.size + t1, 0, none⟩) nT nT) := s3
            clear s3
            have s4 := HSl.out.cell ht1 ht2
            have s5 : Wl.frozen? ⟨W.heap.size + t1, t2, none⟩ = false := block_free (HSl.out t1 ht1)
            have hNd : NumV Wl.drew bn n f := by rw [← hWl]; exact HN3.out.below (bdr (Below.refl _ _))
            have L1 := hNd.look (nth l 1) (by unfold maxLen; omega)
            have L2 := hNd.look (nth l 2) (by unfold maxLen; omega)
            rw [e1, show 2 * (t1 : Int) / 2 = t1 by omega] at L1
            rw [e2, show 2 * (t2 : Int) / 2 = t2 by omega] at L2
            obtain ⟨b1, hb1⟩ : ∃ b, decide (2 * (t1 : Int) % 2 = 1) = b := ⟨_, rfl⟩
            obtain ⟨b2, hb2⟩ : ∃ b, decide (2 * (t2 : Int) % 2 = 1) = b := ⟨_, rfl⟩
            rw [hb1] at L1
            rw [hb2] at L2
            have L1' := L1
            have L2' := L2
            clear L1 L2 hNd
            obtain ⟨sv, hsv⟩ : ∃ sv, swpF f (P.take k) t1 t2 = sv := ⟨_, rfl⟩
            rw [hsv] at s4
            have HSV : Hid _ := hid hsv
            have HE : Hid (f (nth l 1) = 2 * (t1 : Int) ∧ f (nth l 2) = 2 * (t2 : Int)) := hid ⟨e1, e2⟩
            have hlt1 : (t1 : Int) < nT := by omega
            have hlt2' : (t2 : Int) < nT := by omega
            have hwl := HBl.out.size
            have hfd1 := fun w => part_field b1 (t1 : Int) w
            have hfd2 := fun w => part_field b2 (t2 : Int) w
            have hq0 : (0 : Int) < (q : Int) + 2 := by omega
            have hq1' : (1 : Int) < (q : Int) + 2 := by omega
            have hq2 : (2 : Int) < (q : Int) + 2 := by omega
            have HWl : Hid _ := hid hWl
            clear hWl
            clear hN2 hN3 hnum hnv hb1 hb2 hxt hsv e1 e2 hmem hus hS hBq c1 c2 c3 hpl
            go_wp2
            rw [HWl.out]
            clear HWl
            refine wp_region_held_drew (S := fun w' => w'.cell? ⟨wr.heap.size, 2, none⟩ = some (.slice (some ⟨gw, 1, none⟩) (q + 2) qc) ∧ w'.cell? ⟨gw, 1, none⟩ = some (.string (nth l 1)) ∧ w'.cell? ⟨gw, 2, none⟩ = some (.string (nth l 2)) ∧ (Instr.lookup 322 (.map (some bn)) (.string (nth l 1)) false).run Tryz.prog w' = .ok (.agg #[.bool b1, .int .i64 t1]) w' ∧ (Instr.lookup 322 (.map (some bn)) (.string (nth l 2)) false).run Tryz.prog w' = .ok (.agg #[.bool b2, .int .i64 t2]) w') (by kernel_rfl) ⟨d2, e1', e2', L1', L2'⟩ (fun hHeld => ?_)
            refine tkA 0 ?vv43 rfl ?hy43 hHeld ?_
            case hy43 => (intro w hSw; (try dsimp only at hSw); first | (go_simp; done) | (go_simp; with_reducible rfl))
            try simp only [zA, zC, Act.put, zD, zE, zF]
            refine tkA 1 ?vv26 rfl ?hy26 hHeld ?_
            case hy26 => (intro w hSw; (try dsimp only at hSw); first | (go_simp; done) | (go_simp; with_reducible rfl))
            try simp only [zA, zB, zC, Act.put, zD, zE, zF]
            refine tkA 2 ?vv27 rfl ?hy27 hHeld ?_
            case hy27 => (intro w hSw; (try dsimp only at hSw); first | (go_simp; done) | (go_simp; with_reducible rfl))
            try simp only [zA, zB, zC, Act.put, zD, zE, zF]
            refine tkA 3 ?vv28 rfl ?hy28 hHeld ?_
            case hy28 => (intro w hSw; (try dsimp only at hSw); first | (go_simp; done) | (go_simp; with_reducible rfl))
            try simp only [zA, zB, zC, Act.put, zD, zE, zF]
            refine tkA 4 ?vv29 rfl ?hy29 hHeld ?_
            case hy29 => (intro w hSw; (try dsimp only at hSw); first | (go_simp; done) | (go_simp; with_reducible rfl))
            try simp only [zA, zB, zC, Act.put, zD, zE, zF]
            refine tkA 5 ?vv30 rfl ?hy30 hHeld ?_
            case hy30 => (intro w hSw; (try dsimp only at hSw); first | (go_simp; done) | (go_simp; with_reducible rfl))
            try simp only [zA, zB, zC, Act.put, zD, zE, zF]
            refine tkA 6 ?vv31 rfl ?hy31 hHeld ?_
            case hy31 => (intro w hSw; (try dsimp only at hSw); first | (go_simp; done) | (go_simp; with_reducible rfl))
            try simp only [zA, zB, zC, Act.put, zD, zE, zF]
            refine tkA 7 ?vv32 rfl ?hy32 hHeld ?_
            case hy32 => (intro w hSw; (try dsimp only at hSw); first | (go_simp; done) | (go_simp; with_reducible rfl))
            try simp only [zA, zB, zC, Act.put, zD, zE, zF]
            refine tkA 8 ?vv33 rfl ?hy33 hHeld ?_
            case hy33 => (intro w hSw; (try dsimp only at hSw); first | (go_simp; done) | (go_simp; with_reducible rfl))
            try simp only [zA, zB, zC, Act.put, zD, zE, zF]
            refine tkA 9 ?vv34 rfl ?hy34 hHeld ?_
            case hy34 => (intro w hSw; (try dsimp only at hSw); first | (go_simp; done) | (go_simp; with_reducible rfl))
            try simp only [zA, zB, zC, Act.put, zD, zE, zF]
            refine tkA 10 ?vv35 rfl ?hy35 hHeld ?_
            case hy35 => (intro w hSw; (try dsimp only at hSw); first | (go_simp; done) | (go_simp; with_reducible rfl))
            try simp only [zA, zB, zC, Act.put, zD, zE, zF]
            refine tkA 11 ?vv36 rfl ?hy36 hHeld ?_
            case hy36 => (intro w hSw; (try dsimp only at hSw); first | (go_simp; done) | (go_simp; with_reducible rfl))
            try simp only [zA, zB, zC, Act.put, zD, zE, zF]
            refine tkA 12 ?vv37 rfl ?hy37 hHeld ?_
            case hy37 => (intro w hSw; (try dsimp only at hSw); first | (go_simp; done) | (go_simp; with_reducible rfl))
            try simp only [zA, zB, zC, Act.put, zD, zE, zF]
            refine tkA 13 ?vv38 rfl ?hy38 hHeld ?_
            case hy38 => (intro w hSw; (try dsimp only at hSw); first | (go_simp; done) | (go_simp; with_reducible rfl))
            try simp only [zA, zB, zC, Act.put, zD, zE, zF]
            refine tkA 14 ?vv39 rfl ?hy39 hHeld ?_
            case hy39 => (intro w hSw; (try dsimp only at hSw); first | (go_simp; done) | (go_simp; with_reducible rfl))
            try simp only [zA, zB, zC, Act.put, zD, zE, zF]
            refine tkA 15 ?vv40 rfl ?hy40 hHeld ?_
            case hy40 => (intro w hSw; (try dsimp only at hSw); first | (go_simp; done) | (go_simp; with_reducible rfl))
            try simp only [zA, zB, zC, Act.put, zD, zE, zF]
            refine wpAnyH_done (by kernel_rfl) ?_ _
            clear hHeld L1' L2'
            by_cases h0 : sv = 0
            · subst h0
              have s4' : Wl.cell? ⟨W.heap.size + t1, t2, none⟩ = some (.int .i64 0) := s4
              clear s4
              go_wp2_with (go_at_call 200; refine (CC.out _ (bdr HBl.out)).mono ?_; rintro e w5 ⟨rfl, hb5⟩; have HB5 : Hid (Below Wl.heap.size Wl w5) := hid (by have h := hb5; exact (bdr (Below.refl _ _)).trans h); have s5' := (HB5.out.cell (p := ⟨W.heap.size + t1, t2, none⟩) (by exact World.block_lt_of_cell? _ _ s4')).trans s4'; have fr5 : w5.frozen? ⟨W.heap.size + t1, t2, none⟩ = false := block_free ((HSl.out.below HB5.out (by omega)) t1 ht1); clear hb5)
              have hS5 := HSl.out.below HB5.out (by omega)
              have hnn : ((nv.toNat : Nat) : Int) = nv := Int.toNat_of_nonneg (by omega)
              have HS' : Hid (SwM (w5.setCell ⟨W.heap.size + t1, t2, none⟩ (.int .i64 nv)) W.heap.size nT (swpF f (P.take (k + 1)))) := hid (by
                have hv : swpF f (P.take (k + 1)) t1 t2 = nv.toNat := by
                  rw [HNX.out t1 t2, if_pos ⟨HSV.out, rfl, HE.out.1, HE.out.2⟩]
                  show (valD (nth l 3).data.toList).toNat = _
                  rw [HNV.out]
                have h1 := hS5.put (S' := swpF f (P.take (k + 1))) ht1 ht2 (fun i j hij => by
                  rw [HNX.out i j, if_neg]
                  rintro ⟨_, _, h3, h4⟩
                  have e1 := HE.out.1
                  have e2 := HE.out.2
                  simp only at h3 h4
                  exact hij ⟨by omega, by omega⟩)
                rw [hv, hnn] at h1
                exact h1)
              have HBq' : Hid (BtV (w5.setCell ⟨W.heap.size + t1, t2, none⟩ (.int .i64 nv)) B gb nT (tkCellsS T (swV W.heap.size nT)) M (.slice (some ⟨gt, 0, none⟩) nT cT) vN pvN) := hid ((HBt.out.below HB5.out).setInt (hS5 t1 ht1) _)
              have HB' : Hid (Below W.heap.size wo (w5.setCell ⟨W.heap.size + t1, t2, none⟩ (.int .i64 nv))) := hid ((((hb.out.trans (HBl.out.mono (by omega))).trans (HB5.out.mono (by omega)))).setCell (by show W.heap.size ≤ W.heap.size + t1; omega) _)
              clear hS5 hnn
              go_roundw
              case rel => exact ⟨k + 1, by omega, by go_num, HS', HBq', HB'⟩
              case measure => simp [intOf]; omega
            · have hz0 : ((sv : Int) == 0) = false := by simpa using (show ¬ (sv : Int) = 0 by omega)
              have HS' : Hid (SwM Wl.drew W.heap.size nT (swpF f (P.take (k + 1)))) := hid (by
                have e : swpF f (P.take (k + 1)) = swpF f (P.take k) := by
                  funext i j
                  rw [HNX.out i j, if_neg]
                  rintro ⟨h1, _, h3, h4⟩
                  have e1 := HE.out.1
                  have e2 := HE.out.2
                  simp only at h3 h4
                  obtain rfl : i = t1 := by omega
                  obtain rfl : j = t2 := by omega
                  exact h0 (by rw [← HSV.out]; exact h1)
                rw [e]
                exact HSl.out.below (bdr (Below.refl Wl.heap.size Wl)) (by omega))
              have HBq' : Hid (BtV Wl.drew B gb nT (tkCellsS T (swV W.heap.size nT)) M (.slice (some ⟨gt, 0, none⟩) nT cT) vN pvN) := hid (HBt.out.below (bdr (Below.refl _ _)))
              have HB' : Hid (Below W.heap.size wo Wl.drew) := hid (hb.out.trans ((bdr HBl.out).mono (by omega)))
              go_wp2
              go_roundw
              case rel => exact ⟨k + 1, by omega, by go_num, HS', HBq', HB'⟩
              case measure => simp [intOf]; omega
          · have hns : ((sh : Int) == 1) = false := by simpa using (show ¬ (sh : Int) = 1 by omega)
            have HS' : Hid (SwM (wr.alloc (.cells #[.int .i64 at_, .int .i64 sh, .slice (some ⟨gw, 1, none⟩) (q + 2) qc] 325)) W.heap.size nT (swpF f (P.take (k + 1)))) := hid (by
              have e : swpF f (P.take (k + 1)) = swpF f (P.take k) := by
                funext t u
                rw [HNX.out t u, if_neg (fun h => hs1 h.2.1)]
              rw [e]
              exact hS.out.below (B := wr.heap.size) (bal (Below.refl _ _)) (by omega))
            have HB' : Hid (Below W.heap.size wo (wr.alloc (.cells #[.int .i64 at_, .int .i64 sh, .slice (some ⟨gw, 1, none⟩) (q + 2) qc] 325))) := hid (hb.out.alloc (by omega) _)
            have HBq' := hid (hBq.out.below (bal (o := .cells #[.int .i64 at_, .int .i64 sh, .slice (some ⟨gw, 1, none⟩) (q + 2) qc] 325) (Below.refl wr.heap.size wr)))
            clear hS hb hus hBq
            go_wp2
            go_roundw
            case rel => exact ⟨k + 1, by omega, by go_num, HS', HBq', HB'⟩
            case measure => simp [intOf]; omega
        · have e : k = n := by omega
          subst e
          rw [HN.out, List.take_length] at hS
          go_wp2
          go_end0
          exact ⟨rfl, hBq.out, by rw [← HF.out]; exact hS.out, hK.out.thenBelow hb.out⟩

end Go.Proofs.YtjjggdcnpndgjaaGreatDoor
