/- What source.built lays: parts, rules, names and tokens. Pure: what source.built has laid behind so many lines, rules, words. -/
import Derived.Test.YtikfepenfjnoaaaGreatDoorJ14
import Derived.Test.YtikfepenfjnoaaaGreatDoorJ15
import Derived.Test.YtikfepenfjnoaaaGreatDoorJ12
namespace Go.Proofs.YtikfepenfjnoaaaGreatDoor
open Go.RowKit Go.Shelf

/-- No block of this kind is in S. -/
def Off (w : World) (S : List Nat) (t : Nat) : Prop := ∀ g c, w.heap[g]? = some (.cells c t (0, 0)) → g ∉ S

theorem own_off {w : World} {B e sz n : Nat} {v : Value} {xs : List Value} {S : List Nat} (h : w.ownsRow B e sz v n xs) (ho : Off w S e) : ∀ g, v.ownBlock = some g → g ∉ S := fun g hg => by
  obtain ⟨c, hc⟩ := own_kind h hg
  exact ho g c hc
theorem off_own {w : World} {B e e' sz n : Nat} {v : Value} {xs : List Value} (h : w.ownsRow B e' sz v n xs) (hne : e ≠ e') : Off w v.ownBlock.toList e := fun g c hc hm => by
  obtain ⟨c', hc'⟩ := own_kind h (mem_own hm)
  rw [hc] at hc'
  injection hc' with hc'
  injection hc' with _ he
  exact hne he
theorem off_nil (w : World) (e : Nat) : Off w [] e := fun g c _ hm => by cases hm
theorem off_new {w : World} {S : List Nat} (h : ∀ q, q ∈ S → w.heap.size ≤ q) (e : Nat) : Off w S e := fun g c hc hm => by have := lt_of_block hc; have := h g hm; omega

theorem own_agree {w W : World} {B e sz n : Nat} {v : Value} {xs : List Value} (h : w.ownsRow B e sz v n xs) (hW : ∀ q, B ≤ q → q < w.heap.size → W.heap[q]? = w.heap[q]?) : W.ownsRow B e sz v n xs := by
  obtain ⟨h1, h2⟩ := h
  refine ⟨h1, ?_⟩
  rcases h2 with h2 | ⟨g, cap, cur, hv, hg, hh, r⟩
  · exact .inl h2
  · exact .inr ⟨g, cap, cur, hv, hg, by rw [hW g hg (lt_of_block hh)]; exact hh, r⟩

def ptCells (ps : List Pt) : List Value := ps.flatMap fun p => [.bool (isNam p), .int .i64 (numOf p)]
def tkCells (T : List (ByteArray × Nat)) : List Value := T.flatMap fun t => [.string t.1, .int .i64 (t.2 : Int)]
def nmCells (M : List Nm) (pv : List Value) : List Value := (M.zip pv).flatMap fun t => [.string t.1.1, t.2]

def PrtM (w : World) (B : Nat) (v : Value) (ps : List Pt) : Prop := w.ownsRow B 223 2 v ps.length (ptCells ps)
structure RulM (w : World) (B : Nat) (v : Value) (rs : List (List Pt)) (pvs : List Value) : Prop where
  row : w.ownsRow B 209 1 v rs.length pvs
  each : ∀ (i : Nat) ps p, rs[i]? = some ps → pvs[i]? = some p → PrtM w B p ps
structure BtV (w : World) (B gb : Nat) (T : List (ByteArray × Nat)) (M : List Nm) (vT vN : Value) (pv : List Value) : Prop where
  blk : w.heap[gb]? = some (.cells #[vT, vN] 119 (0, 0))
  hb : B ≤ gb
  toks : w.ownsRow B 240 2 vT T.length (tkCells T)
  names : w.ownsRow B 192 2 vN M.length (nmCells M pv)
  pvl : pv.length = M.length
  ruls : ∀ (i : Nat) nm p, M[i]? = some nm → pv[i]? = some p → ∃ pvs, RulM w B p nm.2 pvs

section
variable {w w1 : World} {B gb : Nat} {S : List Nat}

theorem RulM.keeps {v : Value} {rs : List (List Pt)} {pvs : List Value} (h : RulM w B v rs pvs) (hk : Keeps w w1 S) (h1 : Off w S 209) (h2 : Off w S 223) : RulM w1 B v rs pvs :=
  ⟨own_keeps h.row hk (own_off h.row h1), fun i ps p hr hp => own_keeps (h.each i ps p hr hp) hk (own_off (h.each i ps p hr hp) h2)⟩
theorem RulM.base {B' : Nat} {v : Value} {rs : List (List Pt)} {pvs : List Value} (h : RulM w B v rs pvs) (hB : B' ≤ B) : RulM w B' v rs pvs :=
  ⟨ownsRow_base h.row hB, fun i ps p hr hp => ownsRow_base (h.each i ps p hr hp) hB⟩
theorem RulM.setOther {v u : Value} {rs : List (List Pt)} {pvs : List Value} {j : Nat} {cs : Array Value} {t : Nat} {fr : Nat × Nat} (h : RulM w B v rs pvs) (hb : w.heap[gb]? = some (.cells cs t fr)) (h1 : 209 ≠ t) (h2 : 223 ≠ t) : RulM (w.setCell ⟨gb, j, none⟩ u) B v rs pvs :=
  ⟨row_over' h.row hb h1, fun i ps p hr hp => row_over' (h.each i ps p hr hp) hb h2⟩

theorem BtV.cells {T : List (ByteArray × Nat)} {M : List Nm} {vT vN : Value} {pv : List Value} (h : BtV w B gb T M vT vN pv) : w.cell? ⟨gb, 0, none⟩ = some vT ∧ w.cell? ⟨gb, 1, none⟩ = some vN ∧ w.frozen? ⟨gb, 0, none⟩ = false ∧ w.frozen? ⟨gb, 1, none⟩ = false :=
  ⟨block_cell h.blk, block_cell h.blk, block_free h.blk, block_free h.blk⟩

theorem BtV.below {T : List (ByteArray × Nat)} {M : List Nm} {vT vN : Value} {pv : List Value} (h : BtV w B gb T M vT vN pv) (hb : Below w.heap.size w w1) : BtV w1 B gb T M vT vN pv :=
  ⟨(hb.block gb (lt_of_block h.blk)).trans h.blk, h.hb, own_keeps h.toks (Keeps.of_below hb []) (by simp), own_keeps h.names (Keeps.of_below hb []) (by simp), h.pvl,
   fun i nm p hm hp => by obtain ⟨pvs, hr⟩ := h.ruls i nm p hm hp; exact ⟨pvs, hr.keeps (Keeps.of_below hb []) (off_nil _ _) (off_nil _ _)⟩⟩

theorem BtV.addTok {T : List (ByteArray × Nat)} {M : List Nm} {vT vN v' : Value} {pv : List Value} (h : BtV w B gb T M vT vN pv) (hk : Keeps w w1 vT.ownBlock.toList) {t : ByteArray × Nat}
    (hown : w1.ownsRow B 240 2 v' (T.length + 1) (tkCells T ++ [.string t.1, .int .i64 (t.2 : Int)])) : BtV (w1.setCell ⟨gb, 0, none⟩ v') B gb (T ++ [t]) M v' vN pv := by
  have hgb : gb ∉ vT.ownBlock.toList := fun hm => own_not_block h.toks h.blk (by decide) (mem_own hm)
  have hb1 := (hk.block gb (lt_of_block h.blk) hgb).trans h.blk
  refine ⟨cells_set hb1 v', h.hb, ?_, ?_, h.pvl, fun i nm p hm hp => ?_⟩
  · have e : tkCells (T ++ [t]) = tkCells T ++ [.string t.1, .int .i64 (t.2 : Int)] := by simp [tkCells]
    rw [e, List.length_append]
    exact row_over' hown hb1 (by decide)
  · exact row_over h.names hk (own_off h.names (off_own h.toks (by decide))) (fun g hg e => own_not_block h.names h.blk (by decide) (e ▸ hg))
  · obtain ⟨pvs, hr⟩ := h.ruls i nm p hm hp
    exact ⟨pvs, (hr.keeps hk (off_own h.toks (by decide)) (off_own h.toks (by decide))).setOther hb1 (by decide) (by decide)⟩

theorem BtV.addName {T : List (ByteArray × Nat)} {M : List Nm} {vT vN v' vR : Value} {pv pvs : List Value} (h : BtV w B gb T M vT vN pv) (hk : Keeps w w1 vN.ownBlock.toList) {nm : Nm} (hR : RulM w B vR nm.2 pvs)
    (hown : w1.ownsRow B 192 2 v' (M.length + 1) (nmCells M pv ++ [.string nm.1, vR])) : BtV (w1.setCell ⟨gb, 1, none⟩ v') B gb T (M ++ [nm]) vT v' (pv ++ [vR]) := by
  have hgb : gb ∉ vN.ownBlock.toList := fun hm => own_not_block h.names h.blk (by decide) (mem_own hm)
  have hb1 := (hk.block gb (lt_of_block h.blk) hgb).trans h.blk
  have hl := h.pvl
  refine ⟨cells_set hb1 v', h.hb, ?_, ?_, by simp [hl], fun i q p hm hp => ?_⟩
  · exact row_over h.toks hk (own_off h.toks (off_own h.names (by decide))) (fun g hg e => own_not_block h.toks h.blk (by decide) (e ▸ hg))
  · have e : nmCells (M ++ [nm]) (pv ++ [vR]) = nmCells M pv ++ [.string nm.1, vR] := by
      unfold nmCells
      rw [List.zip_append hl.symm]
      simp
    rw [e, List.length_append]
    exact row_over' hown hb1 (by decide)
  · have keep : ∀ {v : Value} {rs : List (List Pt)} {ps : List Value}, RulM w B v rs ps → RulM (w1.setCell ⟨gb, 1, none⟩ v') B v rs ps := fun hr => (hr.keeps hk (off_own h.names (by decide)) (off_own h.names (by decide))).setOther hb1 (by decide) (by decide)
    by_cases hi : i < M.length
    · rw [List.getElem?_append_left hi] at hm
      rw [List.getElem?_append_left (by omega)] at hp
      obtain ⟨ps, hr⟩ := h.ruls i q p hm hp
      exact ⟨ps, keep hr⟩
    · rw [List.getElem?_append_right (by omega)] at hm
      rw [List.getElem?_append_right (by omega)] at hp
      obtain ⟨h1, _⟩ := List.getElem?_eq_some_iff.1 hm
      simp at h1
      rw [show i - M.length = 0 by omega] at hm
      rw [show i - pv.length = 0 by omega] at hp
      simp at hm hp
      subst hm; subst hp
      exact ⟨pvs, keep hR⟩
end

theorem RulM.push {w w1 : World} {B : Nat} {v v' p : Value} {rs : List (List Pt)} {ps : List Pt} {pvs : List Value} (h : RulM w B v rs pvs) (hp : PrtM w B p ps) (hk : Keeps w w1 v.ownBlock.toList) (hown : w1.ownsRow B 209 1 v' (rs.length + 1) (pvs ++ [p])) : RulM w1 B v' (rs ++ [ps]) (pvs ++ [p]) := by
  have hpl : pvs.length = rs.length := by have := h.row.1; omega
  refine ⟨by rw [List.length_append]; exact hown, fun i q u hq hu => ?_⟩
  by_cases hi : i < rs.length
  · rw [List.getElem?_append_left hi] at hq
    rw [List.getElem?_append_left (by omega)] at hu
    exact own_keeps (h.each i q u hq hu) hk (own_off (h.each i q u hq hu) (off_own h.row (by decide)))
  · rw [List.getElem?_append_right (by omega)] at hq
    rw [List.getElem?_append_right (by omega)] at hu
    obtain ⟨h1, _⟩ := List.getElem?_eq_some_iff.1 hq
    simp at h1
    rw [show i - rs.length = 0 by omega] at hq
    rw [show i - pvs.length = 0 by omega] at hu
    simp at hq hu
    subst hq; subst hu
    exact own_keeps hp hk (own_off hp (off_own h.row (by decide)))

/-- The grammar's own cells are written as they were. -/
theorem BtV.again {w : World} {B gb : Nat} {T : List (ByteArray × Nat)} {M : List Nm} {vT vN : Value} {pv : List Value} (h : BtV w B gb T M vT vN pv) : BtV ((w.setCell ⟨gb, 0, none⟩ vT).setCell ⟨gb, 1, none⟩ vN) B gb T M vT vN pv := by
  have hb0 := cells_set (j := 0) h.blk vT
  have hb1 := cells_set (j := 1) hb0 vN
  refine ⟨hb1, h.hb, ?_, ?_, h.pvl, fun i nm p hm hp => ?_⟩
  · exact row_over' (row_over' h.toks h.blk (by decide)) hb0 (by decide)
  · exact row_over' (row_over' h.names h.blk (by decide)) hb0 (by decide)
  · obtain ⟨pvs, hr⟩ := h.ruls i nm p hm hp
    exact ⟨pvs, (hr.setOther h.blk (by decide) (by decide)).setOther hb0 (by decide) (by decide)⟩

theorem RulM.view {w : World} {B n₀ : Nat} {v : Value} {rs : List (List Pt)} {pvs : List Value} (h : RulM w B v rs pvs) (h0 : 0 < rs.length) (hn : w.heap.size ≤ n₀) : RulesV w n₀ v rs := by
  obtain ⟨g, cap, rfl, _, hlt, hc⟩ := owned_shape h.row h0
  refine ⟨g, cap, rfl, by omega, hc, fun r ps hr => ?_⟩
  have hi := (List.getElem?_eq_some_iff.1 hr).1
  have hpl : pvs.length = rs.length := by have := h.row.1; omega
  obtain ⟨p, hp⟩ : ∃ p, pvs[r]? = some p := ⟨_, List.getElem?_eq_getElem (by omega)⟩
  refine ⟨p, by rw [h.row.cellAt r (by omega)]; exact hp, ?_⟩
  have hP : w.ownsRow B 223 2 p ps.length (ptCells ps) := h.each r ps p hr hp
  rcases hP.2 with ⟨h1, h2⟩ | ⟨g2, cap2, cur, h1, _, hh, hnc, _⟩
  · exact ⟨none, 0, by rw [h2]; exact h1, by omega, fun h => by omega⟩
  · subst h1
    refine ⟨_, cap2, rfl, hnc, fun _ => ⟨g2, 0, rfl, by have := lt_of_block hh; omega, fun i q hq => ?_⟩⟩
    have hil := (List.getElem?_eq_some_iff.1 hq).1
    have h2 := fun j hj => flat2 (fun p : Pt => [Value.bool (isNam p), .int .i64 (numOf p)]) (fun _ => rfl) ps i q j hq hj
    rw [Nat.zero_add]
    refine ⟨?_, ?_⟩
    · rw [hP.cellAt _ (by omega)]; exact h2 0 (by omega)
    · rw [hP.cellAt _ (by omega)]; exact h2 1 (by omega)

/-- What built has laid at its end, in any world that has its blocks. -/
theorem BtV.done {w W : World} {B gb : Nat} {M : List Nm} {T : List (ByteArray × Nat)} {vT vN : Value} {pv : List Value} (h : BtV w B gb T M vT vN pv) (hW : ∀ q, B ≤ q → q < w.heap.size → W.heap[q]? = w.heap[q]?) {N : NG} (hN : N.Ok) (leN : N.nN ≤ 20) (leT : N.nT ≤ 20) (leR : N.rules.length ≤ 60)
    (hT : T.length = N.nT) (hM : M.length = N.nN) (hr : N.rules = rulN M) (hput : ∀ t x, T[t]? = some x → x.2 = N.put t) (hrl : ∀ nm ∈ M, 0 < nm.2.length) {adT aN : Option Addr} {nT nN capT capN : Nat} (hvT : vT = .slice adT nT capT) (hvN : vN = .slice aN nN capN) :
    nT = N.nT ∧ nN = N.nN ∧ ∃ gN, aN = some ⟨gN, 0, none⟩ ∧ PGr W w.heap.size N (T.map (·.1)) M adT capT gN capN := by
  have hTW := own_agree h.toks hW
  have hNW := own_agree h.names hW
  have hpos : 0 < M.length := by have := hN.pos; omega
  obtain ⟨gN, cN, hsh, _, hgl, hcl⟩ := owned_shape h.names hpos
  subst hvN
  injection hsh with e1 e2 e3
  subst e1; subst e3
  subst hvT
  have hnT : nT = T.length ∧ T.length ≤ capT ∧ (0 < T.length → ∃ g, adT = some ⟨g, 0, none⟩ ∧ g < w.heap.size) := by
    rcases h.toks.2 with ⟨h1, h2⟩ | ⟨g, cap, cur, h1, _, hh, hnc, _⟩
    · injection h1 with a1 a2 a3
      exact ⟨by omega, by omega, fun h => by omega⟩
    · injection h1 with a1 a2 a3
      subst a3
      exact ⟨a2, hnc, fun _ => ⟨g, a1, lt_of_block hh⟩⟩
  refine ⟨by omega, by omega, gN, rfl, ⟨hN, leN, leT, leR, by omega, by omega, by simp [hT], hM, hgl, hr, fun t ht => ?_, fun n nm hn => ?_⟩⟩
  · obtain ⟨g, rfl, hg⟩ := hnT.2.2 (by omega)
    obtain ⟨x, hx⟩ : ∃ x, T[t]? = some x := ⟨_, List.getElem?_eq_getElem (by omega)⟩
    have h2 := fun j hj => flat2 (fun t : ByteArray × Nat => [Value.string t.1, .int .i64 (t.2 : Int)]) (fun _ => rfl) T t x j hx hj
    have e1 := hnT.1
    subst e1
    refine ⟨g, rfl, hg, ?_, ?_⟩
    · rw [hTW.cellAt _ (by omega)]
      have : nth (T.map (·.1)) t = x.1 := by unfold nth; rw [List.getD_eq_getElem?_getD, List.getElem?_map, hx]; rfl
      rw [this]; exact h2 0 (by omega)
    · rw [hTW.cellAt _ (by omega), ← hput t x hx]; exact h2 1 (by omega)
  · have hi := (List.getElem?_eq_some_iff.1 hn).1
    have hpl := h.pvl
    obtain ⟨p, hp⟩ : ∃ p, pv[n]? = some p := ⟨_, List.getElem?_eq_getElem (by omega)⟩
    have hz : (M.zip pv)[n]? = some (nm, p) := by rw [List.getElem?_zip_eq_some]; exact ⟨hn, hp⟩
    have h2 := fun j hj => flat2 (fun t : Nm × Value => [Value.string t.1.1, t.2]) (fun _ => rfl) (M.zip pv) n (nm, p) j hz hj
    subst e2
    refine ⟨?_, p, ?_, ?_⟩
    · rw [hNW.cellAt _ (by omega)]; exact h2 0 (by omega)
    · rw [hNW.cellAt _ (by omega)]; exact h2 1 (by omega)
    · obtain ⟨pvs, hR⟩ := h.ruls n nm p hn hp
      have hRW : RulM W B p nm.2 pvs := ⟨own_agree hR.row hW, fun i ps p hr hp => own_agree (hR.each i ps p hr hp) hW⟩
      obtain ⟨g, cap, hv, hlt, hc, hcell⟩ := hRW.view (hrl nm (List.mem_of_getElem? hn)) (Nat.le_refl _)
      obtain ⟨g', cap', hv', _, hlt', _⟩ := owned_shape hR.row (hrl nm (List.mem_of_getElem? hn))
      rw [hv] at hv'
      injection hv' with k1 k2 k3
      injection k1 with k1
      injection k1 with k1
      refine ⟨g, cap, hv, by omega, hc, fun r ps hr => ?_⟩
      obtain ⟨q, hq, ad, cq, hq1, hq2, hq3⟩ := hcell r ps hr
      refine ⟨q, hq, ad, cq, hq1, hq2, fun h0 => ?_⟩
      obtain ⟨g2, off, j1, _, j3⟩ := hq3 h0
      refine ⟨g2, off, j1, ?_, j3⟩
      have hpl2 : pvs.length = nm.2.length := by have := hR.row.1; omega
      have hi2 := (List.getElem?_eq_some_iff.1 hr).1
      obtain ⟨q', hq'⟩ : ∃ p, pvs[r]? = some p := ⟨_, List.getElem?_eq_getElem (by omega)⟩
      have hcell2 : W.cell? ⟨g, r, none⟩ = some q' := by
        have h5 := hRW.row
        rw [hv] at h5
        rw [h5.cellAt r (by omega)]; exact hq'
      rw [hcell2] at hq
      injection hq with hq
      subst hq
      have hP := hR.each r ps q' hr hq'
      refine own_lt hP ?_
      rw [hq1, j1]; rfl

end Go.Proofs.YtikfepenfjnoaaaGreatDoor

namespace Go.Proofs.YtikfepenfjnoaaaGreatDoor
open Go.RowKit Go.Shelf

def tkOf (x : Ln) : ByteArray × Nat := (nth x.2.2 1, (valD (nth x.2.2 2).data.toList).toNat)
def tkL (P : List Ln) : List (ByteArray × Nat) := (tokLs P).map tkOf

theorem tkL_words (P : List Ln) : (tkL P).map (·.1) = twsL P := by
  unfold tkL twsL
  rw [List.map_map]; rfl
theorem tkL_put {P : List Ln} : ∀ (t : Nat) x, (tkL P)[t]? = some x → x.2 = (ngL P).put t := by
  intro t x h
  unfold tkL at h
  rw [List.getElem?_map] at h
  cases hy : (tokLs P)[t]? with
  | none => rw [hy] at h; cases h
  | some y =>
    rw [hy] at h
    injection h with h
    subst h
    show _ = (((tokLs P)[t]?.map fun x => valD (nth x.2.2 2).data.toList).getD 0).toNat
    rw [hy]; rfl
theorem pgL_pos (f : ByteArray → Int) (P : List Ln) : ∀ nm ∈ pgL f P, 0 < nm.2.length := by
  intro nm h
  obtain ⟨x, _, rfl⟩ := List.mem_map.1 h
  show 0 < ((rulesL x.2.2).map _).length
  rw [List.length_map]
  unfold rulesL
  simp

theorem tokLs_next {P : List Ln} {k : Nat} {x : Ln} (hx : P[k]? = some x) : tokLs (P.take (k + 1)) = tokLs (P.take k) ++ if x.2.1 = 0 then [x] else [] := by
  obtain ⟨hk, e⟩ := List.getElem?_eq_some_iff.1 hx
  unfold tokLs
  rw [List.take_succ_eq_append_getElem hk, e, List.filter_append]
  by_cases h : x.2.1 = 0 <;> simp [h]
theorem namLs_next {P : List Ln} {k : Nat} {x : Ln} (hx : P[k]? = some x) : namLs (P.take (k + 1)) = namLs (P.take k) ++ if x.2.1 = 2 then [x] else [] := by
  obtain ⟨hk, e⟩ := List.getElem?_eq_some_iff.1 hx
  unfold namLs
  rw [List.take_succ_eq_append_getElem hk, e, List.filter_append]
  by_cases h : x.2.1 = 2 <;> simp [h]

theorem tkL_next {P : List Ln} {k : Nat} {x : Ln} (hx : P[k]? = some x) : tkL (P.take (k + 1)) = tkL (P.take k) ++ if x.2.1 = 0 then [tkOf x] else [] := by
  unfold tkL
  rw [tokLs_next hx, List.map_append]
  split <;> rfl
theorem pgL_next (f : ByteArray → Int) {P : List Ln} {k : Nat} {x : Ln} (hx : P[k]? = some x) : pgL f (P.take (k + 1)) = pgL f (P.take k) ++ if x.2.1 = 2 then [nmOf f x] else [] := by
  unfold pgL
  rw [namLs_next hx, List.map_append]
  split <;> rfl

theorem tkL_len (P : List Ln) (k : Nat) : (tkL (P.take k)).length ≤ k := by
  unfold tkL tokLs
  rw [List.length_map]
  have := List.length_filter_le (fun x : Ln => x.2.1 == 0) (P.take k)
  rw [List.length_take] at this
  omega
theorem pgL_len (f : ByteArray → Int) (P : List Ln) (k : Nat) : (pgL f (P.take k)).length ≤ k := by
  unfold pgL namLs
  rw [List.length_map]
  have := List.length_filter_le (fun x : Ln => x.2.1 == 2) (P.take k)
  rw [List.length_take] at this
  omega

/-- The rules of a line, in parts. -/
def ptR (f : ByteArray → Int) (r : List ByteArray) : List Pt := r.map fun w => ptC (f w)
def ptZ (f : ByteArray → Int) (r : List ByteArray) (i : Nat) : List Pt := ptR f (r.take i) ++ List.replicate (r.length - i) (.tok 0)

theorem ptZ_len (f : ByteArray → Int) (r : List ByteArray) {i : Nat} (h : i ≤ r.length) : (ptZ f r i).length = r.length := by
  unfold ptZ ptR; simp; omega
theorem ptZ_next (f : ByteArray → Int) {r : List ByteArray} {i : Nat} {u : ByteArray} (h : r[i]? = some u) : (ptZ f r i).set i (ptC (f u)) = ptZ f r (i + 1) := by
  obtain ⟨hi, e⟩ := List.getElem?_eq_some_iff.1 h
  unfold ptZ ptR
  have hl : ((r.take i).map fun w => ptC (f w)).length = i := by simp; omega
  rw [List.set_append_right _ _ (by omega), hl, Nat.sub_self]
  obtain ⟨m, hm⟩ : ∃ m, r.length - i = m + 1 := ⟨r.length - i - 1, by omega⟩
  rw [hm, List.replicate_succ, List.set_cons_zero, show r.length - (i + 1) = m by omega, List.take_succ_eq_append_getElem hi, e, List.map_append]
  simp
theorem ptZ_full (f : ByteArray → Int) (r : List ByteArray) : ptZ f r r.length = ptR f r := by unfold ptZ; simp

theorem rs_next (f : ByteArray → Int) {RS : List (List ByteArray)} {j : Nat} {r : List ByteArray} (h : RS[j]? = some r) : (RS.take (j + 1)).map (ptR f) = (RS.take j).map (ptR f) ++ [ptR f r] := by
  obtain ⟨hj, e⟩ := List.getElem?_eq_some_iff.1 h
  rw [List.take_succ_eq_append_getElem hj, e, List.map_append]; rfl

theorem ptCells_set : ∀ (L : List Pt) (i : Nat) (p : Pt), i < L.length → ptCells (L.set i p) = ((ptCells L).set (i * 2) (.bool (isNam p))).set (i * 2 + 1) (.int .i64 (numOf p))
  | [], i, _, h => by simp at h
  | q :: L, 0, p, _ => by simp [ptCells]
  | q :: L, i + 1, p, h => by
    have h1 := ptCells_set L i p (by simpa using h)
    unfold ptCells at h1 ⊢
    simp only [List.set_cons_succ, List.flatMap_cons]
    rw [h1]
    simp only [show (i + 1) * 2 = i * 2 + 1 + 1 from by omega, List.cons_append, List.nil_append, List.set_cons_succ]

theorem isNam_ptC (c : Int) : isNam (ptC c) = decide (c % 2 = 1) := by
  unfold ptC
  split
  · rename_i h; simp [isNam, h]
  · rename_i h; simp [isNam, h]
theorem numOf_ptC {c : Int} (h : 0 ≤ c) : ((numOf (ptC c) : Nat) : Int) = c / 2 := by
  unfold ptC
  split <;> simp [numOf] <;> omega

theorem CodeOk.pos {f : ByteArray → Int} {T M : List ByteArray} (h : CodeOk f T M) (s : ByteArray) : 0 ≤ f s := by
  have h1 := h s
  cases hM : fIdx M s with
  | some k => rw [hM] at h1; have h2 : f s = 2 * (k : Int) + 1 := h1; omega
  | none =>
    rw [hM] at h1
    cases hT : fIdx T s with
    | some k => rw [hT] at h1; have h2 : f s = 2 * (k : Int) := h1; omega
    | none => rw [hT] at h1; have h2 : f s = 0 := h1; omega

/-- The parts that make lays. -/
theorem part_made (w : World) (f : ByteArray → Int) (r : List ByteArray) (B : Nat) (hB : B ≤ w.heap.size) (hr : r.length ≤ 8) :
    (w.alloc (.cells (madeCells #[.bool false, .int .i64 0] (r.length * 2)) 223)).ownsRow B 223 2 (.slice (some ⟨w.heap.size, 0, none⟩) r.length r.length) r.length (ptCells (ptZ f r 0)) := by
  have h1 := own_made w (madeCells #[.bool false, .int .i64 0] (r.length * 2)) r.length 2 223 B hB (by unfold maxLen; omega) (size_madeCells _ _)
  have h2 := made_flat 2 (by omega) (fun p : Pt => [Value.bool (isNam p), .int .i64 (numOf p)]) (fun _ => rfl) (.tok 0) r.length
  have h3 : ptZ f r 0 = List.replicate r.length (.tok 0) := by unfold ptZ ptR; simp
  unfold ptCells
  rw [h3, ← h2]
  exact h1

theorem part_put {w : World} {B pb : Nat} (f : ByteArray → Int) {r : List ByteArray} {i : Nat} {u : ByteArray} (hu : r[i]? = some u) (hf : 0 ≤ f u) (h : w.ownsRow B 223 2 (.slice (some ⟨pb, 0, none⟩) r.length r.length) r.length (ptCells (ptZ f r i))) :
    ((w.setCell ⟨pb, i * 2, none⟩ (.bool (decide (f u % 2 = 1)))).setCell ⟨pb, i * 2 + 1, none⟩ (.int .i64 (f u / 2))).ownsRow B 223 2 (.slice (some ⟨pb, 0, none⟩) r.length r.length) r.length (ptCells (ptZ f r (i + 1))) := by
  have hi := (List.getElem?_eq_some_iff.1 hu).1
  have h1 := ((h.stored (i * 2) (.bool (decide (f u % 2 = 1)))).1.stored (i * 2 + 1) (.int .i64 (f u / 2))).1
  rw [← ptZ_next f hu, ptCells_set _ _ _ (by rw [ptZ_len f r (by omega)]; exact hi), isNam_ptC, numOf_ptC hf]
  exact h1

/-- The k-th row, where one block of another kind is written. -/
theorem RowsV.atK {w w' : World} {B g n cap nb : Nat} {rs : List (List ByteArray)} {pvs : List Value} (h : RowsV w B (.slice (some ⟨g, 0, none⟩) n cap) rs pvs) (hn : rs.length = n) (hb : Keeps w w' [nb]) {cs : Array Value} {t : Nat} {fr : Nat × Nat} (hnb : w.heap[nb]? = some (.cells cs t fr)) (h1 : 39 ≠ t) (h2 : 9 ≠ t) {k : Nat} (hk : k < n) :
    ∃ r p, rs[k]? = some r ∧ w'.cell? ⟨g, k, none⟩ = some p ∧ w'.ownsRow B 9 1 p r.length (r.map Value.string) ∧ (∀ q, p.ownBlock = some q → q < w.heap.size) := by
  have hr := h.row
  rw [hn] at hr
  have hpl : pvs.length = n := by have := hr.1; omega
  have hp : pvs[k]? = some (pvs[k]'(by omega)) := List.getElem?_eq_getElem (by omega)
  have hrk : rs[k]? = some (rs[k]'(by omega)) := List.getElem?_eq_getElem (by omega)
  have he := h.each k _ _ hrk hp
  have hr' := own_keeps hr hb (fun q hq hm => by rw [List.mem_singleton.1 hm] at hq; exact own_not_block hr hnb h1 hq)
  refine ⟨_, _, hrk, ?_, own_keeps he hb (fun q hq hm => by rw [List.mem_singleton.1 hm] at hq; exact own_not_block he hnb h2 hq), fun q hq => own_lt he hq⟩
  rw [hr'.cellAt k (by omega), hp]

theorem Keeps.keepsBelow {w w' : World} {k : Nat} (h : Keeps w w' [k]) (hk : k < w.heap.size) : Below k w w' := h.below (Nat.le_of_lt hk) (fun q hq => by rw [List.mem_singleton.1 hq]; exact Nat.le_refl _)

theorem Keeps.transOwn {a b c : World} {n : Nat} {S : List Nat} (h : Keeps a b [n]) (k : Keeps b c S) (hS : ∀ q, q ∈ S → a.heap.size ≤ q) : Keeps a c [n] :=
  ⟨k.os.trans h.os, k.tape.trans h.tape, k.output.trans h.output, Nat.le_trans h.size k.size, fun i hi hn => (k.block i (Nat.lt_of_lt_of_le hi h.size) (fun hm => by have := hS i hm; omega)).trans (h.block i hi hn)⟩

theorem results_cell {P : Program} {fn : Func} {p : Tmp} {ty : TypeId} (h : fn.results = #[.cell p ty]) (tmps : Array Value) (w : World) (g : Nat) (t' : TypeId) (cs : Array Value) (fr : Nat × Nat) (d : TypeDesc)
    (hp : tmps.getD p undef = .pointer (some ⟨g, 0, none⟩)) (hg : w.heap[g]? = some (.cells cs t' fr)) (hu : P.underlying ty = some d) (hd : (match d with | .struct _ | .array _ _ => true | _ => false) = true) (hi : (P.info? ty).map (·.size) = some cs.size) :
    (results fn tmps).run P w = .ok (.agg cs) w := by
  have hp' : tmps[p]?.getD undef = .pointer (some ⟨g, 0, none⟩) := by simpa using hp
  simp [results, h, hp', asAddr, run_loadVar_row w g t' ty cs fr d hg hu hd hi]

end Go.Proofs.YtikfepenfjnoaaaGreatDoor
