/- The reference's grammar by numbers; a slice that is only read. darnref.index, (*Grammar).token, each. (*Grammar).closed. What the walks over the reference's grammar read of it. (*Grammar).leasts. Rows of Bools: a matrix that the call owns; parts cut at their head. -/
import Derived.Test.YtjjggdcnpndgjaaGreatDoorJ1
import Derived.Test.YtjjggdcnpndgjaaGreatDoorJ2
import Derived.Test.YtjjggdcnpndgjaaGreatDoorJ6
import Derived.WalkSmall
import Derived.Deep.QuietTactic
import Derived.BigQuiet
import Derived.Deep.RegionHeld3
namespace Go.Proofs.YtjjggdcnpndgjaaGreatDoor
open Go.RowKit

/-- The place of a word in a list; -1: it is not there. -/
def idxB (l : List ByteArray) (x : ByteArray) : Int := match l.findIdx? (fun t => t.toList == x.toList) with
  | some i => i
  | none => -1

/-- A slice whose cells hold these, one cell each. -/
def RowV (w : World) (v : Value) (xs : List Value) : Prop :=
  ∃ ad cap, v = .slice ad xs.length cap ∧ xs.length ≤ cap ∧ (0 < xs.length → ∃ g, ad = some ⟨g, 0, none⟩ ∧ g < w.heap.size ∧ ∀ j, j < xs.length → w.cell? ⟨g, j, none⟩ = xs[j]?)

theorem RowV.own {w : World} {B e n : Nat} {v : Value} {xs : List Value} (h : w.ownsRow B e 1 v n xs) (hn : xs.length = n) : RowV w v xs := by
  subst hn
  rcases h.2 with ⟨h1, h2⟩ | ⟨g, cap, cur, h1, hg, hh, hnc, _⟩
  · exact ⟨none, 0, by rw [h2]; exact h1, by omega, fun h0 => by omega⟩
  · subst h1
    exact ⟨_, cap, rfl, hnc, fun _ => ⟨g, rfl, lt_of_block hh, fun j hj => h.cellAt j (by omega)⟩⟩

theorem RowV.below {w w' : World} {v : Value} {xs : List Value} (h : RowV w v xs) (hb : Below w.heap.size w w') : RowV w' v xs := by
  obtain ⟨ad, cap, h1, h2, h3⟩ := h
  refine ⟨ad, cap, h1, h2, fun h0 => ?_⟩
  obtain ⟨g, h4, h5, h6⟩ := h3 h0
  exact ⟨g, h4, Nat.lt_of_lt_of_le h5 hb.size, fun j hj => (hb.cell (by exact h5)).trans (h6 j hj)⟩

theorem below_draws (w : World) (q : Nat) : Below w.heap.size w (w.drewN q) := below_drewN (Below.refl _ _) q

theorem RowV.draws {w : World} {v : Value} {xs : List Value} (h : RowV w v xs) (q : Nat) : RowV (w.drewN q) v xs := h.below (below_draws w q)

def strs (l : List ByteArray) : List Value := l.map Value.string
theorem strs_len (l : List ByteArray) : (strs l).length = l.length := by unfold strs; simp
theorem strs_at {l : List ByteArray} {k : Nat} (h : k < l.length) : (strs l)[k]? = some (.string (nth l k)) := by
  unfold strs nth; simp [List.getElem?_eq_getElem h]

def bools (l : List Bool) : List Value := l.map Value.bool
theorem bools_at {l : List Bool} {k : Nat} (h : k < l.length) : (bools l)[k]? = some (.bool (bAt l k)) := by
  unfold bools bAt; simp [List.getElem?_eq_getElem h]

def nats (l : List Nat) : List Value := l.map fun (n : Nat) => Value.int .i64 (n : Int)
theorem nats_at {l : List Nat} {k : Nat} (h : k < l.length) : (nats l)[k]? = some (.int .i64 (lAt l k)) := by
  unfold nats lAt; simp [List.getElem?_eq_getElem h]

theorem idx_found {l : List ByteArray} {x : ByteArray} {k : Nat} (hk : k < l.length) (h : ((nth l k).toList == x.toList) = true) (hno : ∀ j, j < k → ((nth l j).toList == x.toList) = false) : idxB l x = k := by
  have e : l.findIdx? (fun t => t.toList == x.toList) = some k := by
    rw [List.findIdx?_eq_some_iff_getElem]
    refine ⟨hk, ?_, fun j hj => ?_⟩
    · have h2 := h
      unfold nth at h2
      rwa [List.getD_eq_getElem?_getD, List.getElem?_eq_getElem hk] at h2
    · have h2 := hno j hj
      unfold nth at h2
      rw [List.getD_eq_getElem?_getD, List.getElem?_eq_getElem (by omega)] at h2
      simpa using h2
  unfold idxB; rw [e]

theorem idx_none {l : List ByteArray} {x : ByteArray} (hno : ∀ j, j < l.length → ((nth l j).toList == x.toList) = false) : idxB l x = -1 := by
  have e : l.findIdx? (fun t => t.toList == x.toList) = none := by
    rw [List.findIdx?_eq_none_iff]
    intro t ht
    obtain ⟨j, hj, rfl⟩ := List.mem_iff_getElem.1 ht
    have h2 := hno j hj
    unfold nth at h2
    rwa [List.getD_eq_getElem?_getD, List.getElem?_eq_getElem hj] at h2
  unfold idxB; rw [e]

/-- The tokens' words. -/
def tokWs (l : List (ByteArray × Int × Int)) : List ByteArray := l.map (·.1)

theorem tokW_nth (l : List (ByteArray × Int × Int)) (k : Nat) : tokW l k = nth (tokWs l) k := by
  unfold tokW nth tokWs
  rw [List.getD_eq_getElem?_getD, List.getElem?_map]

/-- A word of a rule, and the part that it is. -/
def PtRep (G : Gr) (x : ByteArray) : Pt → Prop
  | .nam n => idxB G.names x = n
  | .tok t => idxB G.names x = -1 ∧ idxB (tokWs G.toks) x = t

def PsRep (G : Gr) (ws : List ByteArray) (ps : List Pt) : Prop := ws.length = ps.length ∧ ∀ j p, ps[j]? = some p → PtRep G (nth ws j) p

structure Rep (G : Gr) (N : NG) : Prop where
  ok : N.Ok
  nN : N.nN = G.names.length
  nT : N.nT = G.toks.length
  len : N.rules.length = G.rules.length
  rule : ∀ (i : Nat) (r : ByteArray × List ByteArray) (q : Nat × List Pt), G.rules[i]? = some r → N.rules[i]? = some q → idxB G.names r.1 = q.1 ∧ PsRep G r.2 q.2
  put : ∀ (t : Nat) (tk : ByteArray × Int × Int), G.toks[t]? = some tk → tk.2.1 = (N.put t : Int)
  leN : N.nN ≤ 20
  leT : N.nT ≤ 20
  leR : N.rules.length ≤ 60
  posR : 0 < N.rules.length

theorem drop_cons {α : Type} {l : List α} {k : Nat} {x : α} (h : l[k]? = some x) : l.drop k = x :: l.drop (k + 1) := by
  obtain ⟨hk, e⟩ := List.getElem?_eq_some_iff.1 h
  rw [List.drop_eq_getElem_cons hk, e]

end Go.Proofs.YtjjggdcnpndgjaaGreatDoor

namespace Go.Proofs.YtjjggdcnpndgjaaGreatDoor
open Go.RowKit

set_option maxHeartbeats 400000 in
theorem index_any (v : Value) (l : List ByteArray) (x : ByteArray) (w : World) (hv : RowV w v (strs l)) (hl : l.length ≤ 4000) :
    Calls Tryz.prog 84 #[v, .string x] w fun e w' => e = .returned (.int .i64 (idxB l x)) ∧ w' = w := by
  obtain ⟨ad, cap, rfl, hcap, hc⟩ := hv
  rw [strs_len] at hcap hc ⊢
  obtain ⟨n, hn⟩ : ∃ n, n = l.length := ⟨_, rfl⟩
  rw [← hn] at hcap hc hl ⊢
  have HN : Hid (n = l.length) := hid hn
  have HC : Hid _ := hid hc
  clear hn hc
  go_enter Tryz.func84, Tryz.ntmps84
  go_wp2
  go_loop [5] (fun i => ∃ k : Nat, k ≤ n ∧ i = .int .i64 k ∧ Hid (∀ j, j < k → ((nth l j).toList == x.toList) = false)) (fun i => n - (intOf i).toNat)
  case atStart => exact ⟨0, Nat.zero_le _, rfl, fun j hj => by omega⟩
  case round =>
    obtain ⟨k, hk, rfl, hno⟩ := hrel
    by_cases hlt : k < n
    · obtain ⟨g, rfl, _, hg⟩ := HC.out (by omega)
      have ck : w.cell? ⟨g, k, none⟩ = some (.string (nth l k)) := by
        rw [hg k (by omega)]
        exact strs_at (by have := HN.out; omega)
      have HK : Hid (k < l.length) := hid (by have := HN.out; omega)
      clear hg HC
      cases hb : ((nth l k).toList == x.toList)
      · go_wp2
        go_round
        case rel => exact ⟨k + 1, by omega, by go_num, upto_next hno.out hb⟩
        case measure => simp [intOf]; omega
      · have HE : Hid (idxB l x = k) := hid (idx_found HK.out hb hno.out)
        go_wp2
        go_ret
        exact ⟨ret_int HE.out, rfl⟩
    · have HE : Hid (idxB l x = -1) := hid (idx_none fun j hj => hno.out j (by have := HN.out; omega))
      go_wp2
      go_ret
      exact ⟨ret_int HE.out, rfl⟩

set_option maxHeartbeats 400000 in
theorem token_any (G : Gr) (x : ByteArray) (w : World) (B gb : Nat) (hG : GrAt w B gb G) (hl : G.toks.length ≤ 4000) :
    Calls Tryz.prog 57 #[.pointer (some ⟨gb, 0, none⟩), .string x] w fun e w' => e = .returned (.int .i64 (idxB (tokWs G.toks) x)) ∧ w' = w := by
  obtain ⟨vT, vS, vN, vR, pv, hV⟩ := hG
  have hc := hV.cells.1
  have hT := hV.toks
  obtain ⟨nT, hnT⟩ : ∃ n, n = G.toks.length := ⟨_, rfl⟩
  rw [← hnT] at hT hl
  have HN : Hid (nT = G.toks.length) := hid hnT
  have HL : Hid ((tokWs G.toks).length = nT) := hid (by unfold tokWs; rw [List.length_map, hnT])
  clear hnT hV
  rcases hT.2 with ⟨h1, h2⟩ | ⟨g, cap, cur, h1, _, _, hnc, _, _, _⟩
  · subst h1; subst h2
    have HE : Hid (idxB (tokWs G.toks) x = -1) := hid (idx_none fun j hj => by have := HL.out; omega)
    go_enter Tryz.func57, Tryz.ntmps57
    go_wp2
    go_loop [5] (fun i => i = .int .i64 0) (fun i => 0)
    case atStart => rfl
    case round =>
      subst hrel
      go_wp2
      go_ret
      exact ⟨ret_int HE.out, rfl⟩
  · subst h1
    go_enter Tryz.func57, Tryz.ntmps57
    go_wp2
    go_loop [5] (fun i => ∃ k : Nat, k ≤ nT ∧ i = .int .i64 k ∧ Hid (∀ j, j < k → ((nth (tokWs G.toks) j).toList == x.toList) = false)) (fun i => nT - (intOf i).toNat)
    case atStart => exact ⟨0, Nat.zero_le _, rfl, fun j hj => by omega⟩
    case round =>
      obtain ⟨k, hk, rfl, hno⟩ := hrel
      by_cases hlt : k < nT
      · have ck := tok_cell hT HN.out.symm hlt
        rw [tokW_nth] at ck
        have HK : Hid (k < (tokWs G.toks).length) := hid (by rw [HL.out]; exact hlt)
        cases hb : ((nth (tokWs G.toks) k).toList == x.toList)
        · go_wp2
          go_round
          case rel => exact ⟨k + 1, by omega, by go_num, upto_next hno.out hb⟩
          case measure => simp [intOf]; omega
        · have HE : Hid (idxB (tokWs G.toks) x = k) := hid (idx_found HK.out hb hno.out)
          go_wp2
          go_ret
          exact ⟨ret_int HE.out, rfl⟩
      · have HE : Hid (idxB (tokWs G.toks) x = -1) := hid (idx_none fun j hj => hno.out j (by have := HL.out; omega))
        go_wp2
        go_ret
        exact ⟨ret_int HE.out, rfl⟩

end Go.Proofs.YtjjggdcnpndgjaaGreatDoor

namespace Go.Proofs.YtjjggdcnpndgjaaGreatDoor
open Go.RowKit

theorem bools_set (l : List Bool) (n : Nat) (b : Bool) : bools (l.set n b) = (bools l).set n (.bool b) := by unfold bools; rw [List.map_set]

end Go.Proofs.YtjjggdcnpndgjaaGreatDoor

namespace Go.Proofs.YtjjggdcnpndgjaaGreatDoor
open Go.RowKit

structure Ctx (w : World) (B gb : Nat) (G : Gr) (N : NG) (adT : Option Addr) (capT gN capN gR capR : Nat) : Prop where
  rep : Rep G N
  gr : GrAt w B gb G
  hgb : gb < w.heap.size
  hgN : gN < w.heap.size
  hgR : gR < w.heap.size
  c0 : w.cell? ⟨gb, 0, none⟩ = some (.slice adT N.nT capT)
  c2 : w.cell? ⟨gb, 2, none⟩ = some (.slice (some ⟨gN, 0, none⟩) N.nN capN)
  c3 : w.cell? ⟨gb, 3, none⟩ = some (.slice (some ⟨gR, 0, none⟩) N.rules.length capR)
  lN : N.nN ≤ capN
  lT : N.nT ≤ capT
  lR : N.rules.length ≤ capR
  names : RowV w (.slice (some ⟨gN, 0, none⟩) N.nN capN) (strs G.names)
  toks : ∀ t, t < N.nT → ∃ gT, adT = some ⟨gT, 0, none⟩ ∧ gT < w.heap.size ∧ w.cell? ⟨gT, t * 3, none⟩ = some (.string (tokW G.toks t)) ∧ w.cell? ⟨gT, t * 3 + 1, none⟩ = some (.int .i64 (N.put t))
  rule : ∀ (j : Nat) (q : Nat × List Pt), N.rules[j]? = some q → ∃ nm ws adP capP, w.cell? ⟨gR, j * 2, none⟩ = some (.string nm) ∧ w.cell? ⟨gR, j * 2 + 1, none⟩ = some (.slice adP q.2.length capP) ∧
    RowV w (.slice adP q.2.length capP) (strs ws) ∧ idxB G.names nm = q.1 ∧ PsRep G ws q.2

theorem Ctx.below {w w' : World} {B gb : Nat} {G : Gr} {N : NG} {adT : Option Addr} {capT gN capN gR capR : Nat} (h : Ctx w B gb G N adT capT gN capN gR capR) (hb : Below w.heap.size w w') : Ctx w' B gb G N adT capT gN capN gR capR where
  rep := h.rep
  gr := h.gr.below hb
  hgb := Nat.lt_of_lt_of_le h.hgb hb.size
  hgN := Nat.lt_of_lt_of_le h.hgN hb.size
  hgR := Nat.lt_of_lt_of_le h.hgR hb.size
  c0 := (hb.cell (by exact h.hgb)).trans h.c0
  c2 := (hb.cell (by exact h.hgb)).trans h.c2
  c3 := (hb.cell (by exact h.hgb)).trans h.c3
  lN := h.lN
  lT := h.lT
  lR := h.lR
  names := h.names.below hb
  toks := fun t ht => by
    obtain ⟨gT, h1, h2, h3, h4⟩ := h.toks t ht
    exact ⟨gT, h1, Nat.lt_of_lt_of_le h2 hb.size, (hb.cell (by exact h2)).trans h3, (hb.cell (by exact h2)).trans h4⟩
  rule := fun j q hq => by
    obtain ⟨nm, ws, adP, capP, h1, h2, h3, h4, h5⟩ := h.rule j q hq
    exact ⟨nm, ws, adP, capP, (hb.cell (by exact h.hgR)).trans h1, (hb.cell (by exact h.hgR)).trans h2, h3.below hb, h4, h5⟩

section
variable {w : World} {B gb : Nat} {G : Gr} {N : NG} {adT : Option Addr} {capT gN capN gR capR : Nat}

theorem Ctx.index (h : Ctx w B gb G N adT capT gN capN gR capR) (x : ByteArray) : Calls Tryz.prog 84 #[.slice (some ⟨gN, 0, none⟩) N.nN capN, .string x] w fun e w' => e = .returned (.int .i64 (idxB G.names x)) ∧ w' = w :=
  index_any _ G.names x w h.names (by have := h.rep.nN; have := h.rep.leN; omega)

theorem Ctx.token (h : Ctx w B gb G N adT capT gN capN gR capR) (x : ByteArray) : Calls Tryz.prog 57 #[.pointer (some ⟨gb, 0, none⟩), .string x] w fun e w' => e = .returned (.int .i64 (idxB (tokWs G.toks) x)) ∧ w' = w :=
  token_any G x w B gb h.gr (by have := h.rep.nT; have := h.rep.leT; omega)

end

end Go.Proofs.YtjjggdcnpndgjaaGreatDoor

namespace Go.Proofs.YtjjggdcnpndgjaaGreatDoor
open Go.RowKit

theorem Tryz.info3 : (Tryz.prog.info? 3).map (fun i => (i.zero, i.size, i.bytes)) = some (some (.int .i64 0), 1, 8) := by kernel_rfl

theorem nats_set (l : List Nat) (n v : Nat) : nats (l.set n v) = (nats l).set n (.int .i64 (v : Int)) := by unfold nats; rw [List.map_set]

theorem made_nats (n : Nat) : (madeCells (Value.int .i64 0).cells (n * 1)).toList = nats (List.replicate n 0) := by
  rw [Nat.mul_one]; exact (toList_madeCells_one _ _).trans (by simp [nats])

theorem own_nat {w W : World} {b0 n : Nat} {ok : List Nat} (hb : Below b0 w W) (h : W.ownsRow b0 3 1 (.slice (some ⟨b0, 0, none⟩) n n) n (nats ok)) (j v : Nat) :
    (W.setCell ⟨b0, j, none⟩ (.int .i64 (v : Int))).ownsRow b0 3 1 (.slice (some ⟨b0, 0, none⟩) n n) n (nats (ok.set j v)) ∧ Below b0 w (W.setCell ⟨b0, j, none⟩ (.int .i64 (v : Int))) := by
  rw [nats_set]
  exact ⟨(h.stored j (.int .i64 v)).1, hb.setCell (p := ⟨b0, j, none⟩) (Nat.le_refl _) _⟩

theorem own_cellN {W : World} {b0 n : Nat} {ok : List Nat} (h : W.ownsRow b0 3 1 (.slice (some ⟨b0, 0, none⟩) n n) n (nats ok)) (hl : ok.length = n) {j : Nat} (hj : j < n) : W.cell? ⟨b0, j, none⟩ = some (.int .i64 (lAt ok j)) ∧ W.frozen? ⟨b0, j, none⟩ = false := by
  refine ⟨?_, h.frozenAt j⟩
  rw [h.cellAt j (by omega)]
  exact nats_at (by omega)

end Go.Proofs.YtjjggdcnpndgjaaGreatDoor

namespace Go.Proofs.YtjjggdcnpndgjaaGreatDoor
open Go.RowKit

/-- The rows of a matrix, as slices: they lie one behind the other. -/
def rowSl (b m n : Nat) : Value := .slice (some ⟨b + 1 + n, 0, none⟩) m m
def rowVals (b m k : Nat) : List Value := (List.range k).map (rowSl b m)

theorem rowVals_at {b m k n : Nat} (h : n < k) : (rowVals b m k)[n]? = some (rowSl b m n) := by
  unfold rowVals; rw [List.getElem?_map, List.getElem?_range h]; rfl

structure Mat (w : World) (b : Nat) (N : NG) (h : List (List Bool)) : Prop where
  ok : MOk N h
  top : w.ownsRow b 150 1 (.slice (some ⟨b, 0, none⟩) N.nN N.nN) N.nN (rowVals b (N.nT + 1) N.nN)
  rows : ∀ n, n < N.nN → w.ownsRow b 4 1 (rowSl b (N.nT + 1) n) (N.nT + 1) (bools (mAt h n))

section
variable {w w' : World} {b : Nat} {N : NG} {h : List (List Bool)}

theorem Mat.below (m : Mat w b N h) (hb : Below w.heap.size w w') : Mat w' b N h where
  ok := m.ok
  top := own_keeps m.top (Keeps.of_below hb []) (by simp)
  rows := fun n hn => own_keeps (m.rows n hn) (Keeps.of_below hb []) (by simp)

theorem Mat.cell (m : Mat w b N h) {n : Nat} (hn : n < N.nN) : w.cell? ⟨b, n, none⟩ = some (.slice (some ⟨b + 1 + n, 0, none⟩) (N.nT + 1) (N.nT + 1)) := by
  rw [m.top.cellAt n (by omega)]
  exact rowVals_at hn

theorem Mat.bit (m : Mat w b N h) {n t : Nat} (hn : n < N.nN) (ht : t < N.nT + 1) : w.cell? ⟨b + 1 + n, t, none⟩ = some (.bool (col h t n)) ∧ w.frozen? ⟨b + 1 + n, t, none⟩ = false := by
  have hr := m.rows n hn
  unfold rowSl at hr
  refine ⟨?_, hr.frozenAt t⟩
  rw [hr.cellAt t (by omega)]
  exact bools_at (by rw [m.ok.2 n hn]; exact ht)

theorem Mat.lt (m : Mat w b N h) {n : Nat} (hn : n < N.nN) : b + 1 + n < w.heap.size := ((m.rows n hn).lt _ rfl).2

/-- One place of a row is written. -/
theorem Mat.put (m : Mat w b N h) {n : Nat} (t : Nat) (hn : n < N.nN) (v : Bool) : Mat (w.setCell ⟨b + 1 + n, t, none⟩ (.bool v)) b N (h.set n ((mAt h n).set t v)) where
  ok := m.ok.set (by rw [List.length_set]; exact m.ok.2 n hn)
  top := by
    refine ownsRow_setCell_other m.top (a := ⟨b + 1 + n, t, none⟩) ?_ (.bool v)
    simp [Value.ownBlock]; omega
  rows := fun k hk => by
    by_cases e : n = k
    · subst e
      have := ((m.rows n hn).stored t (.bool v)).1
      rw [mAt_set, if_pos ⟨rfl, by rw [m.ok.1]; exact hn⟩, bools_set]
      exact this
    · rw [mAt_set, if_neg (fun h => e h.1)]
      refine ownsRow_setCell_other (m.rows k hk) (a := ⟨b + 1 + n, t, none⟩) ?_ (.bool v)
      simp [rowSl, Value.ownBlock]; omega
end

/-- A slice whose cells hold these strings, from wherever it begins. -/
def RowO (w : World) (v : Value) (ws : List ByteArray) : Prop :=
  ∃ ad cap, v = .slice ad ws.length cap ∧ ws.length ≤ cap ∧ (0 < ws.length → ∃ g off, ad = some ⟨g, off, none⟩ ∧ g < w.heap.size ∧ ∀ j, j < ws.length → w.cell? ⟨g, off + j, none⟩ = some (.string (nth ws j)))

theorem RowO.below {w w' : World} {v : Value} {ws : List ByteArray} (h : RowO w v ws) (hb : Below w.heap.size w w') : RowO w' v ws := by
  obtain ⟨ad, cap, h1, h2, h3⟩ := h
  refine ⟨ad, cap, h1, h2, fun h0 => ?_⟩
  obtain ⟨g, off, h4, h5, h6⟩ := h3 h0
  exact ⟨g, off, h4, Nat.lt_of_lt_of_le h5 hb.size, fun j hj => (hb.cell (by exact h5)).trans (h6 j hj)⟩

theorem RowO.of {w : World} {v : Value} {ws : List ByteArray} (h : RowV w v (strs ws)) : RowO w v ws := by
  obtain ⟨ad, cap, h1, h2, h3⟩ := h
  rw [strs_len] at h1 h2 h3
  refine ⟨ad, cap, h1, h2, fun h0 => ?_⟩
  obtain ⟨g, h4, h5, h6⟩ := h3 h0
  exact ⟨g, 0, h4, h5, fun j hj => by rw [Nat.zero_add, h6 j hj]; exact strs_at hj⟩

end Go.Proofs.YtjjggdcnpndgjaaGreatDoor
