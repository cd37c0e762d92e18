/- The reference's grammar by numbers; a slice that is only read. darnref.index, (*Grammar).token, each. (*Grammar).closed. What the walks over the reference's grammar read of it. (*Grammar).leasts. Rows of Bools: a matrix that the call owns; parts cut at their head. -/
import Derived.Test.YtjjggdcnpndgjaaGreatDoorJ1
import Derived.Test.YtjjggdcnpndgjaaGreatDoorJ2
import Derived.Test.YtjjggdcnpndgjaaGreatDoorJ6
import Derived.WalkSmall
import Derived.Deep.QuietTactic
import Derived.BigQuiet
import Derived.Deep.RegionHeld3
namespace Go.Proofs.YtjjggdcnpndgjaaGreatDoor
open Go.RowKit

/-- The place of a word in a list; -1: it is not there. -/
def idxB (l : List ByteArray) (x : ByteArray) : Int := match l.findIdx? (fun t => t.toList == x.toList) with
  | some i => i
  | none => -1

/-- A slice whose cells hold these, one cell each. -/
def RowV (w : World) (v : Value) (xs : List Value) : Prop :=
  ∃ ad cap, v = .slice ad xs.length cap ∧ xs.length ≤ cap ∧ (0 < xs.length → ∃ g, ad = some ⟨g, 0, none⟩ ∧ g < w.heap.size ∧ ∀ j, j < xs.length → w.cell? ⟨g, j, none⟩ = xs[j]?)

theorem RowV.own {w : World} {B e n : Nat} {v : Value} {xs : List Value} (h : w.ownsRow B e 1 v n xs) (hn : xs.length = n) : RowV w v xs := by
  subst hn
  rcases h.2 with ⟨h1, h2⟩ | ⟨g, cap, cur, h1, hg, hh, hnc, _⟩
  · exact ⟨none, 0, by rw [h2]; exact h1, by omega, fun h0 => by omega⟩
  · subst h1
    exact ⟨_, cap, rfl, hnc, fun _ => ⟨g, rfl, lt_of_block hh, fun j hj => h.cellAt j (by omega)⟩⟩

theorem RowV.below {w w' : World} {v : Value} {xs : List Value} (h : RowV w v xs) (hb : Below w.heap.size w w') : RowV w' v xs := by
  obtain ⟨ad, cap, h1, h2, h3⟩ := h
  refine ⟨ad, cap, h1, h2, fun h0 => ?_⟩
  obtain ⟨g, h4, h5, h6⟩ := h3 h0
  exact ⟨g, h4, Nat.lt_of_lt_of_le h5 hb.size, fun j hj => (hb.cell (by exact h5)).trans (h6 j hj)⟩

theorem below_draws (w : World) (q : Nat) : Below w.heap.size w (w.drewN q) := below_drewN (Below.refl _ _) q

theorem RowV.draws {w : World} {v : Value} {xs : List Value} (h : RowV w v xs) (q : Nat) : RowV (w.drewN q) v xs := h.below (below_draws w q)

def strs (l : List ByteArray) : List Value := l.map Value.string
theorem strs_len (l : List ByteArray) : (strs l).length = l.length := by unfold strs; simp
theorem strs_at {l : List ByteArray} {k : Nat} (h : k < l.length) : (strs l)[k]? = some (.string (nth l k)) := by
  unfold strs nth; simp [List.getElem?_eq_getElem h]

def bools (l : List Bool) : List Value := l.map Value.bool
theorem bools_len (l : List Bool) : (bools l).length = l.length := by unfold bools; simp
theorem bools_at {l : List Bool} {k : Nat} (h : k < l.length) : (bools l)[k]? = some (.bool (bAt l k)) := by
  unfold bools bAt; simp [List.getElem?_eq_getElem h]

def nats (l : List Nat) : List Value := l.map fun (n : Nat) => Value.int .i64 (n : Int)
theorem nats_len (l : List Nat) : (nats l).length = l.length := by unfold nats; simp
theorem nats_at {l : List Nat} {k : Nat} (h : k < l.length) : (nats l)[k]? = some (.int .i64 (lAt l k)) := by
  unfold nats lAt; simp [List.getElem?_eq_getElem h]

theorem idx_found {l : List ByteArray} {x : ByteArray} {k : Nat} (hk : k < l.length) (h : ((nth l k).toList == x.toList) = true) (hno : ∀ j, j < k → ((nth l j).toList == x.toList) = false) : idxB l x = k := by
  have e : l.findIdx? (fun t => t.toList == x.toList) = some k := by
    rw [List.findIdx?_eq_some_iff_getElem]
    refine ⟨hk, ?_, fun j hj => ?_⟩
    · have h2 := h
      unfold nth at h2
      rwa [List.getD_eq_getElem?_getD, List.getElem?_eq_getElem hk] at h2
    · have h2 := hno j hj
      unfold nth at h2
      rw [List.getD_eq_getElem?_getD, List.getElem?_eq_getElem (by omega)] at h2
      simpa using h2
  unfold idxB; rw [e]

theorem idx_none {l : List ByteArray} {x : ByteArray} (hno : ∀ j, j < l.length → ((nth l j).toList == x.toList) = false) : idxB l x = -1 := by
  have e : l.findIdx? (fun t => t.toList == x.toList) = none := by
    rw [List.findIdx?_eq_none_iff]
    intro t ht
    obtain ⟨j, hj, rfl⟩ := List.mem_iff_getElem.1 ht
    have h2 := hno j hj
    unfold nth at h2
    rwa [List.getD_eq_getElem?_getD, List.getElem?_eq_getElem hj] at h2
  unfold idxB; rw [e]

/-- The tokens' words. -/
def tokWs (l : List (ByteArray × Int × Int)) : List ByteArray := l.map (·.1)

theorem tokW_nth (l : List (ByteArray × Int × Int)) (k : Nat) : tokW l k = nth (tokWs l) k := by
  unfold tokW nth tokWs
  rw [List.getD_eq_getElem?_getD, List.getElem?_map]

/-- A word of a rule, and the part that it is. -/
def PtRep (G : Gr) (x : ByteArray) : Pt → Prop
  | .nam n => idxB G.names x = n
  | .tok t => idxB G.names x = -1 ∧ idxB (tokWs G.toks) x = t

def PsRep (G : Gr) (ws : List ByteArray) (ps : List Pt) : Prop := ws.length = ps.length ∧ ∀ j p, ps[j]? = some p → PtRep G (nth ws j) p

structure Rep (G : Gr) (N : NG) : Prop where
  ok : N.Ok
  nN : N.nN = G.names.length
  nT : N.nT = G.toks.length
  len : N.rules.length = G.rules.length
  rule : ∀ (i : Nat) (r : ByteArray × List ByteArray) (q : Nat × List Pt), G.rules[i]? = some r → N.rules[i]? = some q → idxB G.names r.1 = q.1 ∧ PsRep G r.2 q.2
  put : ∀ (t : Nat) (tk : ByteArray × Int × Int), G.toks[t]? = some tk → tk.2.1 = (N.put t : Int)
  leN : N.nN ≤ 20
  leT : N.nT ≤ 20
  leR : N.rules.length ≤ 60
  posR : 0 < N.rules.length

theorem drop_cons {α : Type} {l : List α} {k : Nat} {x : α} (h : l[k]? = some x) : l.drop k = x :: l.drop (k + 1) := by
  obtain ⟨hk, e⟩ := List.getElem?_eq_some_iff.1 h
  rw [List.drop_eq_getElem_cons hk, e]

/-- A rule, as its cells lie. -/
theorem rule_at {w : World} {B gb : Nat} {G : Gr} {vT vS vN vR : Value} {pv : List Value} (h : GrV w B gb G vT vS vN vR pv) {i : Nat} {r : ByteArray × List ByteArray} (hr : G.rules[i]? = some r) :
    ∃ g cap p, vR = .slice (some ⟨g, 0, none⟩) G.rules.length cap ∧ g < w.heap.size ∧ G.rules.length ≤ cap ∧ w.cell? ⟨g, i * 2, none⟩ = some (.string r.1) ∧ w.cell? ⟨g, i * 2 + 1, none⟩ = some p ∧ RowV w p (strs r.2) := by
  have hi := (List.getElem?_eq_some_iff.1 hr).1
  rcases h.rules.2 with ⟨_, h2⟩ | ⟨g, cap, cur, hv, hg, hh, hnc, _⟩
  · omega
  · have hrow := h.rules
    rw [hv] at hrow
    have hpl := h.pvl
    obtain ⟨p, hp⟩ : ∃ p, pv[i]? = some p := ⟨_, List.getElem?_eq_getElem (by omega)⟩
    have hz : (G.rules.zip pv)[i]? = some (r, p) := by rw [List.getElem?_zip_eq_some]; exact ⟨hr, hp⟩
    have h2 := fun j hj => flat2 (fun t : (ByteArray × List ByteArray) × Value => [Value.string t.1.1, t.2]) (fun _ => rfl) (G.rules.zip pv) i (r, p) j hz hj
    refine ⟨g, cap, p, hv, lt_of_block hh, hnc, ?_, ?_, RowV.own (h.parts i r p hr hp).1 (by simp [strs])⟩
    · rw [hrow.cellAt _ (by omega)]; exact h2 0 (by omega)
    · rw [hrow.cellAt _ (by omega)]; exact h2 1 (by omega)

end Go.Proofs.YtjjggdcnpndgjaaGreatDoor

namespace Go.Proofs.YtjjggdcnpndgjaaGreatDoor
open Go.RowKit

set_option maxHeartbeats 400000 in
theorem index_any (v : Value) (l : List ByteArray) (x : ByteArray) (w : World) (hv : RowV w v (strs l)) (hl : l.length ≤ 4000) :
    Calls Tryz.prog 84 #[v, .string x] w fun e w' => e = .returned (.int .i64 (idxB l x)) ∧ w' = w := by
  obtain ⟨ad, cap, rfl, hcap, hc⟩ := hv
  rw [strs_len] at hcap hc ⊢
  obtain ⟨n, hn⟩ : ∃ n, n = l.length := ⟨_, rfl⟩
  rw [← hn] at hcap hc hl ⊢
  have HN : Hid (n = l.length) := hid hn
  have HC : Hid _ := hid hc
  clear hn hc
  go_enter Tryz.func84, Tryz.ntmps84
  go_wp2
  go_loop [5] (fun i => ∃ k : Nat, k ≤ n ∧ i = .int .i64 k ∧ Hid (∀ j, j < k → ((nth l j).toList == x.toList) = false)) (fun i => n - (intOf i).toNat)
  case atStart => exact ⟨0, Nat.zero_le _, rfl, fun j hj => by omega⟩
  case round =>
    obtain ⟨k, hk, rfl, hno⟩ := hrel
    by_cases hlt : k < n
    · obtain ⟨g, rfl, _, hg⟩ := HC.out (by omega)
      have ck : w.cell? ⟨g, k, none⟩ = some (.string (nth l k)) := by
        rw [hg k (by omega)]
        exact strs_at (by have := HN.out; omega)
      have HK : Hid (k < l.length) := hid (by have := HN.out; omega)
      clear hg HC
      cases hb : ((nth l k).toList == x.toList)
      · go_wp2
        go_round
        case rel => exact ⟨k + 1, by omega, by go_num, upto_next hno.out hb⟩
        case measure => simp [intOf]; omega
      · have HE : Hid (idxB l x = k) := hid (idx_found HK.out hb hno.out)
        go_wp2
        go_ret
        exact ⟨ret_int HE.out, rfl⟩
    · have HE : Hid (idxB l x = -1) := hid (idx_none fun j hj => hno.out j (by have := HN.out; omega))
      go_wp2
      go_ret
      exact ⟨ret_int HE.out, rfl⟩

set_option maxHeartbeats 400000 in
theorem token_any (G : Gr) (x : ByteArray) (w : World) (B gb : Nat) (hG : GrAt w B gb G) (hl : G.toks.length ≤ 4000) :
    Calls Tryz.prog 57 #[.pointer (some ⟨gb, 0, none⟩), .string x] w fun e w' => e = .returned (.int .i64 (idxB (tokWs G.toks) x)) ∧ w' = w := by
  obtain ⟨vT, vS, vN, vR, pv, hV⟩ := hG
  have hc := hV.cells.1
  have hT := hV.toks
  obtain ⟨nT, hnT⟩ : ∃ n, n = G.toks.length := ⟨_, rfl⟩
  rw [← hnT] at hT hl
  have HN : Hid (nT = G.toks.length) := hid hnT
  have HL : Hid ((tokWs G.toks).length = nT) := hid (by unfold tokWs; rw [List.length_map, hnT])
  clear hnT hV
  rcases hT.2 with ⟨h1, h2⟩ | ⟨g, cap, cur, h1, _, _, hnc, _, _, _⟩
  · subst h1; subst h2
    have HE : Hid (idxB (tokWs G.toks) x = -1) := hid (idx_none fun j hj => by have := HL.out; omega)
    go_enter Tryz.func57, Tryz.ntmps57
    go_wp2
    go_loop [5] (fun i => i = .int .i64 0) (fun i => 0)
    case atStart => rfl
    case round =>
      subst hrel
      go_wp2
      go_ret
      exact ⟨ret_int HE.out, rfl⟩
  · subst h1
    go_enter Tryz.func57, Tryz.ntmps57
    go_wp2
    go_loop [5] (fun i => ∃ k : Nat, k ≤ nT ∧ i = .int .i64 k ∧ Hid (∀ j, j < k → ((nth (tokWs G.toks) j).toList == x.toList) = false)) (fun i => nT - (intOf i).toNat)
    case atStart => exact ⟨0, Nat.zero_le _, rfl, fun j hj => by omega⟩
    case round =>
      obtain ⟨k, hk, rfl, hno⟩ := hrel
      by_cases hlt : k < nT
      · have ck := tok_cell hT HN.out.symm hlt
        rw [tokW_nth] at ck
        have HK : Hid (k < (tokWs G.toks).length) := hid (by rw [HL.out]; exact hlt)
        cases hb : ((nth (tokWs G.toks) k).toList == x.toList)
        · go_wp2
          go_round
          case rel => exact ⟨k + 1, by omega, by go_num, upto_next hno.out hb⟩
          case measure => simp [intOf]; omega
        · have HE : Hid (idxB (tokWs G.toks) x = k) := hid (idx_found HK.out hb hno.out)
          go_wp2
          go_ret
          exact ⟨ret_int HE.out, rfl⟩
      · have HE : Hid (idxB (tokWs G.toks) x = -1) := hid (idx_none fun j hj => hno.out j (by have := HL.out; omega))
        go_wp2
        go_ret
        exact ⟨ret_int HE.out, rfl⟩

theorem eachB_tok {ps : List Pt} {k t : Nat} (ok : Nat → Bool) (b : Bool) (h : ps[k]? = some (.tok t)) : eachB (ps.drop k) ok b = (b && eachB (ps.drop (k + 1)) ok b) := by
  rw [drop_cons h]; unfold eachB; rw [List.all_cons]

theorem eachB_nam {ps : List Pt} {k n : Nat} (ok : Nat → Bool) (b : Bool) (h : ps[k]? = some (.nam n)) : eachB (ps.drop k) ok b = (ok n && eachB (ps.drop (k + 1)) ok b) := by
  rw [drop_cons h]; unfold eachB; rw [List.all_cons]

set_option maxHeartbeats 1000000 in
set_option maxRecDepth 100000 in
theorem each_any (G : Gr) (N : NG) (hR : Rep G N) (w : World) (B gb : Nat) (hG : GrAt w B gb G) (vp : Value) (ws : List ByteArray) (ps : List Pt) (hp : RowV w vp (strs ws)) (hps : PsRep G ws ps) (ho : PsOk N ps) (hl : ps.length ≤ 4000)
    (go capo : Nat) (ok : List Bool) (hk : RowV w (.slice (some ⟨go, 0, none⟩) N.nN capo) (bools ok)) (hkl : ok.length = N.nN) (tokens : Bool) :
    Calls Tryz.prog 125 #[.pointer (some ⟨gb, 0, none⟩), vp, .slice (some ⟨go, 0, none⟩) N.nN capo, .bool tokens] w fun e w' => e = .returned (.bool (eachB ps (bAt ok) tokens)) ∧ ∃ q, w' = w.drewN q := by
  obtain ⟨vT, vS, vN, vR, pv, hV⟩ := hG
  have hcN := hV.cells.2.2.1
  obtain ⟨adN, capN, hvN⟩ := own_slice hV.names
  have hNm : RowV w vN (strs G.names) := RowV.own hV.names (by simp [strs])
  have hnl : G.names.length ≤ 4000 := by have := hR.nN; have := hR.leN; omega
  have CI : Hid (∀ q x, Calls Tryz.prog 84 #[vN, .string x] (w.drewN q) fun e w' => e = .returned (.int .i64 (idxB G.names x)) ∧ w' = w.drewN q) := hid fun q x => index_any vN G.names x _ (hNm.draws q) hnl
  obtain ⟨ad, cap, rfl, hcap, hc⟩ := hp
  rw [strs_len, hps.1] at hcap hc ⊢
  obtain ⟨n, hn⟩ : ∃ n, n = ps.length := ⟨_, rfl⟩
  rw [← hn] at hcap hc hl ⊢
  have HN : Hid (n = ps.length) := hid hn
  have HC : Hid _ := hid hc
  have HPS : Hid _ := hid hps
  have HO : Hid _ := hid ho
  have HKL : Hid (ok.length = N.nN) := hid hkl
  obtain ⟨ado, capo', hko, _, hkc⟩ := hk
  have HK : Hid (∀ j, j < N.nN → w.cell? ⟨go, j, none⟩ = some (.bool (bAt ok j))) := hid fun j hj => by
    rw [bools_len, hkl] at hkc
    obtain ⟨g', hg1, _, hg2⟩ := hkc (by omega)
    rw [bools_len] at hko
    injection hko with hko _ _
    rw [← hko] at hg1
    injection hg1 with hg1
    injection hg1 with hg1
    rw [hg1, hg2 j hj]
    exact bools_at (by omega)
  obtain ⟨m, hm⟩ : ∃ m, m = N.nN := ⟨_, rfl⟩
  have HM : Hid (m = N.nN) := hid hm
  have hmle : m ≤ 20 := by have := hR.leN; omega
  rw [← hm]
  rw [hvN] at hcN CI
  clear hm hn hc hps ho hkl hko hkc hV hNm hvN hR
  go_enter Tryz.func125, Tryz.ntmps125
  go_wp2
  go_loopw [9] (fun i wr => ∃ k q : Nat, k ≤ n ∧ i = .int .i64 k ∧ wr = w.drewN q ∧ Hid (eachB ps (bAt ok) tokens = eachB (ps.drop k) (bAt ok) tokens)) (fun i _ => n - (intOf i).toNat)
  case atStart => exact ⟨0, 0, Nat.zero_le _, rfl, rfl, rfl⟩
  case round =>
    obtain ⟨k, q, hk, rfl, rfl, he⟩ := hrel
    by_cases hlt : k < n
    · obtain ⟨g, rfl, _, hg⟩ := HC.out (by omega)
      obtain ⟨p, hpk⟩ : ∃ p, ps[k]? = some p := ⟨_, List.getElem?_eq_getElem (by have := HN.out; omega)⟩
      have ck : w.cell? ⟨g, k, none⟩ = some (.string (nth ws k)) := by
        rw [hg k (by omega)]
        exact strs_at (by have := HN.out; have := HPS.out.1; omega)
      have hpt := HPS.out.2 k p hpk
      have hmem := List.mem_of_getElem? hpk
      obtain ⟨x, hx⟩ : ∃ x, x = nth ws k := ⟨_, rfl⟩
      rw [← hx] at ck hpt
      clear hg hx HC
      cases p with
      | tok t =>
        have HE : Hid (eachB ps (bAt ok) tokens = (tokens && eachB (ps.drop (k + 1)) (bAt ok) tokens)) := hid (he.out.trans (eachB_tok (bAt ok) tokens hpk))
        have CX : Hid (∀ q, Calls Tryz.prog 84 #[.slice adN G.names.length capN, .string x] (w.drewN q) fun e w' => e = .returned (.int .i64 (-1)) ∧ w' = w.drewN q) := hid fun q => by
          have := CI.out q x
          rwa [hpt.1] at this
        clear hpt hpk hmem CI he
        cases tokens
        · have HF : Hid (eachB ps (bAt ok) false = false) := hid (HE.out.trans (by simp))
          go_wp2
          go_quiet ((go_at_call 84; exact (CX.out _).mono fun _ _ h => ⟨h.1, _, h.2⟩))
          go_wp2
          go_ret
          exact ⟨ret_bool HF.out, _, rfl⟩
        · have HF : Hid (eachB ps (bAt ok) true = eachB (ps.drop (k + 1)) (bAt ok) true) := hid (HE.out.trans (by simp))
          go_wp2
          go_quiet ((go_at_call 84; exact (CX.out _).mono fun _ _ h => ⟨h.1, _, h.2⟩))
          go_wp2
          go_roundw
          case rel => exact ⟨k + 1, _, by omega, by go_num, rfl, HF⟩
          case measure => simp [intOf]; omega
      | nam j =>
        have HE : Hid (eachB ps (bAt ok) tokens = (bAt ok j && eachB (ps.drop (k + 1)) (bAt ok) tokens)) := hid (he.out.trans (eachB_nam (bAt ok) tokens hpk))
        have hj := HO.out.1 j hmem
        have cj := HK.out j hj
        have hjm : j < m := by have := HM.out; omega
        have CX : Hid (∀ q, Calls Tryz.prog 84 #[.slice adN G.names.length capN, .string x] (w.drewN q) fun e w' => e = .returned (.int .i64 j) ∧ w' = w.drewN q) := hid fun q => by
          have := CI.out q x
          rwa [show idxB G.names x = j from hpt] at this
        clear hpt hpk hmem CI HK hj he
        cases hb : bAt ok j
        · have HF : Hid (eachB ps (bAt ok) tokens = false) := hid (HE.out.trans (by simp [hb]))
          rw [hb] at cj
          go_wp2
          go_quiet ((go_at_call 84; exact (CX.out _).mono fun _ _ h => ⟨h.1, _, h.2⟩))
          go_wp2
          go_ret
          exact ⟨ret_bool HF.out, _, rfl⟩
        · have HF : Hid (eachB ps (bAt ok) tokens = eachB (ps.drop (k + 1)) (bAt ok) tokens) := hid (HE.out.trans (by simp [hb]))
          rw [hb] at cj
          go_wp2
          go_quiet ((go_at_call 84; exact (CX.out _).mono fun _ _ h => ⟨h.1, _, h.2⟩))
          go_wp2
          go_roundw
          case rel => exact ⟨k + 1, _, by omega, by go_num, rfl, HF⟩
          case measure => simp [intOf]; omega
    · have HF : Hid (eachB ps (bAt ok) tokens = true) := hid (by
        rw [he.out, List.drop_eq_nil_of_le (by have := HN.out; omega)]; rfl)
      go_wp2
      go_ret
      exact ⟨ret_bool HF.out, _, rfl⟩

end Go.Proofs.YtjjggdcnpndgjaaGreatDoor

namespace Go.Proofs.YtjjggdcnpndgjaaGreatDoor
open Go.RowKit

theorem Tryz.info4 : (Tryz.prog.info? 4).map (fun i => (i.zero, i.size, i.bytes)) = some (some (.bool false), 1, 1) := by kernel_rfl

/-- What the walks read of a rule, in any later world. -/
theorem rule_cells {w : World} {B gb : Nat} {G : Gr} {N : NG} (hR : Rep G N) {vT vS vN vR : Value} {pv : List Value} (h : GrV w B gb G vT vS vN vR pv) {i : Nat} {q : Nat × List Pt} (hq : N.rules[i]? = some q) :
    ∃ (r : ByteArray × List ByteArray) (gR capR adP : _) (capP : Nat), G.rules[i]? = some r ∧ vR = .slice (some ⟨gR, 0, none⟩) N.rules.length capR ∧ gR < w.heap.size ∧ N.rules.length ≤ capR ∧ w.cell? ⟨gR, i * 2, none⟩ = some (.string r.1) ∧
      w.cell? ⟨gR, i * 2 + 1, none⟩ = some (.slice adP q.2.length capP) ∧ RowV w (.slice adP q.2.length capP) (strs r.2) ∧ idxB G.names r.1 = q.1 ∧ PsRep G r.2 q.2 ∧ q.1 < N.nN := by
  have hi := (List.getElem?_eq_some_iff.1 hq).1
  have hlen := hR.len
  obtain ⟨r, hr⟩ : ∃ r, G.rules[i]? = some r := ⟨_, List.getElem?_eq_getElem (by omega)⟩
  obtain ⟨gR, capR, p, h1, h2, h3, h4, h5, h6⟩ := rule_at h hr
  obtain ⟨h7, h8⟩ := hR.rule i r q hr hq
  obtain ⟨ad, cap, h9, _⟩ := h6
  have h6' := (rule_at h hr)
  rw [strs_len, h8.1] at h9
  refine ⟨r, gR, capR, ad, cap, hr, by rw [hlen]; exact h1, h2, by omega, h4, ?_, ?_, h7, h8, hR.ok.lt q (List.mem_of_getElem? hq)⟩
  · rw [h5, h9]
  · rw [← h9]
    rename_i hx
    exact ⟨ad, cap, by rw [strs_len, h8.1]; exact h9, hx.1, hx.2⟩

theorem made_bools (n : Nat) : (madeCells (Value.bool false).cells (n * 1)).toList = bools (List.replicate n false) := by
  rw [Nat.mul_one]; exact (toList_madeCells_one _ _).trans (by simp [bools])

theorem bools_set (l : List Bool) (n : Nat) (b : Bool) : bools (l.set n b) = (bools l).set n (.bool b) := by unfold bools; rw [List.map_set]

theorem iter_drop (F : List Bool → List Bool) (k : Nat) (s : List Bool) : iter F (k + 1) s = iter F k (F s) := rfl

theorem closedStep_yes {tokens : Bool} {ok : List Bool} {r : Nat × List Pt} (h : eachB r.2 (bAt ok) tokens = true) : closedStep tokens ok r = ok.set r.1 true := by unfold closedStep; rw [if_pos h]
theorem closedStep_no {tokens : Bool} {ok : List Bool} {r : Nat × List Pt} (h : eachB r.2 (bAt ok) tokens = false) : closedStep tokens ok r = ok := by unfold closedStep; rw [if_neg (by rw [h]; decide)]

set_option maxHeartbeats 2000000 in
set_option maxRecDepth 100000 in
theorem closed_any (G : Gr) (N : NG) (hR : Rep G N) (w : World) (B gb : Nat) (hG : GrAt w B gb G) (tokens : Bool) :
    Calls Tryz.prog 76 #[.pointer (some ⟨gb, 0, none⟩), .bool tokens] w fun e w' => ∃ cap, e = .returned (.slice (some ⟨w.heap.size, 0, none⟩) N.nN cap) ∧
      w'.ownsRow w.heap.size 4 1 (.slice (some ⟨w.heap.size, 0, none⟩) N.nN cap) N.nN (bools (closedN N tokens)) ∧ Below w.heap.size w w' := by
  obtain ⟨i0, hi, hz0, hz1, hz2⟩ := info_parts Tryz.info4
  obtain ⟨vT, vS, vN, vR, pv, hV⟩ := hG
  obtain ⟨adN, capN, hvN⟩ := own_slice hV.names
  obtain ⟨adR, capR, hvR⟩ := own_slice hV.rules
  have hnN := hR.nN
  have hlen := hR.len
  have hnle := hR.leN
  have hrle := hR.leR
  have cN := hV.cells.2.2.1
  have cR := hV.cells.2.2.2
  have hgb := lt_of_block hV.blk
  have HV : Hid (GrV w B gb G vT vS vN vR pv) := hid hV
  have HR : Hid (Rep G N) := hid hR
  have HNm : Hid (RowV w vN (strs G.names)) := hid (RowV.own hV.names (by simp [strs]))
  rw [← hnN] at hvN
  rw [← hlen] at hvR
  obtain ⟨nN, hn1⟩ : ∃ n, n = N.nN := ⟨_, rfl⟩
  obtain ⟨nR, hn2⟩ : ∃ n, n = N.rules.length := ⟨_, rfl⟩
  rw [← hn1] at hvN hnle
  rw [← hn2] at hvR hrle
  have H1 : Hid (nN = N.nN) := hid hn1
  have H2 : Hid (nR = N.rules.length) := hid hn2
  rw [← hn1]
  subst hvN
  subst hvR
  clear hV hR hnN hlen hn1 hn2
  obtain ⟨b0, hb0⟩ : ∃ b, b = w.heap.size := ⟨_, rfl⟩
  have H0 : Hid (b0 = w.heap.size) := hid hb0
  rw [← hb0] at hgb
  rw [← hb0]
  go_enter Tryz.func76, Tryz.ntmps76
  go_wp2_with (first
    | (at_make; refine wpList_make_full _ rfl _ _ 150 rfl b0 4 i0 (.bool false) 1 Tryz.underlying150 hi hz0 hz1 .i64 .i64 nN nN nN rfl rfl rfl rfl (by rw [hz2]; omega) (by unfold maxLen; omega) (by omega) ?_; intro w1 hown1 hgrow1))
  have HO1 : Hid (w1.ownsRow b0 4 1 (.slice (some ⟨b0, 0, none⟩) nN nN) nN (bools (List.replicate nN false))) := hid (by
    rw [made_bools] at hown1; rw [hb0]; rw [hb0] at hown1; exact hown1)
  have HB1 : Hid (Below b0 w w1) := hid ((Below.refl _ _).grown hgrow1 (Nat.le_of_eq hb0) (fun j hj => by cases hj))
  have HF : Hid (∀ i : Nat, i < nR → ∃ q, N.rules[i]? = some q) := hid fun i h => ⟨_, List.getElem?_eq_getElem (by rw [← H2.out]; exact h)⟩
  rw [← hb0]
  clear hown1 hgrow1 hb0
  go_loopw [6] (fun i wr => ∃ (k : Nat) (ok : List Bool), k ≤ nN + 1 ∧ i = .int .i64 k ∧ Hid (iter (closedRound N tokens) (nN + 1 - k) ok = closedN N tokens) ∧ Hid (ok.length = nN) ∧
      Hid (wr.ownsRow b0 4 1 (.slice (some ⟨b0, 0, none⟩) nN nN) nN (bools ok)) ∧ Hid (Below b0 w wr)) (fun i _ => nN + 1 - (intOf i).toNat)
  case atStart => exact ⟨0, _, Nat.zero_le _, rfl, hid (by unfold closedN; rw [← H1.out]; rfl), hid (by simp), HO1, HB1⟩
  case round =>
    clear HO1 HB1
    obtain ⟨k, ok, hk, rfl, hit, hkl, hown, hbr⟩ := hrel
    obtain ⟨W, hW⟩ : ∃ W, W = wr := ⟨_, rfl⟩
    subst hW
    have hb2 : Below w.heap.size w W := by rw [← H0.out]; exact hbr.out
    have c2 : W.cell? ⟨gb, 2, none⟩ = some (.slice adN nN capN) := (hb2.cell (by rw [← H0.out]; exact hgb)).trans cN
    have c3 : W.cell? ⟨gb, 3, none⟩ = some (.slice adR nR capR) := (hb2.cell (by rw [← H0.out]; exact hgb)).trans cR
    clear hb2
    by_cases hlt : k ≤ nN
    · have HI : Hid (iter (closedRound N tokens) (nN - k) (closedRound N tokens ok) = closedN N tokens) := hid (by
        have h1 := hit.out
        rw [show nN + 1 - k = (nN - k) + 1 by omega] at h1
        exact h1)
      clear hit
      go_wp2
      clear c2 c3
      go_loopw [7] (fun i wr => ∃ (j : Nat) (ok : List Bool), j ≤ nR ∧ i = .int .i64 j ∧ Hid (iter (closedRound N tokens) (nN - k) ((N.rules.drop j).foldl (closedStep tokens) ok) = closedN N tokens) ∧ Hid (ok.length = nN) ∧
          Hid (wr.ownsRow b0 4 1 (.slice (some ⟨b0, 0, none⟩) nN nN) nN (bools ok)) ∧ Hid (Below b0 w wr)) (fun i _ => nR - (intOf i).toNat)
      case atStart => exact ⟨0, ok, Nat.zero_le _, rfl, HI, hkl, hown, hbr⟩
      case round =>
        clear hown hbr hkl HI
        obtain ⟨j, ok, hj, rfl, hit, hkl, hown, hbr⟩ := hrel
        obtain ⟨W, hW⟩ : ∃ W, W = wr := ⟨_, rfl⟩
        subst hW
        have hb2 : Below w.heap.size w W := by rw [← H0.out]; exact hbr.out
        have c2 : W.cell? ⟨gb, 2, none⟩ = some (.slice adN nN capN) := (hb2.cell (by rw [← H0.out]; exact hgb)).trans cN
        have c3 : W.cell? ⟨gb, 3, none⟩ = some (.slice adR nR capR) := (hb2.cell (by rw [← H0.out]; exact hgb)).trans cR
        by_cases hlj : j < nR
        · obtain ⟨q, hq⟩ := HF.out j hlj
          have hVW := HV.out.below hb2
          obtain ⟨r, gR, capR', adP, capP, hr, hvR, hgR, _, d0, d1, hPs, hix, hpr, hqn⟩ := rule_cells HR.out hVW hq
          obtain ⟨rfl, rfl⟩ : adR = some ⟨gR, 0, none⟩ ∧ capR = capR' := by injection hvR with h1 _ h2; exact ⟨h1, h2⟩
          have hgR0 : gR < b0 := by
            obtain ⟨_, gR', _, _, _, _, hvR', hgR', _⟩ := rule_cells HR.out HV.out hq
            injection hvR' with h1 _ _
            injection h1 with h1
            injection h1 with h1
            rw [h1, H0.out]; exact hgR'
          have hqn' : q.1 < nN := by rw [H1.out]; exact hqn
          have CE : Hid (Calls Tryz.prog 125 #[.pointer (some ⟨gb, 0, none⟩), .slice adP q.2.length capP, .slice (some ⟨b0, 0, none⟩) nN nN, .bool tokens] W fun e w' => e = .returned (.bool (eachB q.2 (bAt ok) tokens)) ∧ Below W.heap.size W w') := hid (by
            rw [H1.out]
            refine (each_any G N HR.out W B gb ⟨_, _, _, _, _, hVW⟩ _ r.2 q.2 hPs hpr (HR.out.ok.ps (List.mem_of_getElem? hq)) (by have := HR.out.ok.parts q (List.mem_of_getElem? hq); omega) b0 N.nN ok ?_ (by rw [hkl.out, H1.out]) tokens).mono ?_
            · have := RowV.own hown.out (by rw [bools_len, hkl.out])
              rwa [H1.out] at this
            · rintro e w' ⟨h1, q', rfl⟩
              exact ⟨h1, below_draws _ _⟩)
          have CI : Hid (∀ W', Below w.heap.size w W' → Calls Tryz.prog 84 #[.slice adN nN capN, .string r.1] W' fun e w' => e = .returned (.int .i64 q.1) ∧ W' = w') := hid fun W' hb => by
            have := index_any _ G.names r.1 W' (HNm.out.below hb) (by have := HR.out.nN; have := HR.out.leN; omega)
            rw [hix] at this
            exact this.mono fun _ _ h => ⟨h.1, h.2.symm⟩
          have hsz : b0 ≤ W.heap.size := by have := hbr.out.size; have := H0.out; omega
          have HQ : Hid (N.rules[j]? = some q) := hid hq
          obtain ⟨qn, hqn1⟩ : ∃ n, n = q.1 := ⟨_, rfl⟩
          rw [← hqn1] at hqn' CI
          obtain ⟨np, hnp⟩ : ∃ n, n = q.2.length := ⟨_, rfl⟩
          rw [← hnp] at CE d1
          have HQn : Hid (qn = q.1) := hid hqn1
          clear hb2 hVW hr hvR hgR hPs hix hpr hqn hq hqn1 hnp
          cases he : eachB q.2 (bAt ok) tokens
          · have HS : Hid (iter (closedRound N tokens) (nN - k) ((N.rules.drop (j + 1)).foldl (closedStep tokens) ok) = closedN N tokens) := hid (by
              have h1 := hit.out
              rw [drop_cons HQ.out, List.foldl_cons, closedStep_no he] at h1
              exact h1)
            rw [he] at CE
            clear he hit
            go_wp2_with (first
              | (go_at_call 125; refine CE.out.mono ?_; rintro e w1 ⟨rfl, hb1⟩))
            go_roundw
            case rel => exact ⟨j + 1, ok, by omega, by go_num, HS, hkl, hid (own_keeps hown.out (Keeps.of_below hb1 []) (by simp)), hid (hbr.out.trans (hb1.mono hsz))⟩
            case measure => simp [intOf]; omega
          · have HS : Hid (iter (closedRound N tokens) (nN - k) ((N.rules.drop (j + 1)).foldl (closedStep tokens) (ok.set qn true)) = closedN N tokens) := hid (by
              have h1 := hit.out
              rw [drop_cons HQ.out, List.foldl_cons, closedStep_yes he, ← HQn.out] at h1
              exact h1)
            rw [he] at CE
            clear he hit
            have hne1 : ¬ b0 = gb := by omega
            have hne2 : ¬ b0 = gR := by omega
            go_wp2_with (first
              | (go_at_call 125; refine CE.out.mono ?_; rintro e w1 ⟨rfl, hb1⟩; have k2 := (hb1.cell (show gb < W.heap.size by omega)).trans c2; have k3 := (hb1.cell (show gb < W.heap.size by omega)).trans c3; have k4 := (hb1.cell (show gR < W.heap.size by omega)).trans d0))
            have hown1 := own_keeps hown.out (Keeps.of_below hb1 []) (by simp)
            have HB2 : Hid (Below w.heap.size w w1) := hid (by rw [← H0.out]; exact hbr.out.trans (hb1.mono hsz))
            have cq : w1.cell? ⟨b0, qn, none⟩ = some (.bool (bAt ok qn)) := by
              rw [hown1.cellAt qn (by omega)]
              exact bools_at (by rw [hkl.out]; exact hqn')
            have hfr : w1.frozen? ⟨b0, qn, none⟩ = false := hown1.frozenAt qn
            have HO2 : Hid _ := hid hown1
            clear hown1 hb1
            go_region_held3 (fun w' => w'.cell? ⟨gb, 2, none⟩ = some (.slice adN nN capN) ∧ w'.cell? ⟨gb, 3, none⟩ = some (.slice (some ⟨gR, 0, none⟩) nR capR) ∧ w'.cell? ⟨gR, j * 2, none⟩ = some (.string r.1)) (go_keep)
              (first | (go_at_call 84; refine (CI.out _ (HB2.out.drew)).mono ?_; rintro e w2 ⟨rfl, rfl⟩; try dsimp only))
            have HO3 : Hid (((w1.setCell ⟨b0, qn, none⟩ (.bool true)).drew).ownsRow b0 4 1 (.slice (some ⟨b0, 0, none⟩) nN nN) nN (bools (ok.set qn true))) := hid (by
              rw [bools_set]
              exact (HO2.out.stored qn (.bool true)).1.drew)
            have HB3 : Hid (Below b0 w ((w1.setCell ⟨b0, qn, none⟩ (.bool true)).drew)) := hid (by
              have h1 := HB2.out
              rw [← H0.out] at h1
              exact (h1.setCell (p := ⟨b0, qn, none⟩) (Nat.le_refl _) _).drew)
            go_wp2
            go_roundw
            case rel => exact ⟨j + 1, ok.set qn true, by omega, by go_num, HS, hid (by rw [List.length_set]; exact hkl.out), HO3, HB3⟩
            case measure => simp [intOf]; omega
        · have HS : Hid (iter (closedRound N tokens) (nN + 1 - (k + 1)) ok = closedN N tokens) := hid (by
            have h1 := hit.out
            rw [List.drop_eq_nil_of_le (by have := H2.out; omega)] at h1
            rw [show nN + 1 - (k + 1) = nN - k by omega]
            exact h1)
          go_wp2
          go_roundw
          case rel => exact ⟨k + 1, ok, by omega, by go_num, HS, hkl, hown, hbr⟩
          case measure => simp [intOf]; omega
    · have HS : Hid (ok = closedN N tokens) := hid (by
        have h1 := hit.out
        rw [show nN + 1 - k = 0 by omega] at h1
        exact h1)
      go_wp2
      go_ret
      exact ⟨nN, rfl, by rw [← HS.out]; exact hown.out, hbr.out⟩

end Go.Proofs.YtjjggdcnpndgjaaGreatDoor

namespace Go.Proofs.YtjjggdcnpndgjaaGreatDoor
open Go.RowKit

structure Ctx (w : World) (B gb : Nat) (G : Gr) (N : NG) (adT : Option Addr) (capT gN capN gR capR : Nat) : Prop where
  rep : Rep G N
  gr : GrAt w B gb G
  hgb : gb < w.heap.size
  hgN : gN < w.heap.size
  hgR : gR < w.heap.size
  c0 : w.cell? ⟨gb, 0, none⟩ = some (.slice adT N.nT capT)
  c2 : w.cell? ⟨gb, 2, none⟩ = some (.slice (some ⟨gN, 0, none⟩) N.nN capN)
  c3 : w.cell? ⟨gb, 3, none⟩ = some (.slice (some ⟨gR, 0, none⟩) N.rules.length capR)
  lN : N.nN ≤ capN
  lT : N.nT ≤ capT
  lR : N.rules.length ≤ capR
  names : RowV w (.slice (some ⟨gN, 0, none⟩) N.nN capN) (strs G.names)
  toks : ∀ t, t < N.nT → ∃ gT, adT = some ⟨gT, 0, none⟩ ∧ gT < w.heap.size ∧ w.cell? ⟨gT, t * 3, none⟩ = some (.string (tokW G.toks t)) ∧ w.cell? ⟨gT, t * 3 + 1, none⟩ = some (.int .i64 (N.put t))
  rule : ∀ (j : Nat) (q : Nat × List Pt), N.rules[j]? = some q → ∃ nm ws adP capP, w.cell? ⟨gR, j * 2, none⟩ = some (.string nm) ∧ w.cell? ⟨gR, j * 2 + 1, none⟩ = some (.slice adP q.2.length capP) ∧
    RowV w (.slice adP q.2.length capP) (strs ws) ∧ idxB G.names nm = q.1 ∧ PsRep G ws q.2

theorem Ctx.below {w w' : World} {B gb : Nat} {G : Gr} {N : NG} {adT : Option Addr} {capT gN capN gR capR : Nat} (h : Ctx w B gb G N adT capT gN capN gR capR) (hb : Below w.heap.size w w') : Ctx w' B gb G N adT capT gN capN gR capR where
  rep := h.rep
  gr := h.gr.below hb
  hgb := Nat.lt_of_lt_of_le h.hgb hb.size
  hgN := Nat.lt_of_lt_of_le h.hgN hb.size
  hgR := Nat.lt_of_lt_of_le h.hgR hb.size
  c0 := (hb.cell (by exact h.hgb)).trans h.c0
  c2 := (hb.cell (by exact h.hgb)).trans h.c2
  c3 := (hb.cell (by exact h.hgb)).trans h.c3
  lN := h.lN
  lT := h.lT
  lR := h.lR
  names := h.names.below hb
  toks := fun t ht => by
    obtain ⟨gT, h1, h2, h3, h4⟩ := h.toks t ht
    exact ⟨gT, h1, Nat.lt_of_lt_of_le h2 hb.size, (hb.cell (by exact h2)).trans h3, (hb.cell (by exact h2)).trans h4⟩
  rule := fun j q hq => by
    obtain ⟨nm, ws, adP, capP, h1, h2, h3, h4, h5⟩ := h.rule j q hq
    exact ⟨nm, ws, adP, capP, (hb.cell (by exact h.hgR)).trans h1, (hb.cell (by exact h.hgR)).trans h2, h3.below hb, h4, h5⟩

theorem put_cell {w : World} {B g cap n : Nat} {l : List (ByteArray × Int × Int)} (h : w.ownsRow B 174 3 (.slice (some ⟨g, 0, none⟩) n cap) n (tokCells l)) {k : Nat} (hk : k < n) {tk : ByteArray × Int × Int} (ht : l[k]? = some tk) :
    w.cell? ⟨g, k * 3 + 1, none⟩ = some (.int .i64 tk.2.1) := by
  rw [h.cellAt (k * 3 + 1) (show k * 3 + 1 < n * 3 by omega)]
  have := flat3 (fun t : ByteArray × Int × Int => [Value.string t.1, .int .i64 t.2.1, .int .i64 t.2.2]) (fun _ => rfl) l k tk 1 ht (by omega)
  unfold tokCells
  rw [this]; rfl

theorem ctx_of {w : World} {B gb : Nat} {G : Gr} {N : NG} (hR : Rep G N) (hG : GrAt w B gb G) : ∃ adT capT gN capN gR capR, Ctx w B gb G N adT capT gN capN gR capR := by
  have hG0 := hG
  obtain ⟨vT, vS, vN, vR, pv, hV⟩ := hG
  obtain ⟨adT, capT, hvT⟩ := own_slice hV.toks
  have hnT := hR.nT
  have hnN := hR.nN
  have hlen := hR.len
  have hpN := hR.ok.pos
  have hpR := hR.posR
  obtain ⟨gN, capN, hvN, _, hgN, hlN⟩ := owned_shape hV.names (by omega)
  obtain ⟨gR, capR, hvR, _, hgR, hlR⟩ := owned_shape hV.rules (by omega)
  have hRowN : RowV w vN (strs G.names) := RowV.own hV.names (by simp [strs])
  have hlT : N.nT ≤ capT := by
    rcases hV.toks.2 with ⟨h1, h2⟩ | ⟨g, cap, cur, h1, _, _, h2, _⟩
    · omega
    · rw [hvT] at h1; injection h1 with _ _ h1; omega
  have hT : ∀ t, t < N.nT → ∃ gT, adT = some ⟨gT, 0, none⟩ ∧ gT < w.heap.size ∧ w.cell? ⟨gT, t * 3, none⟩ = some (.string (tokW G.toks t)) ∧ w.cell? ⟨gT, t * 3 + 1, none⟩ = some (.int .i64 (N.put t)) := by
    intro t ht
    have htk := hV.toks
    rcases htk.2 with ⟨h1, h2⟩ | ⟨g, cap, cur, h1, _, hh, _⟩
    · omega
    · rw [h1] at htk
      have h2 := tok_cell htk rfl (k := t) (by omega)
      obtain ⟨tk, htk2⟩ : ∃ tk, G.toks[t]? = some tk := ⟨_, List.getElem?_eq_getElem (by omega)⟩
      have h3 := put_cell htk (k := t) (by omega) htk2
      rw [hvT] at h1
      injection h1 with h1 _ _
      exact ⟨g, h1, lt_of_block hh, h2, by rw [h3, hR.put t tk htk2]⟩
  refine ⟨adT, capT, gN, capN, gR, capR, hR, hG0, lt_of_block hV.blk, hgN, hgR, ?_, ?_, ?_, by omega, hlT, by omega, ?_, hT, fun j q hq => ?_⟩
  · rw [hV.cells.1, hvT, hnT]
  · rw [hV.cells.2.2.1, hvN, hnN]
  · rw [hV.cells.2.2.2, hvR, hlen]
  · rw [hnN, ← hvN]; exact hRowN
  · obtain ⟨r, gR', capR', adP, capP, h1, h2, h3, h4, h5, h6, h7, h8, h9, _⟩ := rule_cells hR hV hq
    rw [hvR, ← hlen] at h2
    injection h2 with h2 _ h2c
    injection h2 with h2
    injection h2 with h2
    subst h2
    exact ⟨r.1, r.2, adP, capP, h5, h6, h7, h8, h9⟩

section
variable {w : World} {B gb : Nat} {G : Gr} {N : NG} {adT : Option Addr} {capT gN capN gR capR : Nat}

theorem Ctx.index (h : Ctx w B gb G N adT capT gN capN gR capR) (x : ByteArray) : Calls Tryz.prog 84 #[.slice (some ⟨gN, 0, none⟩) N.nN capN, .string x] w fun e w' => e = .returned (.int .i64 (idxB G.names x)) ∧ w' = w :=
  index_any _ G.names x w h.names (by have := h.rep.nN; have := h.rep.leN; omega)

theorem Ctx.token (h : Ctx w B gb G N adT capT gN capN gR capR) (x : ByteArray) : Calls Tryz.prog 57 #[.pointer (some ⟨gb, 0, none⟩), .string x] w fun e w' => e = .returned (.int .i64 (idxB (tokWs G.toks) x)) ∧ w' = w :=
  token_any G x w B gb h.gr (by have := h.rep.nT; have := h.rep.leT; omega)

/-- The k-th part of a row of words. -/
theorem word_at {w : World} {ad : Option Addr} {n cap : Nat} {ws : List ByteArray} (h : RowV w (.slice ad n cap) (strs ws)) (hl : ws.length = n) {k : Nat} (hk : k < n) : ∃ g, ad = some ⟨g, 0, none⟩ ∧ g < w.heap.size ∧ n ≤ cap ∧ w.cell? ⟨g, k, none⟩ = some (.string (nth ws k)) := by
  obtain ⟨ad', cap', h1, h2, h3⟩ := h
  rw [strs_len, hl] at h1 h2 h3
  injection h1 with h1 _ h4
  subst h1
  subst h4
  obtain ⟨g, h5, h6, h7⟩ := h3 (by omega)
  exact ⟨g, h5, h6, h2, by rw [h7 k hk]; exact strs_at (by omega)⟩
end

/-- A store into a row of Bools that the call owns. -/
theorem own_true {w W : World} {b0 n : Nat} {ok : List Bool} (hb : Below b0 w W) (h : W.ownsRow b0 4 1 (.slice (some ⟨b0, 0, none⟩) n n) n (bools ok)) (j : Nat) (v : Bool) :
    (W.setCell ⟨b0, j, none⟩ (.bool v)).ownsRow b0 4 1 (.slice (some ⟨b0, 0, none⟩) n n) n (bools (ok.set j v)) ∧ Below b0 w (W.setCell ⟨b0, j, none⟩ (.bool v)) := by
  rw [bools_set]
  exact ⟨(h.stored j (.bool v)).1, hb.setCell (p := ⟨b0, j, none⟩) (Nat.le_refl _) _⟩

theorem own_cell {W : World} {b0 n : Nat} {ok : List Bool} (h : W.ownsRow b0 4 1 (.slice (some ⟨b0, 0, none⟩) n n) n (bools ok)) (hl : ok.length = n) {j : Nat} (hj : j < n) : W.cell? ⟨b0, j, none⟩ = some (.bool (bAt ok j)) ∧ W.frozen? ⟨b0, j, none⟩ = false := by
  refine ⟨?_, h.frozenAt j⟩
  rw [h.cellAt j (by omega)]
  exact bools_at (by omega)

theorem foundStep_yes {ok : List Bool} {r : Nat × List Pt} (h : bAt ok r.1 = true) : foundStep ok r = markB ok r.2 := by unfold foundStep; rw [if_pos h]
theorem foundStep_no {ok : List Bool} {r : Nat × List Pt} (h : bAt ok r.1 = false) : foundStep ok r = ok := by unfold foundStep; rw [if_neg (by rw [h]; decide)]

set_option maxHeartbeats 2000000 in
set_option maxRecDepth 100000 in
theorem found_any (G : Gr) (N : NG) (hR : Rep G N) (w : World) (B gb : Nat) (hG : GrAt w B gb G) :
    Calls Tryz.prog 124 #[.pointer (some ⟨gb, 0, none⟩)] w fun e w' => ∃ cap, e = .returned (.slice (some ⟨w.heap.size, 0, none⟩) N.nN cap) ∧
      w'.ownsRow w.heap.size 4 1 (.slice (some ⟨w.heap.size, 0, none⟩) N.nN cap) N.nN (bools (foundN N)) ∧ Below w.heap.size w w' := by
  obtain ⟨i0, hi, hz0, hz1, hz2⟩ := info_parts Tryz.info4
  obtain ⟨adT, capT, gN, capN, gR, capR, hX⟩ := ctx_of hR hG
  have hnle := hR.leN
  have hnpos := hR.ok.pos
  have hrle := hR.leR
  have c2 := hX.c2
  have hgb := hX.hgb
  have hgN := hX.hgN
  have hgR := hX.hgR
  have lN := hX.lN
  have lR := hX.lR
  have HX : Hid (Ctx w B gb G N adT capT gN capN gR capR) := hid hX
  obtain ⟨nN, hn1⟩ : ∃ n, n = N.nN := ⟨_, rfl⟩
  obtain ⟨nR, hn2⟩ : ∃ n, n = N.rules.length := ⟨_, rfl⟩
  rw [← hn1] at c2 hnle lN hnpos ⊢
  rw [← hn2] at hrle lR
  have H1 : Hid (nN = N.nN) := hid hn1
  have H2 : Hid (nR = N.rules.length) := hid hn2
  clear hX hR hn1 hn2 hG
  obtain ⟨b0, hb0⟩ : ∃ b, b = w.heap.size := ⟨_, rfl⟩
  have H0 : Hid (b0 = w.heap.size) := hid hb0
  rw [← hb0] at hgb hgN hgR
  rw [← hb0]
  go_enter Tryz.func124, Tryz.ntmps124
  go_wp2_with (first
    | (at_make; refine wpList_make_full _ rfl _ _ 150 rfl b0 4 i0 (.bool false) 1 Tryz.underlying150 hi hz0 hz1 .i64 .i64 nN nN nN rfl rfl rfl rfl (by rw [hz2]; omega) (by unfold maxLen; omega) (by omega) ?_; intro w1 hown1 hgrow1; rw [made_bools, hb0] at hown1; obtain ⟨hc0, hf0⟩ := own_cell hown1 (by simp) (j := 0) (by omega); rw [bAt_rep] at hc0))
  rw [← hb0] at hown1 ⊢
  have hb1 : Below b0 w w1 := (Below.refl _ _).grown hgrow1 (Nat.le_of_eq hb0) (fun j hj => by cases hj)
  have h1 := own_true hb1 hown1 0 true
  have HO1 : Hid _ := hid h1.1
  have HB1 : Hid _ := hid h1.2
  have HF : Hid (∀ i : Nat, i < nR → ∃ q, N.rules[i]? = some q) := hid fun i h => ⟨_, List.getElem?_eq_getElem (by rw [← H2.out]; exact h)⟩
  have HBel : Hid (∀ W, Below b0 w W → Below w.heap.size w W) := hid fun W h => by rw [← H0.out]; exact h
  clear hown1 hgrow1 hb0 hb1 h1 hc0 hf0
  go_loopw [4] (fun i wr => ∃ (k : Nat) (ok : List Bool), k ≤ nN + 1 ∧ i = .int .i64 k ∧ Hid (iter (foundRound N) (nN + 1 - k) ok = foundN N) ∧ Hid (ok.length = nN) ∧
      Hid (wr.ownsRow b0 4 1 (.slice (some ⟨b0, 0, none⟩) nN nN) nN (bools ok)) ∧ Hid (Below b0 w wr)) (fun i _ => nN + 1 - (intOf i).toNat)
  case atStart => exact ⟨0, _, Nat.zero_le _, rfl, hid (by unfold foundN; rw [← H1.out]; rfl), hid (by simp), HO1, HB1⟩
  case round =>
    clear HO1 HB1 c2
    obtain ⟨k, ok, hk, rfl, hit, hkl, hown, hbr⟩ := hrel
    obtain ⟨W, hW⟩ : ∃ W, W = wr := ⟨_, rfl⟩
    subst hW
    have hX := HX.out.below (HBel.out _ hbr.out)
    have c2 := hX.c2
    have c3 := hX.c3
    rw [← H1.out] at c2
    rw [← H2.out] at c3
    clear hX
    by_cases hlt : k ≤ nN
    · have HI : Hid (iter (foundRound N) (nN - k) (foundRound N ok) = foundN N) := hid (by
        have h1 := hit.out
        rw [show nN + 1 - k = (nN - k) + 1 by omega] at h1
        exact h1)
      clear hit
      go_wp2
      clear c2 c3
      go_loopw [5] (fun i wr => ∃ (j : Nat) (ok : List Bool), j ≤ nR ∧ i = .int .i64 j ∧ Hid (iter (foundRound N) (nN - k) ((N.rules.drop j).foldl foundStep ok) = foundN N) ∧ Hid (ok.length = nN) ∧
          Hid (wr.ownsRow b0 4 1 (.slice (some ⟨b0, 0, none⟩) nN nN) nN (bools ok)) ∧ Hid (Below b0 w wr)) (fun i _ => nR - (intOf i).toNat)
      case atStart => exact ⟨0, ok, Nat.zero_le _, rfl, HI, hkl, hown, hbr⟩
      case round =>
        clear hown hbr hkl HI
        obtain ⟨j, ok, hj, rfl, hit, hkl, hown, hbr⟩ := hrel
        obtain ⟨W, hW⟩ : ∃ W, W = wr := ⟨_, rfl⟩
        subst hW
        have hX := HX.out.below (HBel.out _ hbr.out)
        have c2 := hX.c2
        have c3 := hX.c3
        rw [← H1.out] at c2
        rw [← H2.out] at c3
        have HXW : Hid _ := hid hX
        by_cases hlj : j < nR
        · obtain ⟨q, hq⟩ := HF.out j hlj
          obtain ⟨nm, ws, adP, capP, d0, d1, hPs, hix, hpr⟩ := hX.rule j q hq
          have hqn : q.1 < nN := by rw [H1.out]; exact hX.rep.ok.lt q (List.mem_of_getElem? hq)
          have CI : Hid (∀ m, Calls Tryz.prog 84 #[.slice (some ⟨gN, 0, none⟩) nN capN, .string nm] (W.drewN m) fun e w' => e = .returned (.int .i64 q.1) ∧ w' = W.drewN m) := hid fun m => by
            rw [← hix, H1.out]
            exact (hX.below (below_draws W m)).index nm
          obtain ⟨cq, hfq⟩ := own_cell hown.out hkl.out hqn
          have hsz : b0 ≤ W.heap.size := by have := hbr.out.size; have := H0.out; omega
          have HQ : Hid (N.rules[j]? = some q) := hid hq
          have HPs : Hid _ := hid hPs
          have HPr : Hid _ := hid hpr
          obtain ⟨np, hnp⟩ : ∃ n, n = q.2.length := ⟨_, rfl⟩
          have hnp8 : np ≤ 8 := by rw [hnp]; exact hX.rep.ok.parts q (List.mem_of_getElem? hq)
          rw [← hnp] at d1 HPs
          have HNp : Hid (np = q.2.length) := hid hnp
          have HPO : Hid (PsOk N q.2) := hid (hX.rep.ok.ps (List.mem_of_getElem? hq))
          obtain ⟨qn, hqn1⟩ : ∃ n, n = q.1 := ⟨_, rfl⟩
          rw [← hqn1] at hqn CI cq hfq
          have HQn : Hid (qn = q.1) := hid hqn1
          clear hX hPs hix hpr hq hqn1 hnp
          cases he : bAt ok qn
          · have HS : Hid (iter (foundRound N) (nN - k) ((N.rules.drop (j + 1)).foldl foundStep ok) = foundN N) := hid (by
              have h1 := hit.out
              rw [HQn.out] at he
              rw [drop_cons HQ.out, List.foldl_cons, foundStep_no he] at h1
              exact h1)
            rw [he] at cq
            clear he hit
            go_wp2
            go_quiet ((go_at_call 84; exact (CI.out _).mono fun _ _ h => ⟨h.1, _, h.2⟩))
            go_wp2
            go_roundw
            case rel => exact ⟨j + 1, ok, by omega, by go_num, HS, hkl, hid (own_keeps hown.out (Keeps.of_below (below_draws _ _) []) (by simp)), hid (hbr.out.trans ((below_draws _ _).mono hsz))⟩
            case measure => simp [intOf]; omega
          · have HS : Hid (iter (foundRound N) (nN - k) ((N.rules.drop (j + 1)).foldl foundStep (markB ok q.2)) = foundN N) := hid (by
              have h1 := hit.out
              rw [HQn.out] at he
              rw [drop_cons HQ.out, List.foldl_cons, foundStep_yes he] at h1
              exact h1)
            rw [he] at cq
            clear he hit
            go_wp2
            go_quiet ((go_at_call 84; exact (CI.out _).mono fun _ _ h => ⟨h.1, _, h.2⟩))
            go_wp2
            obtain ⟨W1, hW1⟩ : ∃ W1, W1 = W.drewN nq := ⟨_, rfl⟩
            have hbd : Below W.heap.size W W1 := by rw [hW1]; exact below_draws _ _
            rw [← hW1]
            have HO1 : Hid _ := hid (own_keeps hown.out (Keeps.of_below hbd []) (by simp))
            have HB1 : Hid _ := hid (hbr.out.trans (hbd.mono hsz))
            clear hW1 hbd hown hbr HXW c2 c3 d0 d1 cq hfq HPs
            go_loopw [6] (fun i wr => ∃ (l : Nat) (ok : List Bool), l ≤ np ∧ i = .int .i64 l ∧ Hid (iter (foundRound N) (nN - k) ((N.rules.drop (j + 1)).foldl foundStep (markB ok (q.2.drop l))) = foundN N) ∧ Hid (ok.length = nN) ∧
              Hid (wr.ownsRow b0 4 1 (.slice (some ⟨b0, 0, none⟩) nN nN) nN (bools ok)) ∧ Hid (Below b0 w wr)) (fun i _ => np - (intOf i).toNat)
            case atStart => exact ⟨0, ok, Nat.zero_le _, rfl, HS, hkl, HO1, HB1⟩
            case round =>
              clear HO1 HB1 hkl HS hsz
              obtain ⟨l, ok, hl, rfl, hit, hkl, hown, hbr⟩ := hrel
              obtain ⟨W2, hW⟩ : ∃ W, W = wr := ⟨_, rfl⟩
              subst hW
              have hX := HX.out.below (HBel.out _ hbr.out)
              have c2 := hX.c2
              have c3 := hX.c3
              rw [← H1.out] at c2
              rw [← H2.out] at c3
              obtain ⟨nm', ws', adP', capP', d0, d1, hPs, _, hpr'⟩ := hX.rule j q HQ.out
              rw [← HNp.out] at d1 hPs
              have hsz : b0 ≤ W2.heap.size := by have := hbr.out.size; have := H0.out; omega
              have hwl : ws'.length = np := by rw [HNp.out]; exact hpr'.1
              by_cases hll : l < np
              · obtain ⟨gP, rfl, _, hcapP, ck⟩ := word_at hPs hwl hll
                obtain ⟨p, hpk⟩ : ∃ p, q.2[l]? = some p := ⟨_, List.getElem?_eq_getElem (by have := HNp.out; omega)⟩
                have hpt := hpr'.2 l p hpk
                obtain ⟨x, hx⟩ : ∃ x, x = nth ws' l := ⟨_, rfl⟩
                rw [← hx] at ck hpt
                have CX : Hid (∀ m, Calls Tryz.prog 84 #[.slice (some ⟨gN, 0, none⟩) nN capN, .string x] (W2.drewN m) fun e w' => e = .returned (.int .i64 (idxB G.names x)) ∧ w' = W2.drewN m) := hid fun m => by
                  rw [H1.out]
                  exact (hX.below (below_draws W2 m)).index x
                have HL : Hid (q.2.drop l = p :: q.2.drop (l + 1)) := hid (drop_cons hpk)
                have hmem := List.mem_of_getElem? hpk
                clear hX hPs hpr' hpk hx d0 hwl
                cases p with
                | tok t =>
                  have CY : Hid (∀ m, Calls Tryz.prog 84 #[.slice (some ⟨gN, 0, none⟩) nN capN, .string x] (W2.drewN m) fun e w' => e = .returned (.int .i64 (-1)) ∧ w' = W2.drewN m) := hid fun m => by
                    have := CX.out m
                    rwa [hpt.1] at this
                  have HS : Hid (iter (foundRound N) (nN - k) ((N.rules.drop (j + 1)).foldl foundStep (markB ok (q.2.drop (l + 1)))) = foundN N) := hid (by
                    have h1 := hit.out
                    rw [HL.out] at h1
                    exact h1)
                  clear hpt hmem CX hit HL
                  go_wp2
                  go_quiet ((go_at_call 84; exact (CY.out _).mono fun _ _ h => ⟨h.1, _, h.2⟩))
                  go_wp2
                  go_roundw
                  case rel => exact ⟨l + 1, ok, by omega, by go_num, HS, hkl, hid (own_keeps hown.out (Keeps.of_below (below_draws _ _) []) (by simp)), hid (hbr.out.trans ((below_draws _ _).mono hsz))⟩
                  case measure => simp [intOf]; omega
                | nam m =>
                  have hm := HPO.out.1 m hmem
                  rw [← H1.out] at hm
                  have CY : Hid (∀ n, Calls Tryz.prog 84 #[.slice (some ⟨gN, 0, none⟩) nN capN, .string x] (W2.drewN n) fun e w' => e = .returned (.int .i64 m) ∧ w' = W2.drewN n) := hid fun n => by
                    have := CX.out n
                    rwa [show idxB G.names x = m from hpt] at this
                  have HS : Hid (iter (foundRound N) (nN - k) ((N.rules.drop (j + 1)).foldl foundStep (markB (ok.set m true) (q.2.drop (l + 1)))) = foundN N) := hid (by
                    have h1 := hit.out
                    rw [HL.out] at h1
                    exact h1)
                  obtain ⟨cm, hfm⟩ := own_cell hown.out hkl.out hm
                  clear hpt hmem CX hit HL
                  go_wp2
                  go_quiet ((go_at_call 84; exact (CY.out _).mono fun _ _ h => ⟨h.1, _, h.2⟩))
                  go_wp2
                  have hbd := below_draws W2 nq
                  have h3 := own_true (hbr.out.trans (hbd.mono hsz)) (own_keeps hown.out (Keeps.of_below hbd []) (by simp)) m true
                  have HO3 : Hid _ := hid h3.1
                  have HB3 : Hid _ := hid h3.2
                  clear h3 hbd
                  go_roundw
                  case rel => exact ⟨l + 1, ok.set m true, by omega, by go_num, HS, hid (by rw [List.length_set]; exact hkl.out), HO3, HB3⟩
                  case measure => simp [intOf]; omega
              · have HS : Hid (iter (foundRound N) (nN - k) ((N.rules.drop (j + 1)).foldl foundStep ok) = foundN N) := hid (by
                  have h1 := hit.out
                  rw [List.drop_eq_nil_of_le (by have := HNp.out; omega)] at h1
                  exact h1)
                clear hX hPs hpr' hwl d0
                go_wp2
                go_roundw
                case rel => exact ⟨j + 1, ok, by omega, by go_num, HS, hkl, hown, hbr⟩
                case measure => simp [intOf]; omega
        · have HS : Hid (iter (foundRound N) (nN + 1 - (k + 1)) ok = foundN N) := hid (by
            have h1 := hit.out
            rw [List.drop_eq_nil_of_le (by have := H2.out; omega)] at h1
            rw [show nN + 1 - (k + 1) = nN - k by omega]
            exact h1)
          clear hX
          go_wp2
          go_roundw
          case rel => exact ⟨k + 1, ok, by omega, by go_num, HS, hkl, hown, hbr⟩
          case measure => simp [intOf]; omega
    · have HS : Hid (ok = foundN N) := hid (by
        have h1 := hit.out
        rw [show nN + 1 - k = 0 by omega] at h1
        exact h1)
      go_wp2
      go_ret
      exact ⟨nN, rfl, by rw [← HS.out]; exact hown.out, hbr.out⟩

end Go.Proofs.YtjjggdcnpndgjaaGreatDoor

namespace Go.Proofs.YtjjggdcnpndgjaaGreatDoor
open Go.RowKit

theorem Tryz.info3 : (Tryz.prog.info? 3).map (fun i => (i.zero, i.size, i.bytes)) = some (some (.int .i64 0), 1, 8) := by kernel_rfl

theorem nats_set (l : List Nat) (n v : Nat) : nats (l.set n v) = (nats l).set n (.int .i64 (v : Int)) := by unfold nats; rw [List.map_set]

theorem made_nats (n : Nat) : (madeCells (Value.int .i64 0).cells (n * 1)).toList = nats (List.replicate n 0) := by
  rw [Nat.mul_one]; exact (toList_madeCells_one _ _).trans (by simp [nats])

theorem own_nat {w W : World} {b0 n : Nat} {ok : List Nat} (hb : Below b0 w W) (h : W.ownsRow b0 3 1 (.slice (some ⟨b0, 0, none⟩) n n) n (nats ok)) (j v : Nat) :
    (W.setCell ⟨b0, j, none⟩ (.int .i64 (v : Int))).ownsRow b0 3 1 (.slice (some ⟨b0, 0, none⟩) n n) n (nats (ok.set j v)) ∧ Below b0 w (W.setCell ⟨b0, j, none⟩ (.int .i64 (v : Int))) := by
  rw [nats_set]
  exact ⟨(h.stored j (.int .i64 v)).1, hb.setCell (p := ⟨b0, j, none⟩) (Nat.le_refl _) _⟩

theorem own_cellN {W : World} {b0 n : Nat} {ok : List Nat} (h : W.ownsRow b0 3 1 (.slice (some ⟨b0, 0, none⟩) n n) n (nats ok)) (hl : ok.length = n) {j : Nat} (hj : j < n) : W.cell? ⟨b0, j, none⟩ = some (.int .i64 (lAt ok j)) ∧ W.frozen? ⟨b0, j, none⟩ = false := by
  refine ⟨?_, h.frozenAt j⟩
  rw [h.cellAt j (by omega)]
  exact nats_at (by omega)

/-- The first k set. -/
def fillN (n k : Nat) : List Nat := List.replicate k 201 ++ List.replicate (n - k) 0

theorem fillN_set {n k : Nat} (h : k < n) : (fillN n k).set k 201 = fillN n (k + 1) := by
  unfold fillN
  rw [List.set_append_right _ _ (by simp), List.length_replicate, Nat.sub_self]
  obtain ⟨m, hm⟩ : ∃ m, n - k = m + 1 := ⟨n - k - 1, by omega⟩
  rw [hm, List.replicate_succ, List.set_cons_zero, List.replicate_succ', show n - (k + 1) = m by omega]
  simp

theorem fillN_len {n k : Nat} (h : k ≤ n) : (fillN n k).length = n := by unfold fillN; simp; omega

theorem leastStep_yes {N : NG} {l : List Nat} {b : Bool} {r : Nat × List Pt} (h : sumF N (lAt l) r.2 < lAt l r.1) : leastStep N (l, b) r = (l.set r.1 (sumF N (lAt l) r.2), true) := by unfold leastStep; rw [if_pos h]
theorem leastStep_no {N : NG} {l : List Nat} {b : Bool} {r : Nat × List Pt} (h : ¬ sumF N (lAt l) r.2 < lAt l r.1) : leastStep N (l, b) r = (l, b) := by unfold leastStep; rw [if_neg h]

set_option maxHeartbeats 4000000 in
set_option maxRecDepth 100000 in
theorem leasts_any (G : Gr) (N : NG) (hR : Rep G N) (w : World) (B gb : Nat) (hG : GrAt w B gb G) :
    Calls Tryz.prog 79 #[.pointer (some ⟨gb, 0, none⟩)] w fun e w' => ∃ cap, e = .returned (.slice (some ⟨w.heap.size, 0, none⟩) N.nN cap) ∧
      w'.ownsRow w.heap.size 3 1 (.slice (some ⟨w.heap.size, 0, none⟩) N.nN cap) N.nN (nats (leastsN N)) ∧ Below w.heap.size w w' := by
  obtain ⟨i0, hi, hz0, hz1, hz2⟩ := info_parts Tryz.info3
  obtain ⟨adT, capT, gN, capN, gR, capR, hX⟩ := ctx_of hR hG
  have hnle := hR.leN
  have hrle := hR.leR
  have hgb := hX.hgb
  have hgN := hX.hgN
  have hgR := hX.hgR
  have c2 := hX.c2
  have lN := hX.lN
  have lR := hX.lR
  have HX : Hid (Ctx w B gb G N adT capT gN capN gR capR) := hid hX
  obtain ⟨nN, hn1⟩ : ∃ n, n = N.nN := ⟨_, rfl⟩
  obtain ⟨nR, hn2⟩ : ∃ n, n = N.rules.length := ⟨_, rfl⟩
  rw [← hn1] at c2 hnle lN ⊢
  rw [← hn2] at hrle lR
  have H1 : Hid (nN = N.nN) := hid hn1
  have H2 : Hid (nR = N.rules.length) := hid hn2
  clear hX hR hn1 hn2 hG
  obtain ⟨b0, hb0⟩ : ∃ b, b = w.heap.size := ⟨_, rfl⟩
  have H0 : Hid (b0 = w.heap.size) := hid hb0
  rw [← hb0] at hgb hgN hgR
  rw [← hb0]
  go_enter Tryz.func79, Tryz.ntmps79
  go_wp2_with (first
    | (at_make; refine wpList_make_full _ rfl _ _ 45 rfl b0 3 i0 (.int .i64 0) 1 Tryz.underlying45 hi hz0 hz1 .i64 .i64 nN nN nN rfl rfl rfl rfl (by rw [hz2]; omega) (by unfold maxLen; omega) (by omega) ?_; intro w1 hown1 hgrow1))
  rw [made_nats, ← hb0] at hown1
  rw [← hb0]
  have HO1 : Hid _ := hid hown1
  have HB1 : Hid (Below b0 w w1) := hid ((Below.refl _ _).grown hgrow1 (Nat.le_of_eq hb0) (fun j hj => by cases hj))
  have HF : Hid (∀ i : Nat, i < nR → ∃ q, N.rules[i]? = some q) := hid fun i h => ⟨_, List.getElem?_eq_getElem (by rw [← H2.out]; exact h)⟩
  have HBel : Hid (∀ W, Below b0 w W → Below w.heap.size w W) := hid fun W h => by rw [← H0.out]; exact h
  clear hown1 hgrow1 hb0
  go_loopw [4] (fun i wr => ∃ (k : Nat), k ≤ nN ∧ i = .int .i64 k ∧ Hid (wr.ownsRow b0 3 1 (.slice (some ⟨b0, 0, none⟩) nN nN) nN (nats (fillN nN k))) ∧ Hid (Below b0 w wr)) (fun i _ => nN - (intOf i).toNat)
  case atStart => exact ⟨0, Nat.zero_le _, rfl, hid (by have := HO1.out; unfold fillN; simpa using this), HB1⟩
  case round =>
    clear HO1 HB1 c2
    obtain ⟨k, hk, rfl, hown, hbr⟩ := hrel
    obtain ⟨W, hW⟩ : ∃ W, W = wr := ⟨_, rfl⟩
    subst hW
    by_cases hlt : k < nN
    · obtain ⟨cq, hfq⟩ := own_cellN hown.out (fillN_len hk) hlt
      have h3 := own_nat hbr.out hown.out k 201
      rw [fillN_set hlt] at h3
      have HO3 : Hid _ := hid h3.1
      have HB3 : Hid _ := hid h3.2
      clear h3
      go_wp2
      go_roundw
      case rel => exact ⟨k + 1, by omega, by go_num, HO3, HB3⟩
      case measure => simp [intOf]; omega
    · have HO4 : Hid (W.ownsRow b0 3 1 (.slice (some ⟨b0, 0, none⟩) nN nN) nN (nats (List.replicate nN 201))) := hid (by
        have h1 := hown.out
        rw [show k = nN by omega] at h1
        unfold fillN at h1
        rw [Nat.sub_self] at h1
        simpa using h1)
      clear hown
      go_wp2
      go_loopw [5] (fun i wr => ∃ (k : Nat) (l : List Nat), k ≤ nN * 202 + 1 ∧ i = .int .i64 k ∧ Hid (leastLoop N (nN * 202 + 1 - k) l = leastsN N) ∧ Hid (l.length = nN) ∧ Hid (∀ n, lAt l n ≤ 201) ∧
        Hid (wr.ownsRow b0 3 1 (.slice (some ⟨b0, 0, none⟩) nN nN) nN (nats l)) ∧ Hid (Below b0 w wr)) (fun i _ => nN * 202 + 1 - (intOf i).toNat)
      case atStart => exact ⟨0, _, Nat.zero_le _, rfl, hid (by unfold leastsN; rw [← H1.out]; rfl), hid (by simp), hid (fun n => by unfold lAt; rw [List.getD_eq_getElem?_getD, List.getElem?_replicate]; split <;> exact Nat.le_refl _), HO4, hbr⟩
      case round =>
        clear HO4 hbr
        obtain ⟨k, l, hk, rfl, hit, hkl, hle, hown, hbr⟩ := hrel
        obtain ⟨W, hW⟩ : ∃ W, W = wr := ⟨_, rfl⟩
        subst hW
        have hX := HX.out.below (HBel.out _ hbr.out)
        have c2 := hX.c2
        have c3 := hX.c3
        rw [← H1.out] at c2
        rw [← H2.out] at c3
        clear hX
        by_cases hlt : k ≤ nN * 202
        · have HI : Hid ((if (leastRound N l).2 then leastLoop N (nN * 202 - k) (leastRound N l).1 else (leastRound N l).1) = leastsN N) := hid (by
            have h1 := hit.out
            rw [show nN * 202 + 1 - k = (nN * 202 - k) + 1 by omega] at h1
            exact h1)
          clear hit
          have hdk : decide ((k : Int) ≤ (nN : Int) * 202) = true := decide_eq_true (by omega)
          go_wp2
          clear c2 c3
          go_loopw [6, 7] (fun t i wr => ∃ (j : Nat) (l' : List Nat) (b : Bool), j ≤ nR ∧ i = .int .i64 j ∧ t = .bool b ∧ Hid ((N.rules.drop j).foldl (leastStep N) (l', b) = leastRound N l) ∧ Hid (l'.length = nN) ∧ Hid (∀ n, lAt l' n ≤ 201) ∧
              Hid (wr.ownsRow b0 3 1 (.slice (some ⟨b0, 0, none⟩) nN nN) nN (nats l')) ∧ Hid (Below b0 w wr)) (fun _ i _ => nR - (intOf i).toNat)
          case atStart => exact ⟨0, l, false, Nat.zero_le _, rfl, rfl, rfl, hkl, hle, hown, hbr⟩
          case round =>
            clear hown hbr hkl hle
            obtain ⟨j, l', b, hj, rfl, rfl, hit, hkl, hle, hown, hbr⟩ := hrel
            obtain ⟨W, hW⟩ : ∃ W, W = wr := ⟨_, rfl⟩
            subst hW
            have hX := HX.out.below (HBel.out _ hbr.out)
            have c2 := hX.c2
            have c3 := hX.c3
            rw [← H1.out] at c2
            rw [← H2.out] at c3
            by_cases hlj : j < nR
            · obtain ⟨q, hq⟩ := HF.out j hlj
              have hqn : q.1 < nN := by rw [H1.out]; exact hX.rep.ok.lt q (List.mem_of_getElem? hq)
              have HQ : Hid (N.rules[j]? = some q) := hid hq
              have HPO : Hid (PsOk N q.2) := hid (hX.rep.ok.ps (List.mem_of_getElem? hq))
              obtain ⟨np, hnp⟩ : ∃ n, n = q.2.length := ⟨_, rfl⟩
              have hnp8 : np ≤ 8 := by rw [hnp]; exact hX.rep.ok.parts q (List.mem_of_getElem? hq)
              have HNp : Hid (np = q.2.length) := hid hnp
              obtain ⟨qn, hqn1⟩ : ∃ n, n = q.1 := ⟨_, rfl⟩
              rw [← hqn1] at hqn
              have HQn : Hid (qn = q.1) := hid hqn1
              obtain ⟨S, hS⟩ : ∃ S, S = sumF N (lAt l') q.2 := ⟨_, rfl⟩
              have HSS : Hid (S = sumF N (lAt l') q.2) := hid hS
              clear hX hq hqn1 hnp hS
              go_wp2
              clear c2 c3
              go_loopw [8, 9] (fun s i wr => ∃ (m t : Nat), m ≤ np ∧ i = .int .i64 m ∧ s = .int .i64 t ∧ t ≤ 201 * m ∧ Hid (t + sumF N (lAt l') (q.2.drop m) = S) ∧
                  Hid (wr.ownsRow b0 3 1 (.slice (some ⟨b0, 0, none⟩) nN nN) nN (nats l')) ∧ Hid (Below b0 w wr)) (fun _ i _ => np - (intOf i).toNat)
              case atStart => exact ⟨0, 0, Nat.zero_le _, rfl, rfl, Nat.zero_le _, hid (by rw [HSS.out, Nat.zero_add]; rfl), hown, hbr⟩
              case round =>
                clear hown hbr
                obtain ⟨m, t, hm, rfl, rfl, ht, hsum, hown, hbr⟩ := hrel
                obtain ⟨W2, hW⟩ : ∃ W, W = wr := ⟨_, rfl⟩
                subst hW
                have hX := HX.out.below (HBel.out _ hbr.out)
                have c0 := hX.c0
                have c2 := hX.c2
                have c3 := hX.c3
                rw [← H1.out] at c2
                rw [← H2.out] at c3
                obtain ⟨nm, ws, adP, capP, d0, d1, hPs, hix, hpr⟩ := hX.rule j q HQ.out
                rw [← HNp.out] at d1 hPs
                have hsz : b0 ≤ W2.heap.size := by have := hbr.out.size; have := H0.out; omega
                have hwl : ws.length = np := by rw [HNp.out]; exact hpr.1
                by_cases hlm : m < np
                · obtain ⟨gP, rfl, _, hcapP, ck⟩ := word_at hPs hwl hlm
                  obtain ⟨p, hpk⟩ : ∃ p, q.2[m]? = some p := ⟨_, List.getElem?_eq_getElem (by have := HNp.out; omega)⟩
                  have hpt := hpr.2 m p hpk
                  obtain ⟨x, hx⟩ : ∃ x, x = nth ws m := ⟨_, rfl⟩
                  rw [← hx] at ck hpt
                  have CX : Hid (∀ n, Calls Tryz.prog 84 #[.slice (some ⟨gN, 0, none⟩) nN capN, .string x] (W2.drewN n) fun e w' => e = .returned (.int .i64 (idxB G.names x)) ∧ w' = W2.drewN n) := hid fun n => by
                    rw [H1.out]
                    exact (hX.below (below_draws W2 n)).index x
                  have CT : Hid (∀ n, Calls Tryz.prog 57 #[.pointer (some ⟨gb, 0, none⟩), .string x] (W2.drewN n) fun e w' => e = .returned (.int .i64 (idxB (tokWs G.toks) x)) ∧ w' = W2.drewN n) := hid fun n =>
                    (hX.below (below_draws W2 n)).token x
                  have HL : Hid (q.2.drop m = p :: q.2.drop (m + 1)) := hid (drop_cons hpk)
                  have hmem := List.mem_of_getElem? hpk
                  cases p with
                  | tok u =>
                    have hu := HPO.out.2 u hmem
                    have hput := hX.rep.ok.put2 u hu
                    obtain ⟨gT, rfl, _, _, cu⟩ := hX.toks u hu
                    have huc : u < capT := Nat.lt_of_lt_of_le hu hX.lT
                    have CY : Hid (∀ n, Calls Tryz.prog 84 #[.slice (some ⟨gN, 0, none⟩) nN capN, .string x] (W2.drewN n) fun e w' => e = .returned (.int .i64 (-1)) ∧ w' = W2.drewN n) := hid fun n => by
                      have := CX.out n
                      rwa [hpt.1] at this
                    have CU : Hid (∀ n, Calls Tryz.prog 57 #[.pointer (some ⟨gb, 0, none⟩), .string x] (W2.drewN n) fun e w' => e = .returned (.int .i64 u) ∧ w' = W2.drewN n) := hid fun n => by
                      have := CT.out n
                      rwa [hpt.2] at this
                    obtain ⟨pu, hpu⟩ : ∃ pu, pu = N.put u := ⟨_, rfl⟩
                    rw [← hpu] at cu hput
                    have HS : Hid (t + pu + sumF N (lAt l') (q.2.drop (m + 1)) = S) := hid (by
                      have h1 := hsum.out
                      rw [HL.out, sumF, ← hpu] at h1
                      omega)
                    obtain ⟨nT, hnT⟩ : ∃ n, n = N.nT := ⟨_, rfl⟩
                    rw [← hnT] at c0 hu
                    clear hpt hmem CX CT hsum HL hX hPs hpr hpk hx d0 hwl hpu hnT hix
                    go_wp2
                    go_quiet ((go_at_call 84; exact (CY.out _).mono fun _ _ h => ⟨h.1, _, h.2⟩))
                    go_wp2
                    go_quiet ((go_at_call 57; exact (CU.out _).mono fun _ _ h => ⟨h.1, _, h.2⟩))
                    go_wp2
                    go_roundw
                    case rel => exact ⟨m + 1, t + pu, by omega, by go_num, by go_num, by omega, HS, hid (own_keeps hown.out (Keeps.of_below (below_draws _ _) []) (by simp)), hid (hbr.out.trans ((below_draws _ _).mono hsz))⟩
                    case measure => simp [intOf]; omega
                  | nam u =>
                    have hu := HPO.out.1 u hmem
                    rw [← H1.out] at hu
                    have CY : Hid (∀ n, Calls Tryz.prog 84 #[.slice (some ⟨gN, 0, none⟩) nN capN, .string x] (W2.drewN n) fun e w' => e = .returned (.int .i64 u) ∧ w' = W2.drewN n) := hid fun n => by
                      have := CX.out n
                      rwa [show idxB G.names x = u from hpt] at this
                    obtain ⟨cu, _⟩ := own_cellN hown.out hkl.out hu
                    have hlu := hle.out u
                    obtain ⟨pu, hpu⟩ : ∃ pu, pu = lAt l' u := ⟨_, rfl⟩
                    rw [← hpu] at cu hlu
                    have HS : Hid (t + pu + sumF N (lAt l') (q.2.drop (m + 1)) = S) := hid (by
                      have h1 := hsum.out
                      rw [HL.out, sumF, ← hpu] at h1
                      omega)
                    clear hpt hmem CX CT hsum HL hX hPs hpr hpk hx d0 hwl hpu hix c0
                    go_wp2
                    go_quiet ((go_at_call 84; exact (CY.out _).mono fun _ _ h => ⟨h.1, _, h.2⟩))
                    go_wp2
                    go_roundw
                    case rel => exact ⟨m + 1, t + pu, by omega, by go_num, by go_num, by omega, HS, hid (own_keeps hown.out (Keeps.of_below (below_draws _ _) []) (by simp)), hid (hbr.out.trans ((below_draws _ _).mono hsz))⟩
                    case measure => simp [intOf]; omega
                · have hts : t = S := by
                    have h1 := hsum.out
                    rw [List.drop_eq_nil_of_le (by have := HNp.out; omega)] at h1
                    simpa [sumF] using h1
                  subst hts
                  have CI : Hid (∀ n, Calls Tryz.prog 84 #[.slice (some ⟨gN, 0, none⟩) nN capN, .string nm] (W2.drewN n) fun e w' => e = .returned (.int .i64 qn) ∧ w' = W2.drewN n) := hid fun n => by
                    rw [HQn.out, ← hix, H1.out]
                    exact (hX.below (below_draws W2 n)).index nm
                  obtain ⟨cu, hfu⟩ := own_cellN hown.out hkl.out hqn
                  clear hX hPs hpr hwl hix hsum c0
                  by_cases hc : t < lAt l' qn
                  · have HS : Hid ((N.rules.drop (j + 1)).foldl (leastStep N) (l'.set qn t, true) = leastRound N l) := hid (by
                      have h1 := hit.out
                      rw [drop_cons HQ.out, List.foldl_cons, leastStep_yes (by rw [← HSS.out, ← HQn.out]; exact hc), ← HSS.out, ← HQn.out] at h1
                      exact h1)
                    have HLe : Hid (∀ n, lAt (l'.set qn t) n ≤ 201) := hid fun n => by
                      rw [lAt_set]
                      split
                      · have := hle.out qn; omega
                      · exact hle.out n
                    have hlu := hle.out qn
                    obtain ⟨pu, hpu⟩ : ∃ pu, pu = lAt l' qn := ⟨_, rfl⟩
                    rw [← hpu] at cu hc hlu
                    clear hpu hit
                    have hci : (t : Int) < pu := by omega
                    go_wp2
                    go_quiet ((go_at_call 84; exact (CI.out _).mono fun _ _ h => ⟨h.1, _, h.2⟩))
                    go_wp2
                    have hbd := below_draws W2 nq
                    have h3 := own_nat (hbr.out.trans (hbd.mono hsz)) (own_keeps hown.out (Keeps.of_below hbd []) (by simp)) qn t
                    have HO3 : Hid _ := hid h3.1
                    have HB3 : Hid _ := hid h3.2
                    clear h3 hbd
                    go_roundw
                    case rel => exact ⟨j + 1, l'.set qn t, true, by omega, by go_num, rfl, HS, hid (by rw [List.length_set]; exact hkl.out), HLe, HO3, HB3⟩
                    case measure => simp [intOf]; omega
                  · have HS : Hid ((N.rules.drop (j + 1)).foldl (leastStep N) (l', b) = leastRound N l) := hid (by
                      have h1 := hit.out
                      rw [drop_cons HQ.out, List.foldl_cons, leastStep_no (by rw [← HSS.out, ← HQn.out]; exact hc)] at h1
                      exact h1)
                    have hlu := hle.out qn
                    obtain ⟨pu, hpu⟩ : ∃ pu, pu = lAt l' qn := ⟨_, rfl⟩
                    rw [← hpu] at cu hc hlu
                    clear hpu hit
                    have hci : ¬ (t : Int) < pu := by omega
                    go_wp2
                    go_quiet ((go_at_call 84; exact (CI.out _).mono fun _ _ h => ⟨h.1, _, h.2⟩))
                    go_wp2
                    go_roundw
                    case rel => exact ⟨j + 1, l', b, by omega, by go_num, rfl, HS, hkl, hle, hid (own_keeps hown.out (Keeps.of_below (below_draws _ _) []) (by simp)), hid (hbr.out.trans ((below_draws _ _).mono hsz))⟩
                    case measure => simp [intOf]; omega
            · have hr : leastRound N l = (l', b) := by
                have h1 := hit.out
                rw [List.drop_eq_nil_of_le (by have := H2.out; omega)] at h1
                exact h1.symm
              have HI2 := HI.out
              rw [hr] at HI2
              clear hX hr hit HI
              cases b
              · have HS : Hid (l' = leastsN N) := hid (by simpa using HI2)
                clear HI2
                go_wp2
                go_ret
                exact ⟨nN, rfl, by rw [← HS.out]; exact hown.out, hbr.out⟩
              · have HS : Hid (leastLoop N (nN * 202 + 1 - (k + 1)) l' = leastsN N) := hid (by
                  rw [show nN * 202 + 1 - (k + 1) = nN * 202 - k by omega]; simpa using HI2)
                clear HI2
                go_wp2
                go_roundw
                case rel => exact ⟨k + 1, l', by omega, by go_num, HS, hkl, hle, hown, hbr⟩
                case measure => simp [intOf]; omega
        · have HS : Hid (l = leastsN N) := hid (by
            have h1 := hit.out
            rw [show nN * 202 + 1 - k = 0 by omega] at h1
            exact h1)
          go_wp2
          go_ret
          exact ⟨nN, rfl, by rw [← HS.out]; exact hown.out, hbr.out⟩

end Go.Proofs.YtjjggdcnpndgjaaGreatDoor

namespace Go.Proofs.YtjjggdcnpndgjaaGreatDoor
open Go.RowKit

theorem Tryz.info150 : (Tryz.prog.info? 150).map (fun i => (i.zero, i.size, i.bytes)) = some (some (.slice none 0 0), 1, 24) := by kernel_rfl

/-- A row, its first t places turned. -/
def upto (a : List Bool) (f : Nat → Bool) (t : Nat) : List Bool := (List.range a.length).map fun u => if u < t then f u else bAt a u

theorem upto_len (a : List Bool) (f : Nat → Bool) (t : Nat) : (upto a f t).length = a.length := by unfold upto; simp

theorem bAt_upto (a : List Bool) (f : Nat → Bool) (t u : Nat) : bAt (upto a f t) u = if u < a.length then (if u < t then f u else bAt a u) else false := by
  unfold upto
  by_cases h : u < a.length
  · rw [if_pos h, bAt, List.getD_eq_getElem?_getD, List.getElem?_map, List.getElem?_range h]; rfl
  · rw [if_neg h, bAt_beyond (by simp; omega)]

theorem list_ext_bAt {a b : List Bool} (hl : a.length = b.length) (h : ∀ u, u < a.length → bAt a u = bAt b u) : a = b := by
  apply List.ext_getElem hl
  intro u h1 h2
  have := h u h1
  unfold bAt at this
  rwa [List.getD_eq_getElem?_getD, List.getD_eq_getElem?_getD, List.getElem?_eq_getElem h1, List.getElem?_eq_getElem h2] at this

theorem upto_zero (a : List Bool) (f : Nat → Bool) : upto a f 0 = a := by
  refine list_ext_bAt (upto_len _ _ _) (fun u hu => ?_)
  rw [upto_len] at hu
  rw [bAt_upto, if_pos hu, if_neg (by omega)]

theorem upto_set {a : List Bool} {f : Nat → Bool} {t : Nat} (ht : t < a.length) : (upto a f t).set t (f t) = upto a f (t + 1) := by
  refine list_ext_bAt (by rw [List.length_set, upto_len, upto_len]) (fun u hu => ?_)
  rw [List.length_set, upto_len] at hu
  rw [bAt_set, upto_len, bAt_upto, bAt_upto, if_pos hu, if_pos hu]
  by_cases e : t = u
  · subst e; rw [if_pos ⟨rfl, ht⟩, if_pos (by omega)]
  · rw [if_neg (fun h => e h.1)]
    by_cases h : u < t
    · rw [if_pos h, if_pos (by omega)]
    · rw [if_neg h, if_neg (by omega)]

theorem upto_or {a b : List Bool} (hl : a.length = b.length) : upto a (fun u => bAt a u || bAt b u) a.length = orB a b := by
  refine list_ext_bAt (by rw [upto_len]; unfold orB; rw [List.length_zipWith]; omega) (fun u hu => ?_)
  rw [upto_len] at hu
  rw [bAt_upto, if_pos hu, if_pos hu, bAt_or hl]

theorem upto_orT {a l b : List Bool} {thr : Bool} : upto a (fun t => (bAt a t || bAt l t) || (thr && bAt b t)) a.length = orT a l thr b := by
  unfold upto orT
  apply List.map_congr_left
  intro t ht
  rw [if_pos (List.mem_range.1 ht)]

/-- The rows of a matrix, as slices: they lie one behind the other. -/
def rowSl (b m n : Nat) : Value := .slice (some ⟨b + 1 + n, 0, none⟩) m m
def rowVals (b m k : Nat) : List Value := (List.range k).map (rowSl b m)

theorem rowVals_at {b m k n : Nat} (h : n < k) : (rowVals b m k)[n]? = some (rowSl b m n) := by
  unfold rowVals; rw [List.getElem?_map, List.getElem?_range h]; rfl

structure Mat (w : World) (b : Nat) (N : NG) (h : List (List Bool)) : Prop where
  ok : MOk N h
  top : w.ownsRow b 150 1 (.slice (some ⟨b, 0, none⟩) N.nN N.nN) N.nN (rowVals b (N.nT + 1) N.nN)
  rows : ∀ n, n < N.nN → w.ownsRow b 4 1 (rowSl b (N.nT + 1) n) (N.nT + 1) (bools (mAt h n))

section
variable {w w' : World} {b : Nat} {N : NG} {h : List (List Bool)}

theorem Mat.below (m : Mat w b N h) (hb : Below w.heap.size w w') : Mat w' b N h where
  ok := m.ok
  top := own_keeps m.top (Keeps.of_below hb []) (by simp)
  rows := fun n hn => own_keeps (m.rows n hn) (Keeps.of_below hb []) (by simp)

theorem Mat.cell (m : Mat w b N h) {n : Nat} (hn : n < N.nN) : w.cell? ⟨b, n, none⟩ = some (.slice (some ⟨b + 1 + n, 0, none⟩) (N.nT + 1) (N.nT + 1)) := by
  rw [m.top.cellAt n (by omega)]
  exact rowVals_at hn

theorem Mat.bit (m : Mat w b N h) {n t : Nat} (hn : n < N.nN) (ht : t < N.nT + 1) : w.cell? ⟨b + 1 + n, t, none⟩ = some (.bool (col h t n)) ∧ w.frozen? ⟨b + 1 + n, t, none⟩ = false := by
  have hr := m.rows n hn
  unfold rowSl at hr
  refine ⟨?_, hr.frozenAt t⟩
  rw [hr.cellAt t (by omega)]
  exact bools_at (by rw [m.ok.2 n hn]; exact ht)

theorem Mat.lt (m : Mat w b N h) {n : Nat} (hn : n < N.nN) : b + 1 + n < w.heap.size := ((m.rows n hn).lt _ rfl).2

/-- One place of a row is written. -/
theorem Mat.put (m : Mat w b N h) {n : Nat} (t : Nat) (hn : n < N.nN) (v : Bool) : Mat (w.setCell ⟨b + 1 + n, t, none⟩ (.bool v)) b N (h.set n ((mAt h n).set t v)) where
  ok := m.ok.set (by rw [List.length_set]; exact m.ok.2 n hn)
  top := by
    refine ownsRow_setCell_other m.top (a := ⟨b + 1 + n, t, none⟩) ?_ (.bool v)
    simp [Value.ownBlock]; omega
  rows := fun k hk => by
    by_cases e : n = k
    · subst e
      have := ((m.rows n hn).stored t (.bool v)).1
      rw [mAt_set, if_pos ⟨rfl, by rw [m.ok.1]; exact hn⟩, bools_set]
      exact this
    · rw [mAt_set, if_neg (fun h => e h.1)]
      refine ownsRow_setCell_other (m.rows k hk) (a := ⟨b + 1 + n, t, none⟩) ?_ (.bool v)
      simp [rowSl, Value.ownBlock]; omega
end

/-- A slice whose cells hold these strings, from wherever it begins. -/
def RowO (w : World) (v : Value) (ws : List ByteArray) : Prop :=
  ∃ ad cap, v = .slice ad ws.length cap ∧ ws.length ≤ cap ∧ (0 < ws.length → ∃ g off, ad = some ⟨g, off, none⟩ ∧ g < w.heap.size ∧ ∀ j, j < ws.length → w.cell? ⟨g, off + j, none⟩ = some (.string (nth ws j)))

theorem RowO.below {w w' : World} {v : Value} {ws : List ByteArray} (h : RowO w v ws) (hb : Below w.heap.size w w') : RowO w' v ws := by
  obtain ⟨ad, cap, h1, h2, h3⟩ := h
  refine ⟨ad, cap, h1, h2, fun h0 => ?_⟩
  obtain ⟨g, off, h4, h5, h6⟩ := h3 h0
  exact ⟨g, off, h4, Nat.lt_of_lt_of_le h5 hb.size, fun j hj => (hb.cell (by exact h5)).trans (h6 j hj)⟩

theorem RowO.of {w : World} {v : Value} {ws : List ByteArray} (h : RowV w v (strs ws)) : RowO w v ws := by
  obtain ⟨ad, cap, h1, h2, h3⟩ := h
  rw [strs_len] at h1 h2 h3
  refine ⟨ad, cap, h1, h2, fun h0 => ?_⟩
  obtain ⟨g, h4, h5, h6⟩ := h3 h0
  exact ⟨g, 0, h4, h5, fun j hj => by rw [Nat.zero_add, h6 j hj]; exact strs_at hj⟩

end Go.Proofs.YtjjggdcnpndgjaaGreatDoor
