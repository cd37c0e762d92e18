/- (*Grammar).list. (*Grammar).Waste. (*Grammar).Facts. -/
import Derived.Test.YtjjggdcnpndgjaaGreatDoorJ7
import Derived.Test.YtjjggdcnpndgjaaGreatDoorJWtails
namespace Go.Proofs.YtjjggdcnpndgjaaGreatDoor
open Go.RowKit

/-- (*Grammar).list: the words of those that are true, the END last. -/
def listB (ws : List ByteArray) (on : List Bool) : List ByteArray := (((List.range ws.length).filter fun t => bAt on t).map fun t => nth ws t) ++ if bAt on ws.length then [ByteArray.empty] else []

def listTo (ws : List ByteArray) (on : List Bool) (k : Nat) : List ByteArray := ((List.range k).filter fun t => bAt on t).map fun t => nth ws t

theorem listTo_yes {ws : List ByteArray} {on : List Bool} {k : Nat} (h : bAt on k = true) : listTo ws on (k + 1) = listTo ws on k ++ [nth ws k] := by
  unfold listTo; rw [List.range_succ, List.filter_append, List.map_append]; simp [h]
theorem listTo_no {ws : List ByteArray} {on : List Bool} {k : Nat} (h : bAt on k = false) : listTo ws on (k + 1) = listTo ws on k := by
  unfold listTo; rw [List.range_succ, List.filter_append, List.map_append]; simp [h]
theorem listTo_len (ws : List ByteArray) (on : List Bool) (k : Nat) : (listTo ws on k).length ≤ k := by
  unfold listTo; rw [List.length_map]
  exact Nat.le_trans (List.length_filter_le _ _) (by simp)

/-- A row of words that the call owns. -/
def OwnS (w : World) (B : Nat) (v : Value) (l : List ByteArray) : Prop := w.ownsRow B 9 1 v l.length (strs l)

set_option maxHeartbeats 2000000 in
set_option maxRecDepth 100000 in
theorem list_any (G : Gr) (N : NG) (hR : Rep G N) (w : World) (B gb : Nat) (hG : GrAt w B gb G) (go : Nat) (on : List Bool) (hO : ∀ t, t < N.nT + 1 → w.cell? ⟨go, t, none⟩ = some (.bool (bAt on t))) (hgo : go < w.heap.size) :
    Calls Tryz.prog 80 #[.pointer (some ⟨gb, 0, none⟩), .slice (some ⟨go, 0, none⟩) (N.nT + 1) (N.nT + 1)] w fun e w' => ∃ v, e = .returned v ∧ OwnS w' w.heap.size v (listB (tokWs G.toks) on) ∧ Below w.heap.size w w' := by
  obtain ⟨i0, hi, hz0, hz1, hz2⟩ := info_parts Tryz.info9
  obtain ⟨adT, capT, gN, capN, gR, capR, hX⟩ := ctx_of hR hG
  have htle := hR.leT
  have hgb := hX.hgb
  have c0 := hX.c0
  have lT := hX.lT
  have HX : Hid (Ctx w B gb G N adT capT gN capN gR capR) := hid hX
  have HTl : Hid (N.nT = (tokWs G.toks).length) := hid (by unfold tokWs; rw [List.length_map]; exact hR.nT)
  obtain ⟨nT, hn2⟩ : ∃ n, n = N.nT := ⟨_, rfl⟩
  rw [← hn2] at htle c0 lT hO HTl ⊢
  have H2 : Hid (nT = N.nT) := hid hn2
  have HO : Hid _ := hid hO
  clear hX hR hn2 hG hO
  go_enter Tryz.func80, Tryz.ntmps80
  go_wp2
  go_loopw [5, 6] (fun v i wr => ∃ (k : Nat), k ≤ nT ∧ i = .int .i64 k ∧ Hid (OwnS wr w.heap.size v (listTo (tokWs G.toks) on k)) ∧ Hid (Below w.heap.size w wr)) (fun _ i _ => nT - (intOf i).toNat)
  case atStart => exact ⟨0, Nat.zero_le _, rfl, hid (World.ownsRow_nil _ _ _ _), Below.refl _ _⟩
  case round =>
    clear c0
    obtain ⟨k, hk, rfl, hown, hbr⟩ := hrel
    have hX := HX.out.below hbr.out
    have c0 := hX.c0
    rw [← H2.out] at c0
    have hsz := hbr.out.size
    by_cases hlt : k < nT
    · have co := (hbr.out.cell (p := ⟨go, k, none⟩) hgo).trans (HO.out k (by omega))
      obtain ⟨gT, hgT, _, cw, _⟩ := hX.toks k (by rw [← H2.out]; exact hlt)
      subst hgT
      rw [tokW_nth] at cw
      have hlen := listTo_len (tokWs G.toks) on k
      clear hX
      cases hb : bAt on k
      · rw [hb] at co
        have HS : Hid (OwnS wr w.heap.size u5 (listTo (tokWs G.toks) on (k + 1))) := hid (by rw [listTo_no hb]; exact hown.out)
        clear hb hlen
        go_wp2
        go_roundw
        case rel => exact ⟨k + 1, by omega, by go_num, HS, hbr⟩
        case measure => simp [intOf]; omega
      · rw [hb] at co
        have hon : wr.ownsRow w.heap.size 9 1 u5 (listTo (tokWs G.toks) on k).length (strs (listTo (tokWs G.toks) on k)) := hown.out
        have HL : Hid (listTo (tokWs G.toks) on (k + 1) = listTo (tokWs G.toks) on k ++ [nth (tokWs G.toks) k]) := hid (listTo_yes hb)
        obtain ⟨L, hL⟩ : ∃ L, L = listTo (tokWs G.toks) on k := ⟨_, rfl⟩
        rw [← hL] at hon hlen HL
        obtain ⟨x, hx⟩ : ∃ x, x = nth (tokWs G.toks) k := ⟨_, rfl⟩
        rw [← hx] at cw HL
        clear hb hL hown hx
        go_wp2_with (first
          | (at_builtin; refine wpList_append_own _ rfl _ _ 39 rfl w.heap.size 9 i0 (.string ByteArray.empty) 1 16 Tryz.underlying39 hi hz0 hz1 hz2 rfl (by decide) _ _ _ rfl (hon.alloc _) ⟨wr.heap.size, 0, none⟩ 1 1 [.string x] rfl rfl (cell_one_new _ _ _) ?c2 ?c3 ?c4 ?c5 ?_))
        case c2 => intro u hu; simp at hu; subst hu; rfl
        case c3 => unfold maxLen; omega
        case c4 => omega
        case c5 => simp; omega
        intro v' w1 hown' hgrow _
        have HO1 : Hid (OwnS w1 w.heap.size v' (listTo (tokWs G.toks) on (k + 1))) := hid (by
          rw [HL.out]; unfold OwnS; rw [List.length_append]; unfold strs at hown' ⊢; rw [List.map_append]; exact hown')
        have HB1 : Hid (Below w.heap.size w w1) := hid ((hbr.out.alloc hsz (Obj.cells #[.string x] 9)).grown hgrow (by simp; omega) (fun g hg => (hon.lt g hg).1))
        clear hown' hgrow hon
        go_wp2
        go_roundw
        case rel => exact ⟨k + 1, by omega, by go_num, HO1, HB1⟩
        case measure => simp [intOf]; omega
    · have hkn : k = nT := by omega
      have co := (hbr.out.cell (p := ⟨go, nT, none⟩) hgo).trans (HO.out nT (by omega))
      have hlen := listTo_len (tokWs G.toks) on k
      have hon : wr.ownsRow w.heap.size 9 1 u5 (listTo (tokWs G.toks) on k).length (strs (listTo (tokWs G.toks) on k)) := hown.out
      have HL : Hid (listB (tokWs G.toks) on = listTo (tokWs G.toks) on k ++ if bAt on nT then [ByteArray.empty] else []) := hid (by unfold listB; rw [← HTl.out, hkn]; rfl)
      obtain ⟨L, hL⟩ : ∃ L, L = listTo (tokWs G.toks) on k := ⟨_, rfl⟩
      rw [← hL] at hon hlen HL
      have hti : (nT : Int) < (nT : Int) + 1 := by omega
      clear hX hL hown
      cases hb : bAt on nT
      · rw [hb] at co
        have HE : Hid (listB (tokWs G.toks) on = L) := hid (by rw [HL.out, hb]; simp)
        clear hb HL
        go_wp2
        go_ret
        exact ⟨_, rfl, by rw [HE.out]; exact hon, hbr.out⟩
      · rw [hb] at co
        have HE : Hid (listB (tokWs G.toks) on = L ++ [ByteArray.empty]) := hid (by rw [HL.out, hb]; simp)
        clear hb HL
        go_wp2_with (first
          | (at_builtin; refine wpList_append_own _ rfl _ _ 39 rfl w.heap.size 9 i0 (.string ByteArray.empty) 1 16 Tryz.underlying39 hi hz0 hz1 hz2 rfl (by decide) _ _ _ rfl (hon.alloc _) ⟨wr.heap.size, 0, none⟩ 1 1 [.string ByteArray.empty] rfl rfl (cell_one_new _ _ _) ?d2 ?d3 ?d4 ?d5 ?_))
        case d2 => intro u hu; simp at hu; subst hu; rfl
        case d3 => unfold maxLen; omega
        case d4 => omega
        case d5 => simp; omega
        intro v' w1 hown' hgrow _
        have HO1 : Hid (OwnS w1 w.heap.size v' (listB (tokWs G.toks) on)) := hid (by
          rw [HE.out]; unfold OwnS; rw [List.length_append]; unfold strs at hown' ⊢; rw [List.map_append]; exact hown')
        have HB1 : Hid (Below w.heap.size w w1) := hid ((hbr.out.alloc hsz (Obj.cells #[.string ByteArray.empty] 9)).grown hgrow (by simp; omega) (fun g hg => (hon.lt g hg).1))
        clear hown' hgrow hon
        go_wp2
        go_ret
        exact ⟨_, rfl, HO1.out, HB1.out⟩

end Go.Proofs.YtjjggdcnpndgjaaGreatDoor

namespace Go.Proofs.YtjjggdcnpndgjaaGreatDoor
open Go.RowKit

/-- The first place at which something does not hold. -/
def offAt (n : Nat) (p : Nat → Bool) : Option Nat := (List.range n).find? fun i => !p i

theorem offAt_none {n : Nat} {p : Nat → Bool} (h : ∀ j, j < n → p j = true) : offAt n p = none := by
  unfold offAt; rw [List.find?_eq_none]; intro x hx; simp [h x (List.mem_range.1 hx)]

theorem offAt_some {n : Nat} {p : Nat → Bool} {k : Nat} (hk : k < n) (h : p k = false) (hno : ∀ j, j < k → p j = true) : offAt n p = some k := by
  unfold offAt
  rw [List.find?_eq_some_iff_getElem]
  refine ⟨by simp [h], k, by simpa using hk, by simp, fun j hj => by simp [hno j hj]⟩

/-- (*Grammar).Waste. -/
def wasteB (G : Gr) (N : NG) : ByteArray × Int :=
  match offAt N.nN (bAt (closedN N true)) with
  | some i => (nth G.names i, 6)
  | none => match offAt N.nN (bAt (foundN N)) with
    | some i => (nth G.names i, 7)
    | none => match offAt N.nN (fun i => decide (lAt (leastsN N) i ≤ 200)) with
      | some i => (nth G.names i, 8)
      | none => (ByteArray.empty, 0)

theorem Ctx.nameAt {w : World} {B gb : Nat} {G : Gr} {N : NG} {adT : Option Addr} {capT gN capN gR capR : Nat} (h : Ctx w B gb G N adT capT gN capN gR capR) {k : Nat} (hk : k < N.nN) : w.cell? ⟨gN, k, none⟩ = some (.string (nth G.names k)) := by
  obtain ⟨ad, cap, h1, h2, h3⟩ := h.names
  have hn := h.rep.nN
  rw [strs_len] at h1 h2 h3
  obtain ⟨g, h4, _, h5⟩ := h3 (by omega)
  injection h1 with h1 _ _
  rw [← h1] at h4
  injection h4 with h4
  injection h4 with h4
  rw [h4, h5 k (by omega)]
  exact strs_at (by omega)

set_option maxHeartbeats 2000000 in
set_option maxRecDepth 100000 in
theorem waste_any (G : Gr) (N : NG) (hR : Rep G N) (w : World) (B gb : Nat) (hG : GrAt w B gb G) :
    Calls Tryz.prog 75 #[.pointer (some ⟨gb, 0, none⟩)] w fun e w' => e = .returned (.tuple #[.string (wasteB G N).1, .int .i64 (wasteB G N).2]) ∧ Below w.heap.size w w' := by
  obtain ⟨adT, capT, gN, capN, gR, capR, hX⟩ := ctx_of hR hG
  have hnle := hR.leN
  have lN := hX.lN
  have HX : Hid (Ctx w B gb G N adT capT gN capN gR capR) := hid hX
  have CA : Hid (∀ W, Below w.heap.size w W → Calls Tryz.prog 76 #[.pointer (some ⟨gb, 0, none⟩), .bool true] W fun e w' => ∃ g cap, e = .returned (.slice (some ⟨g, 0, none⟩) N.nN cap) ∧ N.nN ≤ cap ∧ (∀ j, j < N.nN → w'.cell? ⟨g, j, none⟩ = some (.bool (bAt (closedN N true) j))) ∧ g < w'.heap.size ∧ Below W.heap.size W w') := hid fun W hb => by
    refine (closed_any G N hR W B gb (hG.below hb) true).mono ?_
    rintro e w' ⟨cap, h1, h2, h3⟩
    have hlen := (closedN_lfp N hR.ok true).2
    have hcap : N.nN ≤ cap := by
      rcases h2.2 with ⟨h4, _⟩ | ⟨g', cap', cur, h4, _, _, h5, _⟩
      · cases h4
      · injection h4 with _ _ h4; omega
    exact ⟨_, cap, h1, hcap, fun j hj => by rw [h2.cellAt j (by omega)]; exact bools_at (by omega), (h2.lt _ rfl).2, h3⟩
  have CB : Hid (∀ W, Below w.heap.size w W → Calls Tryz.prog 124 #[.pointer (some ⟨gb, 0, none⟩)] W fun e w' => ∃ g cap, e = .returned (.slice (some ⟨g, 0, none⟩) N.nN cap) ∧ N.nN ≤ cap ∧ (∀ j, j < N.nN → w'.cell? ⟨g, j, none⟩ = some (.bool (bAt (foundN N) j))) ∧ g < w'.heap.size ∧ Below W.heap.size W w') := hid fun W hb => by
    refine (found_any G N hR W B gb (hG.below hb)).mono ?_
    rintro e w' ⟨cap, h1, h2, h3⟩
    have hlen := (foundN_lfp N hR.ok).2
    have hcap : N.nN ≤ cap := by
      rcases h2.2 with ⟨h4, _⟩ | ⟨g', cap', cur, h4, _, _, h5, _⟩
      · cases h4
      · injection h4 with _ _ h4; omega
    exact ⟨_, cap, h1, hcap, fun j hj => by rw [h2.cellAt j (by omega)]; exact bools_at (by omega), (h2.lt _ rfl).2, h3⟩
  have CC : Hid (∀ W, Below w.heap.size w W → Calls Tryz.prog 79 #[.pointer (some ⟨gb, 0, none⟩)] W fun e w' => ∃ g cap, e = .returned (.slice (some ⟨g, 0, none⟩) N.nN cap) ∧ N.nN ≤ cap ∧ (∀ j, j < N.nN → w'.cell? ⟨g, j, none⟩ = some (.int .i64 (lAt (leastsN N) j))) ∧ g < w'.heap.size ∧ Below W.heap.size W w') := hid fun W hb => by
    refine (leasts_any G N hR W B gb (hG.below hb)).mono ?_
    rintro e w' ⟨cap, h1, h2, h3⟩
    have hlen := (leastsN_gfp N hR.ok).2
    have hcap : N.nN ≤ cap := by
      rcases h2.2 with ⟨h4, _⟩ | ⟨g', cap', cur, h4, _, _, h5, _⟩
      · cases h4
      · injection h4 with _ _ h4; omega
    exact ⟨_, cap, h1, hcap, fun j hj => by rw [h2.cellAt j (by omega)]; exact nats_at (by omega), (h2.lt _ rfl).2, h3⟩
  have HL : Hid (∀ n, lAt (leastsN N) n ≤ 201) := hid (leastsN_gfp N hR.ok).1.1
  obtain ⟨nN, hn1⟩ : ∃ n, n = N.nN := ⟨_, rfl⟩
  have HW : Hid (wasteB G N = match offAt nN (bAt (closedN N true)) with
    | some i => (nth G.names i, (6 : Int))
    | none => match offAt nN (bAt (foundN N)) with
      | some i => (nth G.names i, 7)
      | none => match offAt nN (fun i => decide (lAt (leastsN N) i ≤ 200)) with
        | some i => (nth G.names i, 8)
        | none => (ByteArray.empty, 0)) := hid (by rw [hn1]; rfl)
  rw [← hn1] at hnle lN CA CB CC
  have H1 : Hid (nN = N.nN) := hid hn1
  clear hX hR hn1 hG
  go_enter Tryz.func75, Tryz.ntmps75
  go_wp2_with (first
    | (go_at_call 76; refine (CA.out _ (Below.refl _ _)).mono ?_; rintro e w1 ⟨ga, capa, rfl, hla, hca, hga, hb1⟩)
    | (go_at_call 124; refine (CB.out _ hb1).mono ?_; rintro e w2 ⟨gf, capf, rfl, hlf, hcf, hgf, hb2⟩)
    | (go_at_call 79; refine (CC.out _ (hb1.trans (hb2.mono hb1.size))).mono ?_; rintro e w3 ⟨gl, capl, rfl, hll, hcl, hgl, hb3⟩))
  have hb23 : Below w1.heap.size w1 w3 := hb2.trans (hb3.mono hb2.size)
  have hbw : Below w.heap.size w w3 := hb1.trans (hb23.mono hb1.size)
  have HA : Hid (∀ j, j < nN → w3.cell? ⟨ga, j, none⟩ = some (.bool (bAt (closedN N true) j))) := hid fun j hj => (hb23.cell (by exact hga)).trans (hca j hj)
  have HB : Hid (∀ j, j < nN → w3.cell? ⟨gf, j, none⟩ = some (.bool (bAt (foundN N) j))) := hid fun j hj => (hb3.cell (by exact hgf)).trans (hcf j hj)
  have HC : Hid (∀ j, j < nN → w3.cell? ⟨gl, j, none⟩ = some (.int .i64 (lAt (leastsN N) j))) := hid hcl
  have HX3 : Hid _ := hid (HX.out.below hbw)
  have HBW : Hid (Below w.heap.size w w3) := hid hbw
  have c2 := HX3.out.c2
  rw [← H1.out] at c2
  clear hca hcf hcl hb1 hb2 hb3 hb23 hbw hga hgf hgl CA CB CC
  go_loop [7] (fun i => ∃ k : Nat, k ≤ nN ∧ i = .int .i64 k ∧ Hid (∀ j, j < k → bAt (closedN N true) j = true)) (fun i => nN - (intOf i).toNat)
  case atStart => exact ⟨0, Nat.zero_le _, rfl, hid fun j hj => by omega⟩
  case round =>
    obtain ⟨k, hk, rfl, hno⟩ := hrel
    by_cases hlt : k < nN
    · have ca := HA.out k hlt
      have cn := HX3.out.nameAt (k := k) (by rw [← H1.out]; exact hlt)
      cases hb : bAt (closedN N true) k
      · rw [hb] at ca
        have HE : Hid (wasteB G N = (nth G.names k, 6)) := hid (by rw [HW.out, offAt_some hlt hb hno.out])
        clear hb
        go_wp2
        go_ret2
        exact ⟨by rw [HE.out]; rfl, HBW.out⟩
      · rw [hb] at ca
        have HS : Hid _ := hid (upto_next hno.out hb)
        clear hb
        go_wp2
        go_round
        case rel => exact ⟨k + 1, by omega, by go_num, HS⟩
        case measure => simp [intOf]; omega
    · have HW2 : Hid (wasteB G N = match offAt nN (bAt (foundN N)) with
        | some i => (nth G.names i, (7 : Int))
        | none => match offAt nN (fun i => decide (lAt (leastsN N) i ≤ 200)) with
          | some i => (nth G.names i, 8)
          | none => (ByteArray.empty, 0)) := hid (by rw [HW.out, offAt_none (fun j hj => hno.out j (by omega))])
      go_wp2
      go_loop [8] (fun i => ∃ k : Nat, k ≤ nN ∧ i = .int .i64 k ∧ Hid (∀ j, j < k → bAt (foundN N) j = true)) (fun i => nN - (intOf i).toNat)
      case atStart => exact ⟨0, Nat.zero_le _, rfl, hid fun j hj => by omega⟩
      case round =>
        clear hno hlt hk
        obtain ⟨k, hk, rfl, hno⟩ := hrel
        by_cases hlt : k < nN
        · have ca := HB.out k hlt
          have cn := HX3.out.nameAt (k := k) (by rw [← H1.out]; exact hlt)
          cases hb : bAt (foundN N) k
          · rw [hb] at ca
            have HE : Hid (wasteB G N = (nth G.names k, 7)) := hid (by rw [HW2.out, offAt_some hlt hb hno.out])
            clear hb
            go_wp2
            go_ret2
            exact ⟨by rw [HE.out]; rfl, HBW.out⟩
          · rw [hb] at ca
            have HS : Hid _ := hid (upto_next hno.out hb)
            clear hb
            go_wp2
            go_round
            case rel => exact ⟨k + 1, by omega, by go_num, HS⟩
            case measure => simp [intOf]; omega
        · have HW3 : Hid (wasteB G N = match offAt nN (fun i => decide (lAt (leastsN N) i ≤ 200)) with
            | some i => (nth G.names i, (8 : Int))
            | none => (ByteArray.empty, 0)) := hid (by rw [HW2.out, offAt_none (fun j hj => hno.out j (by omega))])
          go_wp2
          go_loop [9] (fun i => ∃ k : Nat, k ≤ nN ∧ i = .int .i64 k ∧ Hid (∀ j, j < k → decide (lAt (leastsN N) j ≤ 200) = true)) (fun i => nN - (intOf i).toNat)
          case atStart => exact ⟨0, Nat.zero_le _, rfl, hid fun j hj => by omega⟩
          case round =>
            clear hno hlt hk
            obtain ⟨k, hk, rfl, hno⟩ := hrel
            by_cases hlt : k < nN
            · have ca := HC.out k hlt
              have cn := HX3.out.nameAt (k := k) (by rw [← H1.out]; exact hlt)
              have hl := HL.out k
              obtain ⟨v, hv⟩ : ∃ v, v = lAt (leastsN N) k := ⟨_, rfl⟩
              rw [← hv] at ca hl
              by_cases hb : v ≤ 200
              · have HS : Hid _ := hid (upto_next hno.out (show decide (lAt (leastsN N) k ≤ 200) = true from decide_eq_true (by rw [← hv]; exact hb)))
                have hbi : ¬ (200 : Int) < (v : Int) := by omega
                clear hv
                go_wp2
                go_round
                case rel => exact ⟨k + 1, by omega, by go_num, HS⟩
                case measure => simp [intOf]; omega
              · have HE : Hid (wasteB G N = (nth G.names k, 8)) := hid (by rw [HW3.out, offAt_some hlt (decide_eq_false (by rw [← hv]; exact hb)) hno.out])
                have hbi : (200 : Int) < (v : Int) := by omega
                clear hv
                go_wp2
                go_ret2
                exact ⟨by rw [HE.out]; rfl, HBW.out⟩
            · have HE : Hid (wasteB G N = (ByteArray.empty, 0)) := hid (by rw [HW3.out, offAt_none (fun j hj => hno.out j (by omega))])
              go_wp2
              go_ret2
              exact ⟨by rw [HE.out]; rfl, HBW.out⟩

end Go.Proofs.YtjjggdcnpndgjaaGreatDoor

namespace Go.Proofs.YtjjggdcnpndgjaaGreatDoor
open Go.RowKit

theorem Tryz.info81 : (Tryz.prog.info? 81).map (fun i => (i.zero, i.size, i.bytes)) = some (some (.agg #[.string ByteArray.empty, .bool false, .slice none 0 0, .slice none 0 0, .int .i64 0]), 5, 80) := by kernel_rfl

/-- What is told of a name. -/
structure FactR where
  name : ByteArray
  nul : Bool
  first : List ByteArray
  follow : List ByteArray
  least : Int

def fcCells (fs : List FactR) (ps : List (Value × Value)) : List Value := (fs.zip ps).flatMap fun t => [.string t.1.name, .bool t.1.nul, t.2.1, t.2.2, .int .i64 t.1.least]

theorem flat5 {α : Type} (f : α → List Value) (hf : ∀ a, (f a).length = 5) : ∀ (l : List α) (i : Nat) (a : α) (j : Nat), l[i]? = some a → j < 5 → (l.flatMap f)[i * 5 + j]? = (f a)[j]? := by
  intro l
  induction l with
  | nil => intro i a j h; simp at h
  | cons x r ih =>
    intro i a j h hj
    rw [List.flatMap_cons]
    match i with
    | 0 =>
      simp at h; subst h
      rw [List.getElem?_append_left (by rw [hf]; omega)]
      congr 1; omega
    | i + 1 =>
      simp at h
      rw [List.getElem?_append_right (by rw [hf]; omega), hf]
      rw [← ih i a j h hj]
      congr 1; omega

structure FcV (w : World) (B : Nat) (v : Value) (fs : List FactR) (ps : List (Value × Value)) : Prop where
  row : w.ownsRow B 81 5 v fs.length (fcCells fs ps)
  pl : ps.length = fs.length
  wds : ∀ (i : Nat) (f : FactR) (p : Value × Value), fs[i]? = some f → ps[i]? = some p → OwnS w B p.1 f.first ∧ OwnS w B p.2 f.follow

theorem FcV.nil (w : World) (B : Nat) : FcV w B (.slice none 0 0) [] [] where
  row := World.ownsRow_nil _ _ _ _
  pl := rfl
  wds := fun i x p hx => by simp at hx

theorem OwnS.keeps {w w' : World} {B : Nat} {v : Value} {l : List ByteArray} {S : List Nat} (h : OwnS w B v l) (hk : Keeps w w' S) (hn : ∀ g, v.ownBlock = some g → g ∉ S) : OwnS w' B v l := own_keeps h hk hn
theorem OwnS.below {w w' : World} {B : Nat} {v : Value} {l : List ByteArray} (h : OwnS w B v l) (hb : Below w.heap.size w w') : OwnS w' B v l := own_keeps h (Keeps.of_below hb []) (by simp)
theorem OwnS.base {w : World} {B B' : Nat} {v : Value} {l : List ByteArray} (h : OwnS w B v l) (hB : B' ≤ B) : OwnS w B' v l := by
  obtain ⟨h1, h2⟩ := h
  refine ⟨h1, ?_⟩
  rcases h2 with h2 | ⟨g, cap, cur, hv, hg, r⟩
  · exact .inl h2
  · exact .inr ⟨g, cap, cur, hv, Nat.le_trans hB hg, r⟩

theorem FcV.base {w : World} {B B' : Nat} {v : Value} {fs : List FactR} {ps : List (Value × Value)} (h : FcV w B v fs ps) (hB : B' ≤ B) : FcV w B' v fs ps where
  row := by
    obtain ⟨h1, h2⟩ := h.row
    refine ⟨h1, ?_⟩
    rcases h2 with h2 | ⟨g, cap, cur, hv, hg, r⟩
    · exact .inl h2
    · exact .inr ⟨g, cap, cur, hv, Nat.le_trans hB hg, r⟩
  pl := h.pl
  wds := fun i x p hx hp => ⟨(h.wds i x p hx hp).1.base hB, (h.wds i x p hx hp).2.base hB⟩

theorem FcV.below {w w' : World} {B : Nat} {v : Value} {fs : List FactR} {ps : List (Value × Value)} (h : FcV w B v fs ps) (hb : Below w.heap.size w w') : FcV w' B v fs ps where
  row := own_keeps h.row (Keeps.of_below hb []) (by simp)
  pl := h.pl
  wds := fun i x p hx hp => ⟨(h.wds i x p hx hp).1.below hb, (h.wds i x p hx hp).2.below hb⟩

theorem FcV.push {w w1 : World} {B : Nat} {v v' : Value} {fs : List FactR} {ps : List (Value × Value)} (h : FcV w B v fs ps) (hk : Keeps w w1 v.ownBlock.toList) {f : FactR} {p : Value × Value} (hp1 : OwnS w B p.1 f.first) (hp2 : OwnS w B p.2 f.follow)
    (hown : w1.ownsRow B 81 5 v' (fs.length + 1) (fcCells fs ps ++ [.string f.name, .bool f.nul, p.1, p.2, .int .i64 f.least])) : FcV w1 B v' (fs ++ [f]) (ps ++ [p]) := by
  have hl := h.pl
  have hoff : ∀ {q : Value} {l : List ByteArray}, OwnS w B q l → ∀ g, q.ownBlock = some g → g ∉ v.ownBlock.toList := fun hq g hg hm => own_apart hq h.row (by decide) hg (mem_own hm)
  refine ⟨?_, by simp [hl], fun i y q hy hq => ?_⟩
  · have e1 : fcCells (fs ++ [f]) (ps ++ [p]) = fcCells fs ps ++ [.string f.name, .bool f.nul, p.1, p.2, .int .i64 f.least] := by
      unfold fcCells
      rw [List.zip_append hl.symm]
      simp
    rw [e1, List.length_append]
    exact hown
  · by_cases hi : i < fs.length
    · rw [List.getElem?_append_left hi] at hy
      rw [List.getElem?_append_left (by omega)] at hq
      have h1 := h.wds i y q hy hq
      exact ⟨h1.1.keeps hk (hoff h1.1), h1.2.keeps hk (hoff h1.2)⟩
    · rw [List.getElem?_append_right (by omega)] at hy
      rw [List.getElem?_append_right (by omega)] at hq
      obtain ⟨h1, _⟩ := List.getElem?_eq_some_iff.1 hy
      simp at h1
      rw [show i - fs.length = 0 by omega] at hy
      rw [show i - ps.length = 0 by omega] at hq
      simp at hy hq
      subst hy; subst hq
      exact ⟨hp1.keeps hk (hoff hp1), hp2.keeps hk (hoff hp2)⟩

/-- (*Grammar).Facts. -/
def factOf (G : Gr) (N : NG) (i : Nat) : FactR where
  name := nth G.names i
  nul := bAt (closedN N false) i
  first := listB (tokWs G.toks) (mAt (headsN N (bAt (closedN N false))) i)
  follow := listB (tokWs G.toks) (mAt (tailsN N (headsN N (bAt (closedN N false))) (bAt (closedN N false))) i)
  least := lAt (leastsN N) i

def factsB (G : Gr) (N : NG) (k : Nat) : List FactR := (List.range k).map (factOf G N)

theorem factsB_succ (G : Gr) (N : NG) (k : Nat) : factsB G N (k + 1) = factsB G N k ++ [factOf G N k] := by unfold factsB; rw [List.range_succ, List.map_append]; rfl

set_option maxHeartbeats 4000000 in
set_option maxRecDepth 100000 in
theorem facts_any (G : Gr) (N : NG) (hR : Rep G N) (w : World) (B gb : Nat) (hG : GrAt w B gb G) :
    Calls Tryz.prog 47 #[.pointer (some ⟨gb, 0, none⟩)] w fun e w' => ∃ v ps, e = .returned v ∧ FcV w' w.heap.size v (factsB G N N.nN) ps ∧ Below w.heap.size w w' := by
  obtain ⟨i0, hi, hz0, hz1, hz2⟩ := info_parts Tryz.info81
  obtain ⟨adT, capT, gN, capN, gR, capR, hX⟩ := ctx_of hR hG
  have hnle := hR.leN
  have lN := hX.lN
  have HX : Hid (Ctx w B gb G N adT capT gN capN gR capR) := hid hX
  have CA : Hid (Calls Tryz.prog 76 #[.pointer (some ⟨gb, 0, none⟩), .bool false] w fun e w' => ∃ g cap, e = .returned (.slice (some ⟨g, 0, none⟩) N.nN cap) ∧ N.nN ≤ cap ∧ RowV w' (.slice (some ⟨g, 0, none⟩) N.nN cap) (bools (closedN N false)) ∧ g < w'.heap.size ∧ Below w.heap.size w w') := hid (by
    refine (closed_any G N hR w B gb hG false).mono ?_
    rintro e w' ⟨cap, h1, h2, h3⟩
    have hlen := (closedN_lfp N hR.ok false).2
    have hcap : N.nN ≤ cap := by
      rcases h2.2 with ⟨h4, _⟩ | ⟨g', cap', cur, h4, _, _, h5, _⟩
      · cases h4
      · injection h4 with _ _ h4; omega
    exact ⟨_, cap, h1, hcap, RowV.own h2 (by rw [bools_len, hlen]), (h2.lt _ rfl).2, h3⟩)
  have CH : Hid (∀ W g cap, Below w.heap.size w W → RowV W (.slice (some ⟨g, 0, none⟩) N.nN cap) (bools (closedN N false)) → Calls Tryz.prog 77 #[.pointer (some ⟨gb, 0, none⟩), .slice (some ⟨g, 0, none⟩) N.nN cap] W fun e w' => ∃ b, e = .returned (.slice (some ⟨b, 0, none⟩) N.nN N.nN) ∧ Mat w' b N (headsN N (bAt (closedN N false))) ∧ Below W.heap.size W w') := hid fun W g cap hb hr => by
    refine (heads_any G N hR W B gb (hG.below hb) g cap (closedN N false) hr (closedN_lfp N hR.ok false).2).mono ?_
    rintro e w' ⟨h1, h2, h3⟩
    exact ⟨_, h1, h2, h3⟩
  have CT : Hid (∀ W b g cap, Below w.heap.size w W → Mat W b N (headsN N (bAt (closedN N false))) → RowV W (.slice (some ⟨g, 0, none⟩) N.nN cap) (bools (closedN N false)) → Calls Tryz.prog 78 #[.pointer (some ⟨gb, 0, none⟩), .slice (some ⟨b, 0, none⟩) N.nN N.nN, .slice (some ⟨g, 0, none⟩) N.nN cap] W fun e w' =>
      ∃ b', e = .returned (.slice (some ⟨b', 0, none⟩) N.nN N.nN) ∧ Mat w' b' N (tailsN N (headsN N (bAt (closedN N false))) (bAt (closedN N false))) ∧ Below W.heap.size W w') := hid fun W b g cap hb hm hr => by
    refine (tails_any G N hR W B gb (hG.below hb) b _ hm g cap (closedN N false) hr (closedN_lfp N hR.ok false).2).mono ?_
    rintro e w' ⟨h1, h2, h3⟩
    exact ⟨_, h1, h2, h3⟩
  have CC : Hid (∀ W, Below w.heap.size w W → Calls Tryz.prog 79 #[.pointer (some ⟨gb, 0, none⟩)] W fun e w' => ∃ g cap, e = .returned (.slice (some ⟨g, 0, none⟩) N.nN cap) ∧ N.nN ≤ cap ∧ (∀ j, j < N.nN → w'.cell? ⟨g, j, none⟩ = some (.int .i64 (lAt (leastsN N) j))) ∧ g < w'.heap.size ∧ Below W.heap.size W w') := hid fun W hb => by
    refine (leasts_any G N hR W B gb (hG.below hb)).mono ?_
    rintro e w' ⟨cap, h1, h2, h3⟩
    have hlen := (leastsN_gfp N hR.ok).2
    have hcap : N.nN ≤ cap := by
      rcases h2.2 with ⟨h4, _⟩ | ⟨g', cap', cur, h4, _, _, h5, _⟩
      · cases h4
      · injection h4 with _ _ h4; omega
    exact ⟨_, cap, h1, hcap, fun j hj => by rw [h2.cellAt j (by omega)]; exact nats_at (by omega), (h2.lt _ rfl).2, h3⟩
  have HCl : Hid ((closedN N false).length = N.nN) := hid (closedN_lfp N hR.ok false).2
  obtain ⟨nN, hn1⟩ : ∃ n, n = N.nN := ⟨_, rfl⟩
  rw [← hn1] at hnle lN CA CH CT CC ⊢
  have H1 : Hid (nN = N.nN) := hid hn1
  have HG : Hid (GrAt w B gb G) := hid hG
  clear hX hn1 hG hR
  obtain ⟨E, hE⟩ : ∃ E, E = closedN N false := ⟨_, rfl⟩
  rw [← hE] at CA CH CT HCl
  obtain ⟨Hm, hHm⟩ : ∃ Hm, Hm = headsN N (bAt E) := ⟨_, rfl⟩
  rw [← hHm] at CH CT
  obtain ⟨Tm, hTm⟩ : ∃ Tm, Tm = tailsN N Hm (bAt E) := ⟨_, rfl⟩
  rw [← hTm] at CT
  have HFac : Hid (∀ k, factOf G N k = ⟨nth G.names k, bAt E k, listB (tokWs G.toks) (mAt Hm k), listB (tokWs G.toks) (mAt Tm k), lAt (leastsN N) k⟩) := hid fun k => by
    rw [hTm, hHm, hE]; rfl
  clear hE hHm hTm
  go_enter Tryz.func47, Tryz.ntmps47
  go_wp2_with (first
    | (go_at_call 76; refine CA.out.mono ?_; rintro e w1 ⟨ga, capa, rfl, hla, hra, hga, hb1⟩)
    | (go_at_call 77; refine (CH.out _ _ _ hb1 hra).mono ?_; rintro e w2 ⟨bh, rfl, hmh, hb2⟩; have hb12 := hb1.trans (hb2.mono hb1.size); have hra2 := hra.below hb2)
    | (go_at_call 78; refine (CT.out _ _ _ _ hb12 hmh hra2).mono ?_; rintro e w3 ⟨bt, rfl, hmt, hb3⟩; have hb13 := hb12.trans (hb3.mono hb12.size))
    | (go_at_call 79; refine (CC.out _ hb13).mono ?_; rintro e w4 ⟨gl, capl, rfl, hll, hcl, hgl, hb4⟩))
  have hb34 : Below w2.heap.size w2 w4 := hb3.trans (hb4.mono hb3.size)
  have HBW : Hid (Below w.heap.size w w4) := hid (hb13.trans (hb4.mono hb13.size))
  have HMh : Hid (Mat w4 bh N Hm) := hid (hmh.below hb34)
  have HMt : Hid (Mat w4 bt N Tm) := hid (hmt.below hb4)
  have HRa : Hid (∀ j, j < nN → w4.cell? ⟨ga, j, none⟩ = some (.bool (bAt E j)) ∧ ga < w4.heap.size) := hid fun j hj => by
    obtain ⟨ad, cap, h1, h2, h3⟩ := (hra2.below hb34)
    rw [bools_len, HCl.out, ← H1.out] at h1 h3
    obtain ⟨g, h4, h5, h6⟩ := h3 (by omega)
    injection h1 with h1 _ _
    rw [← h1] at h4
    injection h4 with h4
    injection h4 with h4
    rw [h4]
    exact ⟨by rw [h6 j hj]; exact bools_at (by rw [HCl.out, ← H1.out]; exact hj), h5⟩
  have HCl4 : Hid (∀ j, j < nN → w4.cell? ⟨gl, j, none⟩ = some (.int .i64 (lAt (leastsN N) j)) ∧ gl < w4.heap.size) := hid fun j hj => ⟨hcl j hj, hgl⟩
  clear hb1 hb2 hb3 hb4 hb12 hb13 hb34 hmh hmt hra hra2 hcl hga hgl CA CH CT CC
  obtain ⟨w0, hw0⟩ : ∃ w0, w0 = w4.heap.size := ⟨_, rfl⟩
  have H0 : Hid (w0 = w4.heap.size) := hid hw0
  clear hw0
  go_loopw [7, 8] (fun v i wr => ∃ (k : Nat) (ps : List (Value × Value)), k ≤ nN ∧ i = .int .i64 k ∧ Hid (FcV wr w0 v (factsB G N k) ps) ∧ Hid (Below w0 w4 wr)) (fun _ i _ => nN - (intOf i).toNat)
  case atStart => exact ⟨0, [], Nat.zero_le _, rfl, hid (FcV.nil _ _), Below.refl _ _⟩
  case round =>
    obtain ⟨k, ps, hk, rfl, hF, hbr⟩ := hrel
    obtain ⟨W, hW⟩ : ∃ W, W = wr := ⟨_, rfl⟩
    subst hW
    have hb4 : Below w4.heap.size w4 W := by rw [← H0.out]; exact hbr.out
    have hsz4 : w.heap.size ≤ w4.heap.size := HBW.out.size
    have HBwW : Hid (Below w.heap.size w W) := hid (HBW.out.trans (hb4.mono hsz4))
    have hw0W : w0 ≤ W.heap.size := by rw [H0.out]; exact hb4.size
    have hX := HX.out.below HBwW.out
    have c2 := hX.c2
    rw [← H1.out] at c2
    by_cases hlt : k < nN
    · have hkN : k < N.nN := by rw [← H1.out]; exact hlt
      have hMh := HMh.out.below hb4
      have hMt := HMt.out.below hb4
      have crh := hMh.cell hkN
      have crt := hMt.cell hkN
      have CL1 : Hid (Calls Tryz.prog 80 #[.pointer (some ⟨gb, 0, none⟩), .slice (some ⟨bh + 1 + k, 0, none⟩) (N.nT + 1) (N.nT + 1)] W fun e w' => ∃ v, e = .returned v ∧ OwnS w' w0 v (listB (tokWs G.toks) (mAt Hm k)) ∧ Below W.heap.size W w') := hid (by
        refine (list_any G N hX.rep W B gb hX.gr (bh + 1 + k) (mAt Hm k) (fun t ht => (hMh.bit hkN ht).1) (hMh.lt hkN)).mono ?_
        rintro e w' ⟨v, h1, h2, h3⟩
        exact ⟨v, h1, h2.base hw0W, h3⟩)
      have CL2 : Hid (∀ W', Below W.heap.size W W' → Calls Tryz.prog 80 #[.pointer (some ⟨gb, 0, none⟩), .slice (some ⟨bt + 1 + k, 0, none⟩) (N.nT + 1) (N.nT + 1)] W' fun e w' => ∃ v, e = .returned v ∧ OwnS w' w0 v (listB (tokWs G.toks) (mAt Tm k)) ∧ Below W'.heap.size W' w') := hid fun W' hb => by
        refine (list_any G N hX.rep W' B gb (hX.below hb).gr (bt + 1 + k) (mAt Tm k) (fun t ht => ((hMt.below hb).bit hkN ht).1) ((hMt.below hb).lt hkN)).mono ?_
        rintro e w' ⟨v, h1, h2, h3⟩
        exact ⟨v, h1, h2.base (Nat.le_trans hw0W hb.size), h3⟩
      have ht4 : bt < W.heap.size := by have := hMt.lt hkN; omega
      have HXW : Hid _ := hid hX
      have HB4 : Hid _ := hid hb4
      have HCT : Hid (W.cell? ⟨bt, k, none⟩ = some (.slice (some ⟨bt + 1 + k, 0, none⟩) (N.nT + 1) (N.nT + 1)) ∧ bt < W.heap.size) := hid ⟨crt, ht4⟩
      obtain ⟨nT, hnT⟩ : ∃ n, n = N.nT := ⟨_, rfl⟩
      rw [← hnT] at crh CL1 CL2 HCT
      clear hX hMh hMt crt hnT hb4 ht4
      go_wp2_with fail
      refine CL1.out.mono ?_
      rintro e w5 ⟨v1, rfl, hv1, hb5⟩
      have crt := (hb5.cell (by exact HCT.out.2)).trans HCT.out.1
      clear CL1
      go_wp2_with fail
      refine (CL2.out _ hb5).mono ?_
      rintro e w6 ⟨v2, rfl, hv2, hb6⟩
      clear CL2 crh crt HCT
      have hb56 : Below W.heap.size W w6 := hb5.trans (hb6.mono hb5.size)
      have HX6 := HXW.out.below hb56
      have d2 := HX6.c2
      rw [← H1.out] at d2
      have dn := HX6.nameAt hkN
      have hb46 : Below w4.heap.size w4 w6 := HB4.out.trans (hb56.mono HB4.out.size)
      obtain ⟨da, hga⟩ := HRa.out k hlt
      have da := (hb46.cell (by exact hga)).trans da
      obtain ⟨dl, hgl⟩ := HCl4.out k hlt
      have dl := (hb46.cell (by exact hgl)).trans dl
      have HF6 : Hid _ := hid (hF.out.below hb56)
      have HV1 : Hid _ := hid (hv1.below hb6)
      have HV2 : Hid _ := hid hv2
      have HB6 : Hid (Below w0 w4 w6) := hid (by rw [H0.out]; exact hb46)
      have HBw6 : Hid (Below w.heap.size w w6) := hid (HBwW.out.trans (hb56.mono HBwW.out.size))
      obtain ⟨nm, hnm⟩ : ∃ nm, nm = nth G.names k := ⟨_, rfl⟩
      obtain ⟨nl, hnl⟩ : ∃ nl, nl = bAt E k := ⟨_, rfl⟩
      obtain ⟨le, hle⟩ : ∃ le, le = lAt (leastsN N) k := ⟨_, rfl⟩
      have HFk : Hid (factsB G N (k + 1) = factsB G N k ++ [⟨nm, nl, listB (tokWs G.toks) (mAt Hm k), listB (tokWs G.toks) (mAt Tm k), (le : Int)⟩]) := hid (by
        rw [factsB_succ, HFac.out, hnm, hnl, hle])
      rw [← hnm] at dn
      rw [← hnl] at da
      rw [← hle] at dl
      obtain ⟨FS, hFS⟩ : ∃ FS, FS = factsB G N k := ⟨_, rfl⟩
      have hFl : FS.length = k := by rw [hFS]; unfold factsB; simp
      rw [← hFS] at HF6 HFk
      have hrow : w6.ownsRow w0 81 5 u7 FS.length (fcCells FS ps) := HF6.out.row
      have hgN6 := HX6.hgN
      have hgb6 := HX6.hgb
      have hga6 : ga < w6.heap.size := Nat.lt_of_lt_of_le hga hb46.size
      have hgl6 : gl < w6.heap.size := Nat.lt_of_lt_of_le hgl hb46.size
      have hw06 : w0 ≤ w6.heap.size := Nat.le_trans hw0W hb56.size
      have hoff : ∀ g, g < w0 → some g ≠ u7.ownBlock := fun g hg e => by have := (hrow.lt g e.symm).1; omega
      have hgb0 : gb < w0 := by rw [H0.out]; exact Nat.lt_of_lt_of_le HX.out.hgb HBW.out.size
      have hgN0 : gN < w0 := by rw [H0.out]; exact Nat.lt_of_lt_of_le HX.out.hgN HBW.out.size
      have hga0 : ga < w0 := by rw [H0.out]; exact hga
      have hgl0 : gl < w0 := by rw [H0.out]; exact hgl
      have ogb := hoff gb hgb0
      have ogN := hoff gN hgN0
      have oga := hoff ga hga0
      have ogl := hoff gl hgl0
      obtain ⟨a1, k1, hv1e⟩ := own_slice hv1
      obtain ⟨a2, k2, hv2e⟩ := own_slice hv2
      obtain ⟨n1, hn1e⟩ : ∃ n, n = (listB (tokWs G.toks) (mAt Hm k)).length := ⟨_, rfl⟩
      obtain ⟨n2, hn2e⟩ : ∃ n, n = (listB (tokWs G.toks) (mAt Tm k)).length := ⟨_, rfl⟩
      rw [← hn1e] at hv1e
      rw [← hn2e] at hv2e
      subst hv1e
      subst hv2e
      clear hb5 hb6 hb56 hb46 hF hv1 hv2 HX6 hnm hnl hle hFS HXW HB4 HBwW hsz4 hbr c2 hw0W hoff hgb0 hgN0 hga0 hgl0 hn1e hn2e
      have hk20 : FS.length ≤ 20 := by omega
      go_wp2
      refine wp_region_held_drew (S := fun w' => w'.cell? ⟨gb, 2, none⟩ = some (.slice (some ⟨gN, 0, none⟩) nN capN) ∧ w'.cell? ⟨gN, k, none⟩ = some (.string nm) ∧ w'.cell? ⟨ga, k, none⟩ = some (.bool nl) ∧ w'.cell? ⟨gl, k, none⟩ = some (.int .i64 le)) (by kernel_rfl) ⟨d2, dn, da, dl⟩ (fun hHeld => ?_)
      refine wpAnyH_take (i := 0) (v := ?vv43) rfl (by kernel_rfl) (by kernel_rfl) (by kernel_rfl) (fun _ _ _ h => h) (Or.inl ⟨by rfl, ?hy43⟩) hHeld ?_
      case hy43 => (intro w hSw; (try dsimp only at hSw); first | (go_simp; done) | (go_simp; with_reducible rfl))
      try simp only [List.getElem_toArray, List.getElem_cons_zero, Act.put, List.setIfInBounds_toArray, List.set_cons_zero, List.set_cons_succ]
      refine wpAnyH_take (i := 1) (v := ?vv24) rfl (by kernel_rfl) (by kernel_rfl) (by kernel_rfl) (fun _ _ _ h => h) (Or.inl ⟨by rfl, ?hy24⟩) hHeld ?_
      case hy24 => (intro w hSw; (try dsimp only at hSw); first | (go_simp; done) | (go_simp; with_reducible rfl))
      try simp only [List.getElem_toArray, List.getElem_cons_succ, List.getElem_cons_zero, Act.put, List.setIfInBounds_toArray, List.set_cons_zero, List.set_cons_succ]
      refine wpAnyH_take (i := 2) (v := ?vv25) rfl (by kernel_rfl) (by kernel_rfl) (by kernel_rfl) (fun _ _ _ h => h) (Or.inl ⟨by rfl, ?hy25⟩) hHeld ?_
      case hy25 => (intro w hSw; (try dsimp only at hSw); first | (go_simp; done) | (go_simp; with_reducible rfl))
      try simp only [List.getElem_toArray, List.getElem_cons_succ, List.getElem_cons_zero, Act.put, List.setIfInBounds_toArray, List.set_cons_zero, List.set_cons_succ]
      refine wpAnyH_take (i := 3) (v := ?vv26) rfl (by kernel_rfl) (by kernel_rfl) (by kernel_rfl) (fun _ _ _ h => h) (Or.inl ⟨by rfl, ?hy26⟩) hHeld ?_
      case hy26 => (intro w hSw; (try dsimp only at hSw); first | (go_simp; done) | (go_simp; with_reducible rfl))
      try simp only [List.getElem_toArray, List.getElem_cons_succ, List.getElem_cons_zero, Act.put, List.setIfInBounds_toArray, List.set_cons_zero, List.set_cons_succ]
      refine wpAnyH_take (i := 4) (v := ?vv27) rfl (by kernel_rfl) (by kernel_rfl) (by kernel_rfl) (fun _ _ _ h => h) (Or.inl ⟨by rfl, ?hy27⟩) hHeld ?_
      case hy27 => (intro w hSw; (try dsimp only at hSw); first | (go_simp; done) | (go_simp; with_reducible rfl))
      try simp only [List.getElem_toArray, List.getElem_cons_succ, List.getElem_cons_zero, Act.put, List.setIfInBounds_toArray, List.set_cons_zero, List.set_cons_succ]
      refine wpAnyH_take (i := 5) (v := ?vv28) rfl (by kernel_rfl) (by kernel_rfl) (by kernel_rfl) (fun _ _ _ h => h) (Or.inl ⟨by rfl, ?hy28⟩) hHeld ?_
      case hy28 => (intro w hSw; (try dsimp only at hSw); first | (go_simp; done) | (go_simp; with_reducible rfl))
      try simp only [List.getElem_toArray, List.getElem_cons_succ, List.getElem_cons_zero, Act.put, List.setIfInBounds_toArray, List.set_cons_zero, List.set_cons_succ]
      refine wpAnyH_take (i := 6) (v := ?vv29) rfl (by kernel_rfl) (by kernel_rfl) (by kernel_rfl) (fun _ _ _ h => h) (Or.inl ⟨by rfl, ?hy29⟩) hHeld ?_
      case hy29 => (intro w hSw; (try dsimp only at hSw); first | (go_simp; done) | (go_simp; with_reducible rfl))
      try simp only [List.getElem_toArray, List.getElem_cons_succ, List.getElem_cons_zero, Act.put, List.setIfInBounds_toArray, List.set_cons_zero, List.set_cons_succ]
      refine wpAnyH_take (i := 7) (v := ?vv30) rfl (by kernel_rfl) (by kernel_rfl) (by kernel_rfl) (fun _ _ _ h => h) (Or.inl ⟨by rfl, ?hy30⟩) hHeld ?_
      case hy30 => (intro w hSw; (try dsimp only at hSw); first | (go_simp; done) | (go_simp; with_reducible rfl))
      try simp only [List.getElem_toArray, List.getElem_cons_succ, List.getElem_cons_zero, Act.put, List.setIfInBounds_toArray, List.set_cons_zero, List.set_cons_succ]
      refine wpAnyH_take (i := 8) (v := ?vv31) rfl (by kernel_rfl) (by kernel_rfl) (by kernel_rfl) (fun _ _ _ h => h) (Or.inl ⟨by rfl, ?hy31⟩) hHeld ?_
      case hy31 => (intro w hSw; (try dsimp only at hSw); first | (go_simp; done) | (go_simp; with_reducible rfl))
      try simp only [List.getElem_toArray, List.getElem_cons_succ, List.getElem_cons_zero, Act.put, List.setIfInBounds_toArray, List.set_cons_zero, List.set_cons_succ]
      refine wpAnyH_take (i := 9) (v := ?vv32) rfl (by kernel_rfl) (by kernel_rfl) (by kernel_rfl) (fun _ _ _ h => h) (Or.inl ⟨by rfl, ?hy32⟩) hHeld ?_
      case hy32 => (intro w hSw; (try dsimp only at hSw); first | (go_simp; done) | (go_simp; with_reducible rfl))
      try simp only [List.getElem_toArray, List.getElem_cons_succ, List.getElem_cons_zero, Act.put, List.setIfInBounds_toArray, List.set_cons_zero, List.set_cons_succ]
      refine wpAnyH_take (i := 10) (v := ?vv33) rfl (by kernel_rfl) (by kernel_rfl) (by kernel_rfl) (fun _ _ _ h => h) (Or.inl ⟨by rfl, ?hy33⟩) hHeld ?_
      case hy33 => (intro w hSw; (try dsimp only at hSw); first | (go_simp; done) | (go_simp; with_reducible rfl))
      try simp only [List.getElem_toArray, List.getElem_cons_succ, List.getElem_cons_zero, Act.put, List.setIfInBounds_toArray, List.set_cons_zero, List.set_cons_succ]
      refine wpAnyH_take (i := 11) (v := ?vv34) rfl (by kernel_rfl) (by kernel_rfl) (by kernel_rfl) (fun _ _ _ h => h) (Or.inl ⟨by rfl, ?hy34⟩) hHeld ?_
      case hy34 => (intro w hSw; (try dsimp only at hSw); first | (go_simp; done) | (go_simp; with_reducible rfl))
      try simp only [List.getElem_toArray, List.getElem_cons_succ, List.getElem_cons_zero, Act.put, List.setIfInBounds_toArray, List.set_cons_zero, List.set_cons_succ]
      refine wpAnyH_take (i := 12) (v := ?vv35) rfl (by kernel_rfl) (by kernel_rfl) (by kernel_rfl) (fun _ _ _ h => h) (Or.inl ⟨by rfl, ?hy35⟩) hHeld ?_
      case hy35 => (intro w hSw; (try dsimp only at hSw); first | (go_simp; done) | (go_simp; with_reducible rfl))
      try simp only [List.getElem_toArray, List.getElem_cons_succ, List.getElem_cons_zero, Act.put, List.setIfInBounds_toArray, List.set_cons_zero, List.set_cons_succ]
      refine wpAnyH_take (i := 13) (v := ?vv36) rfl (by kernel_rfl) (by kernel_rfl) (by kernel_rfl) (fun _ _ _ h => h) (Or.inl ⟨by rfl, ?hy36⟩) hHeld ?_
      case hy36 => (intro w hSw; (try dsimp only at hSw); first | (go_simp; done) | (go_simp; with_reducible rfl))
      try simp only [List.getElem_toArray, List.getElem_cons_succ, List.getElem_cons_zero, Act.put, List.setIfInBounds_toArray, List.set_cons_zero, List.set_cons_succ]
      refine wpAnyH_take (i := 14) (v := ?vv37) rfl (by kernel_rfl) (by kernel_rfl) (by kernel_rfl) (fun _ _ _ h => h) (Or.inl ⟨by rfl, ?hy37⟩) hHeld ?_
      case hy37 => (intro w hSw; (try dsimp only at hSw); first | (go_simp; done) | (go_simp; with_reducible rfl))
      try simp only [List.getElem_toArray, List.getElem_cons_succ, List.getElem_cons_zero, Act.put, List.setIfInBounds_toArray, List.set_cons_zero, List.set_cons_succ]
      refine wpAnyH_take (i := 15) (v := ?vv38) rfl (by kernel_rfl) (by kernel_rfl) (by kernel_rfl) (fun _ _ _ h => h) (Or.inl ⟨by rfl, ?hy38⟩) hHeld ?_
      case hy38 => (intro w hSw; (try dsimp only at hSw); first | (go_simp; done) | (go_simp; with_reducible rfl))
      try simp only [List.getElem_toArray, List.getElem_cons_succ, List.getElem_cons_zero, Act.put, List.setIfInBounds_toArray, List.set_cons_zero, List.set_cons_succ]
      refine wpAnyH_take (i := 16) (v := ?vv39) rfl (by kernel_rfl) (by kernel_rfl) (by kernel_rfl) (fun _ _ _ h => h) (Or.inl ⟨by rfl, ?hy39⟩) hHeld ?_
      case hy39 => (intro w hSw; (try dsimp only at hSw); first | (go_simp; done) | (go_simp; with_reducible rfl))
      try simp only [List.getElem_toArray, List.getElem_cons_succ, List.getElem_cons_zero, Act.put, List.setIfInBounds_toArray, List.set_cons_zero, List.set_cons_succ]
      refine wpAnyH_take (i := 17) (v := ?vv40) rfl (by kernel_rfl) (by kernel_rfl) (by kernel_rfl) (fun _ _ _ h => h) (Or.inl ⟨by rfl, ?hy40⟩) hHeld ?_
      case hy40 => (intro w hSw; (try dsimp only at hSw); first | (go_simp; done) | (go_simp; with_reducible rfl))
      try simp only [List.getElem_toArray, List.getElem_cons_succ, List.getElem_cons_zero, Act.put, List.setIfInBounds_toArray, List.set_cons_zero, List.set_cons_succ]
      refine wpAnyH_take (i := 18) (v := ?vv41) rfl (by kernel_rfl) (by kernel_rfl) (by kernel_rfl) (fun _ _ _ h => h) (Or.inl ⟨by rfl, ?hy41⟩) hHeld ?_
      case hy41 => (intro w hSw; (try dsimp only at hSw); first | (go_simp; done) | (go_simp; with_reducible rfl))
      try simp only [List.getElem_toArray, List.getElem_cons_succ, List.getElem_cons_zero, Act.put, List.setIfInBounds_toArray, List.set_cons_zero, List.set_cons_succ]
      refine wpAnyH_ready (rs := [19]) (by kernel_rfl) (by simp) ?_
      refine AllReadyH.cons rfl (fun K hK => ?_) AllReadyH.nil
      try simp only [List.getElem_toArray, List.getElem_cons_succ, List.getElem_cons_zero]
      go_simp
      refine hK.out _ _ ?_ (fun hHeld => ?_)
      · go_keep
      clear hK K
      try simp only [List.getElem_toArray, List.getElem_cons_succ, List.getElem_cons_zero, Act.put, List.setIfInBounds_toArray, List.set_cons_zero, List.set_cons_succ]
      refine wpAnyH_ready (rs := [20]) (by kernel_rfl) (by simp) ?_
      refine AllReadyH.cons rfl (fun K hK => ?_) AllReadyH.nil
      try simp only [List.getElem_toArray, List.getElem_cons_succ, List.getElem_cons_zero]
      rw [if_pos (by rfl)]; refine wp_append_lies _ (.tmp 43) (.tmp 62) 22 rfl w0 81 i0 (.agg #[.string ByteArray.empty, .bool false, .slice none 0 0, .slice none 0 0, .int .i64 0]) 5 80 Tryz.underlying22 hi hz0 hz1 hz2 rfl (by decide) u7 _ _ rfl (hrow.alloc _) ⟨w6.heap.size, 0, none⟩ 1 1 [.string nm, .bool nl, .slice a1 n1 k1, .slice a2 n2 k2, .int .i64 le] rfl rfl (World.news_of_block (fr := (0, 0)) (heap_alloc_new w6 _)) (by simp [Value.oneCell']) (by omega) (by unfold maxLen; omega) (by omega) (by simp; omega) _ rfl ?_; intro g2 cap2 w7 hown hgrow hat hlt2
      refine hK.out _ _ ?_ (fun hHeld => ?_)
      · exact ⟨(hgrow.cell_far _ (by simp; omega) (by exact ogb)).trans hHeld.1, (hgrow.cell_far _ (by simp; omega) (by exact ogN)).trans hHeld.2.1, (hgrow.cell_far _ (by simp; omega) (by exact oga)).trans hHeld.2.2.1, (hgrow.cell_far _ (by simp; omega) (by exact ogl)).trans hHeld.2.2.2⟩
      clear hK K
      try simp only [Act.put, List.setIfInBounds_toArray, List.set_cons_zero, List.set_cons_succ]
      refine wpAnyH_take (i := 21) (v := ?vv42) rfl (by kernel_rfl) (by kernel_rfl) (by kernel_rfl) (fun _ _ _ h => h) (Or.inl ⟨by rfl, ?hy42⟩) hHeld ?_
      case hy42 => (intro w hSw; (try dsimp only at hSw); first | (go_simp; done) | (go_simp; with_reducible rfl))
      try simp only [List.getElem_toArray, List.getElem_cons_succ, List.getElem_cons_zero, Act.put, List.setIfInBounds_toArray, List.set_cons_zero, List.set_cons_succ]
      refine wpAnyH_done (by kernel_rfl) ?_ _
      clear hHeld
      have hkeep : Keeps w6 w7 u7.ownBlock.toList := ((Keeps.refl w6 u7.ownBlock.toList).alloc (Obj.cells #[.string nm, .bool nl, .slice a1 n1 k1, .slice a2 n2 k2, .int .i64 le] 81)).drew.grown hgrow (fun k hk => .inl (by rw [hk]; simp))
      have HF7 : Hid (FcV w7 w0 (.slice (some ⟨g2, 0, none⟩) (FS.length + 1) cap2) (factsB G N (k + 1)) (ps ++ [(.slice a1 n1 k1, .slice a2 n2 k2)])) := hid (by
        rw [HFk.out]
        exact HF6.out.push (f := ⟨nm, nl, listB (tokWs G.toks) (mAt Hm k), listB (tokWs G.toks) (mAt Tm k), (le : Int)⟩) hkeep HV1.out HV2.out hown)
      have HB7 : Hid (Below w0 w4 w7) := hid (HB6.out.trans (hkeep.below hw06 (fun q hq => (hrow.lt q (mem_own hq)).1)))
      rw [hFl] at HF7
      clear hown hgrow hat hlt2 hkeep hrow
      go_wp2
      go_roundw
      case rel => exact ⟨k + 1, _, by omega, by go_num, HF7, HB7⟩
      case measure => simp [intOf]; omega
    · have HE : Hid (FcV W w.heap.size u7 (factsB G N nN) ps) := hid (by
        have h1 := hF.out
        rw [show k = nN by omega] at h1
        exact h1.base (by rw [H0.out]; exact hsz4))
      clear hX
      go_wp2
      go_ret
      exact ⟨_, ps, rfl, HE.out, HBwW.out⟩

end Go.Proofs.YtjjggdcnpndgjaaGreatDoor
