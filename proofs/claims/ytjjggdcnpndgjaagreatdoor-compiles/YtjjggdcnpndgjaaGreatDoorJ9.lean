/- (*Grammar).list. (*Grammar).Waste. -/
import Derived.Test.YtjjggdcnpndgjaaGreatDoorJ7
namespace Go.Proofs.YtjjggdcnpndgjaaGreatDoor
open Go.RowKit

/-- (*Grammar).list: the words of those that are true, the END last. -/
def listB (ws : List ByteArray) (on : List Bool) : List ByteArray := (((List.range ws.length).filter fun t => bAt on t).map fun t => nth ws t) ++ if bAt on ws.length then [ByteArray.empty] else []

def listTo (ws : List ByteArray) (on : List Bool) (k : Nat) : List ByteArray := ((List.range k).filter fun t => bAt on t).map fun t => nth ws t

theorem listTo_yes {ws : List ByteArray} {on : List Bool} {k : Nat} (h : bAt on k = true) : listTo ws on (k + 1) = listTo ws on k ++ [nth ws k] := by
  unfold listTo; rw [List.range_succ, List.filter_append, List.map_append]; simp [h]
theorem listTo_no {ws : List ByteArray} {on : List Bool} {k : Nat} (h : bAt on k = false) : listTo ws on (k + 1) = listTo ws on k := by
  unfold listTo; rw [List.range_succ, List.filter_append, List.map_append]; simp [h]
theorem listTo_len (ws : List ByteArray) (on : List Bool) (k : Nat) : (listTo ws on k).length ≤ k := by
  unfold listTo; rw [List.length_map]
  exact Nat.le_trans (List.length_filter_le _ _) (by simp)

/-- A row of words that the call owns. -/
def OwnS (w : World) (B : Nat) (v : Value) (l : List ByteArray) : Prop := w.ownsRow B 9 1 v l.length (strs l)

set_option maxHeartbeats 2000000 in
set_option maxRecDepth 100000 in
theorem list_any (G : Gr) (N : NG) (hR : Rep G N) (w : World) (B gb : Nat) (hG : GrAt w B gb G) (go : Nat) (on : List Bool) (hO : ∀ t, t < N.nT + 1 → w.cell? ⟨go, t, none⟩ = some (.bool (bAt on t))) (hgo : go < w.heap.size) :
    Calls Tryz.prog 80 #[.pointer (some ⟨gb, 0, none⟩), .slice (some ⟨go, 0, none⟩) (N.nT + 1) (N.nT + 1)] w fun e w' => ∃ v, e = .returned v ∧ OwnS w' w.heap.size v (listB (tokWs G.toks) on) ∧ Below w.heap.size w w' := by
  obtain ⟨i0, hi, hz0, hz1, hz2⟩ := info_parts Tryz.info9
  obtain ⟨adT, capT, gN, capN, gR, capR, hX⟩ := ctx_of hR hG
  have htle := hR.leT
  have hgb := hX.hgb
  have c0 := hX.c0
  have lT := hX.lT
  have HX : Hid (Ctx w B gb G N adT capT gN capN gR capR) := hid hX
  have HTl : Hid (N.nT = (tokWs G.toks).length) := hid (by unfold tokWs; rw [List.length_map]; exact hR.nT)
  obtain ⟨nT, hn2⟩ : ∃ n, n = N.nT := ⟨_, rfl⟩
  rw [← hn2] at htle c0 lT hO HTl ⊢
  have H2 : Hid (nT = N.nT) := hid hn2
  have HO : Hid _ := hid hO
  clear hX hR hn2 hG hO
  go_enter Tryz.func80, Tryz.ntmps80
  go_wp2
  go_loopw [5, 6] (fun v i wr => ∃ (k : Nat), k ≤ nT ∧ i = .int .i64 k ∧ Hid (OwnS wr w.heap.size v (listTo (tokWs G.toks) on k)) ∧ Hid (Below w.heap.size w wr)) (fun _ i _ => nT - (intOf i).toNat)
  case atStart => exact ⟨0, Nat.zero_le _, rfl, hid (World.ownsRow_nil _ _ _ _), Below.refl _ _⟩
  case round =>
    clear c0
    obtain ⟨k, hk, rfl, hown, hbr⟩ := hrel
    have hX := HX.out.below hbr.out
    have c0 := hX.c0
    rw [← H2.out] at c0
    have hsz := hbr.out.size
    by_cases hlt : k < nT
    · have co := (hbr.out.cell (p := ⟨go, k, none⟩) hgo).trans (HO.out k (by omega))
      obtain ⟨gT, hgT, _, cw, _⟩ := hX.toks k (by rw [← H2.out]; exact hlt)
      subst hgT
      rw [tokW_nth] at cw
      have hlen := listTo_len (tokWs G.toks) on k
      clear hX
      cases hb : bAt on k
      · rw [hb] at co
        have HS : Hid (OwnS wr w.heap.size u5 (listTo (tokWs G.toks) on (k + 1))) := hid (by rw [listTo_no hb]; exact hown.out)
        clear hb hlen
        go_wp2
        go_roundw
        case rel => exact ⟨k + 1, by omega, by go_num, HS, hbr⟩
        case measure => simp [intOf]; omega
      · rw [hb] at co
        have hon : wr.ownsRow w.heap.size 9 1 u5 (listTo (tokWs G.toks) on k).length (strs (listTo (tokWs G.toks) on k)) := hown.out
        have HL : Hid (listTo (tokWs G.toks) on (k + 1) = listTo (tokWs G.toks) on k ++ [nth (tokWs G.toks) k]) := hid (listTo_yes hb)
        obtain ⟨L, hL⟩ : ∃ L, L = listTo (tokWs G.toks) on k := ⟨_, rfl⟩
        rw [← hL] at hon hlen HL
        obtain ⟨x, hx⟩ : ∃ x, x = nth (tokWs G.toks) k := ⟨_, rfl⟩
        rw [← hx] at cw HL
        clear hb hL hown hx
        go_wp2_with (first
          | (at_builtin; refine wpList_append_own _ rfl _ _ 39 rfl w.heap.size 9 i0 (.string ByteArray.empty) 1 16 Tryz.underlying39 hi hz0 hz1 hz2 rfl (by decide) _ _ _ rfl (hon.alloc _) ⟨wr.heap.size, 0, none⟩ 1 1 [.string x] rfl rfl (cell_one_new _ _ _) ?c2 ?c3 ?c4 ?c5 ?_))
        case c2 => intro u hu; simp at hu; subst hu; rfl
        case c3 => unfold maxLen; omega
        case c4 => omega
        case c5 => simp; omega
        intro v' w1 hown' hgrow _
        have HO1 : Hid (OwnS w1 w.heap.size v' (listTo (tokWs G.toks) on (k + 1))) := hid (by
          rw [HL.out]; unfold OwnS; rw [List.length_append]; unfold strs at hown' ⊢; rw [List.map_append]; exact hown')
        have HB1 : Hid (Below w.heap.size w w1) := hid ((hbr.out.alloc hsz (Obj.cells #[.string x] 9)).grown hgrow (by simp; omega) (fun g hg => (hon.lt g hg).1))
        clear hown' hgrow hon
        go_wp2
        go_roundw
        case rel => exact ⟨k + 1, by omega, by go_num, HO1, HB1⟩
        case measure => simp [intOf]; omega
    · have hkn : k = nT := by omega
      have co := (hbr.out.cell (p := ⟨go, nT, none⟩) hgo).trans (HO.out nT (by omega))
      have hlen := listTo_len (tokWs G.toks) on k
      have hon : wr.ownsRow w.heap.size 9 1 u5 (listTo (tokWs G.toks) on k).length (strs (listTo (tokWs G.toks) on k)) := hown.out
      have HL : Hid (listB (tokWs G.toks) on = listTo (tokWs G.toks) on k ++ if bAt on nT then [ByteArray.empty] else []) := hid (by unfold listB; rw [← HTl.out, hkn]; rfl)
      obtain ⟨L, hL⟩ : ∃ L, L = listTo (tokWs G.toks) on k := ⟨_, rfl⟩
      rw [← hL] at hon hlen HL
      have hti : (nT : Int) < (nT : Int) + 1 := by omega
      clear hX hL hown
      cases hb : bAt on nT
      · rw [hb] at co
        have HE : Hid (listB (tokWs G.toks) on = L) := hid (by rw [HL.out, hb]; simp)
        clear hb HL
        go_wp2
        go_ret
        exact ⟨_, rfl, by rw [HE.out]; exact hon, hbr.out⟩
      · rw [hb] at co
        have HE : Hid (listB (tokWs G.toks) on = L ++ [ByteArray.empty]) := hid (by rw [HL.out, hb]; simp)
        clear hb HL
        go_wp2_with (first
          | (at_builtin; refine wpList_append_own _ rfl _ _ 39 rfl w.heap.size 9 i0 (.string ByteArray.empty) 1 16 Tryz.underlying39 hi hz0 hz1 hz2 rfl (by decide) _ _ _ rfl (hon.alloc _) ⟨wr.heap.size, 0, none⟩ 1 1 [.string ByteArray.empty] rfl rfl (cell_one_new _ _ _) ?d2 ?d3 ?d4 ?d5 ?_))
        case d2 => intro u hu; simp at hu; subst hu; rfl
        case d3 => unfold maxLen; omega
        case d4 => omega
        case d5 => simp; omega
        intro v' w1 hown' hgrow _
        have HO1 : Hid (OwnS w1 w.heap.size v' (listB (tokWs G.toks) on)) := hid (by
          rw [HE.out]; unfold OwnS; rw [List.length_append]; unfold strs at hown' ⊢; rw [List.map_append]; exact hown')
        have HB1 : Hid (Below w.heap.size w w1) := hid ((hbr.out.alloc hsz (Obj.cells #[.string ByteArray.empty] 9)).grown hgrow (by simp; omega) (fun g hg => (hon.lt g hg).1))
        clear hown' hgrow hon
        go_wp2
        go_ret
        exact ⟨_, rfl, HO1.out, HB1.out⟩

end Go.Proofs.YtjjggdcnpndgjaaGreatDoor

namespace Go.Proofs.YtjjggdcnpndgjaaGreatDoor
open Go.RowKit

/-- The first place at which something does not hold. -/
def offAt (n : Nat) (p : Nat → Bool) : Option Nat := (List.range n).find? fun i => !p i

theorem offAt_none {n : Nat} {p : Nat → Bool} (h : ∀ j, j < n → p j = true) : offAt n p = none := by
  unfold offAt; rw [List.find?_eq_none]; intro x hx; simp [h x (List.mem_range.1 hx)]

theorem offAt_some {n : Nat} {p : Nat → Bool} {k : Nat} (hk : k < n) (h : p k = false) (hno : ∀ j, j < k → p j = true) : offAt n p = some k := by
  unfold offAt
  rw [List.find?_eq_some_iff_getElem]
  refine ⟨by simp [h], k, by simpa using hk, by simp, fun j hj => by simp [hno j hj]⟩

/-- (*Grammar).Waste. -/
def wasteB (G : Gr) (N : NG) : ByteArray × Int :=
  match offAt N.nN (bAt (closedN N true)) with
  | some i => (nth G.names i, 6)
  | none => match offAt N.nN (bAt (foundN N)) with
    | some i => (nth G.names i, 7)
    | none => match offAt N.nN (fun i => decide (lAt (leastsN N) i ≤ 200)) with
      | some i => (nth G.names i, 8)
      | none => (ByteArray.empty, 0)

theorem Ctx.nameAt {w : World} {B gb : Nat} {G : Gr} {N : NG} {adT : Option Addr} {capT gN capN gR capR : Nat} (h : Ctx w B gb G N adT capT gN capN gR capR) {k : Nat} (hk : k < N.nN) : w.cell? ⟨gN, k, none⟩ = some (.string (nth G.names k)) := by
  obtain ⟨ad, cap, h1, h2, h3⟩ := h.names
  have hn := h.rep.nN
  rw [strs_len] at h1 h2 h3
  obtain ⟨g, h4, _, h5⟩ := h3 (by omega)
  injection h1 with h1 _ _
  rw [← h1] at h4
  injection h4 with h4
  injection h4 with h4
  rw [h4, h5 k (by omega)]
  exact strs_at (by omega)

set_option maxHeartbeats 2000000 in
set_option maxRecDepth 100000 in
theorem waste_any (G : Gr) (N : NG) (hR : Rep G N) (w : World) (B gb : Nat) (hG : GrAt w B gb G) :
    Calls Tryz.prog 75 #[.pointer (some ⟨gb, 0, none⟩)] w fun e w' => e = .returned (.tuple #[.string (wasteB G N).1, .int .i64 (wasteB G N).2]) ∧ Below w.heap.size w w' := by
  obtain ⟨adT, capT, gN, capN, gR, capR, hX⟩ := ctx_of hR hG
  have hnle := hR.leN
  have lN := hX.lN
  have HX : Hid (Ctx w B gb G N adT capT gN capN gR capR) := hid hX
  have CA : Hid (∀ W, Below w.heap.size w W → Calls Tryz.prog 76 #[.pointer (some ⟨gb, 0, none⟩), .bool true] W fun e w' => ∃ g cap, e = .returned (.slice (some ⟨g, 0, none⟩) N.nN cap) ∧ N.nN ≤ cap ∧ (∀ j, j < N.nN → w'.cell? ⟨g, j, none⟩ = some (.bool (bAt (closedN N true) j))) ∧ g < w'.heap.size ∧ Below W.heap.size W w') := hid fun W hb => by
    refine (closed_any G N hR W B gb (hG.below hb) true).mono ?_
    rintro e w' ⟨cap, h1, h2, h3⟩
    have hlen := (closedN_lfp N hR.ok true).2
    have hcap : N.nN ≤ cap := by
      rcases h2.2 with ⟨h4, _⟩ | ⟨g', cap', cur, h4, _, _, h5, _⟩
      · cases h4
      · injection h4 with _ _ h4; omega
    exact ⟨_, cap, h1, hcap, fun j hj => by rw [h2.cellAt j (by omega)]; exact bools_at (by omega), (h2.lt _ rfl).2, h3⟩
  have CB : Hid (∀ W, Below w.heap.size w W → Calls Tryz.prog 124 #[.pointer (some ⟨gb, 0, none⟩)] W fun e w' => ∃ g cap, e = .returned (.slice (some ⟨g, 0, none⟩) N.nN cap) ∧ N.nN ≤ cap ∧ (∀ j, j < N.nN → w'.cell? ⟨g, j, none⟩ = some (.bool (bAt (foundN N) j))) ∧ g < w'.heap.size ∧ Below W.heap.size W w') := hid fun W hb => by
    refine (found_any G N hR W B gb (hG.below hb)).mono ?_
    rintro e w' ⟨cap, h1, h2, h3⟩
    have hlen := (foundN_lfp N hR.ok).2
    have hcap : N.nN ≤ cap := by
      rcases h2.2 with ⟨h4, _⟩ | ⟨g', cap', cur, h4, _, _, h5, _⟩
      · cases h4
      · injection h4 with _ _ h4; omega
    exact ⟨_, cap, h1, hcap, fun j hj => by rw [h2.cellAt j (by omega)]; exact bools_at (by omega), (h2.lt _ rfl).2, h3⟩
  have CC : Hid (∀ W, Below w.heap.size w W → Calls Tryz.prog 79 #[.pointer (some ⟨gb, 0, none⟩)] W fun e w' => ∃ g cap, e = .returned (.slice (some ⟨g, 0, none⟩) N.nN cap) ∧ N.nN ≤ cap ∧ (∀ j, j < N.nN → w'.cell? ⟨g, j, none⟩ = some (.int .i64 (lAt (leastsN N) j))) ∧ g < w'.heap.size ∧ Below W.heap.size W w') := hid fun W hb => by
    refine (leasts_any G N hR W B gb (hG.below hb)).mono ?_
    rintro e w' ⟨cap, h1, h2, h3⟩
    have hlen := (leastsN_gfp N hR.ok).2
    have hcap : N.nN ≤ cap := by
      rcases h2.2 with ⟨h4, _⟩ | ⟨g', cap', cur, h4, _, _, h5, _⟩
      · cases h4
      · injection h4 with _ _ h4; omega
    exact ⟨_, cap, h1, hcap, fun j hj => by rw [h2.cellAt j (by omega)]; exact nats_at (by omega), (h2.lt _ rfl).2, h3⟩
  have HL : Hid (∀ n, lAt (leastsN N) n ≤ 201) := hid (leastsN_gfp N hR.ok).1.1
  obtain ⟨nN, hn1⟩ : ∃ n, n = N.nN := ⟨_, rfl⟩
  have HW : Hid (wasteB G N = match offAt nN (bAt (closedN N true)) with
    | some i => (nth G.names i, (6 : Int))
    | none => match offAt nN (bAt (foundN N)) with
      | some i => (nth G.names i, 7)
      | none => match offAt nN (fun i => decide (lAt (leastsN N) i ≤ 200)) with
        | some i => (nth G.names i, 8)
        | none => (ByteArray.empty, 0)) := hid (by rw [hn1]; rfl)
  rw [← hn1] at hnle lN CA CB CC
  have H1 : Hid (nN = N.nN) := hid hn1
  clear hX hR hn1 hG
  go_enter Tryz.func75, Tryz.ntmps75
  go_wp2_with (first
    | (go_at_call 76; refine (CA.out _ (Below.refl _ _)).mono ?_; rintro e w1 ⟨ga, capa, rfl, hla, hca, hga, hb1⟩)
    | (go_at_call 124; refine (CB.out _ hb1).mono ?_; rintro e w2 ⟨gf, capf, rfl, hlf, hcf, hgf, hb2⟩)
    | (go_at_call 79; refine (CC.out _ (hb1.trans (hb2.mono hb1.size))).mono ?_; rintro e w3 ⟨gl, capl, rfl, hll, hcl, hgl, hb3⟩))
  have hb23 : Below w1.heap.size w1 w3 := hb2.trans (hb3.mono hb2.size)
  have hbw : Below w.heap.size w w3 := hb1.trans (hb23.mono hb1.size)
  have HA : Hid (∀ j, j < nN → w3.cell? ⟨ga, j, none⟩ = some (.bool (bAt (closedN N true) j))) := hid fun j hj => (hb23.cell (by exact hga)).trans (hca j hj)
  have HB : Hid (∀ j, j < nN → w3.cell? ⟨gf, j, none⟩ = some (.bool (bAt (foundN N) j))) := hid fun j hj => (hb3.cell (by exact hgf)).trans (hcf j hj)
  have HC : Hid (∀ j, j < nN → w3.cell? ⟨gl, j, none⟩ = some (.int .i64 (lAt (leastsN N) j))) := hid hcl
  have HX3 : Hid _ := hid (HX.out.below hbw)
  have HBW : Hid (Below w.heap.size w w3) := hid hbw
  have c2 := HX3.out.c2
  rw [← H1.out] at c2
  clear hca hcf hcl hb1 hb2 hb3 hb23 hbw hga hgf hgl CA CB CC
  go_loop [7] (fun i => ∃ k : Nat, k ≤ nN ∧ i = .int .i64 k ∧ Hid (∀ j, j < k → bAt (closedN N true) j = true)) (fun i => nN - (intOf i).toNat)
  case atStart => exact ⟨0, Nat.zero_le _, rfl, hid fun j hj => by omega⟩
  case round =>
    obtain ⟨k, hk, rfl, hno⟩ := hrel
    by_cases hlt : k < nN
    · have ca := HA.out k hlt
      have cn := HX3.out.nameAt (k := k) (by rw [← H1.out]; exact hlt)
      cases hb : bAt (closedN N true) k
      · rw [hb] at ca
        have HE : Hid (wasteB G N = (nth G.names k, 6)) := hid (by rw [HW.out, offAt_some hlt hb hno.out])
        clear hb
        go_wp2
        go_ret2
        exact ⟨by rw [HE.out]; rfl, HBW.out⟩
      · rw [hb] at ca
        have HS : Hid _ := hid (upto_next hno.out hb)
        clear hb
        go_wp2
        go_round
        case rel => exact ⟨k + 1, by omega, by go_num, HS⟩
        case measure => simp [intOf]; omega
    · have HW2 : Hid (wasteB G N = match offAt nN (bAt (foundN N)) with
        | some i => (nth G.names i, (7 : Int))
        | none => match offAt nN (fun i => decide (lAt (leastsN N) i ≤ 200)) with
          | some i => (nth G.names i, 8)
          | none => (ByteArray.empty, 0)) := hid (by rw [HW.out, offAt_none (fun j hj => hno.out j (by omega))])
      go_wp2
      go_loop [8] (fun i => ∃ k : Nat, k ≤ nN ∧ i = .int .i64 k ∧ Hid (∀ j, j < k → bAt (foundN N) j = true)) (fun i => nN - (intOf i).toNat)
      case atStart => exact ⟨0, Nat.zero_le _, rfl, hid fun j hj => by omega⟩
      case round =>
        clear hno hlt hk
        obtain ⟨k, hk, rfl, hno⟩ := hrel
        by_cases hlt : k < nN
        · have ca := HB.out k hlt
          have cn := HX3.out.nameAt (k := k) (by rw [← H1.out]; exact hlt)
          cases hb : bAt (foundN N) k
          · rw [hb] at ca
            have HE : Hid (wasteB G N = (nth G.names k, 7)) := hid (by rw [HW2.out, offAt_some hlt hb hno.out])
            clear hb
            go_wp2
            go_ret2
            exact ⟨by rw [HE.out]; rfl, HBW.out⟩
          · rw [hb] at ca
            have HS : Hid _ := hid (upto_next hno.out hb)
            clear hb
            go_wp2
            go_round
            case rel => exact ⟨k + 1, by omega, by go_num, HS⟩
            case measure => simp [intOf]; omega
        · have HW3 : Hid (wasteB G N = match offAt nN (fun i => decide (lAt (leastsN N) i ≤ 200)) with
            | some i => (nth G.names i, (8 : Int))
            | none => (ByteArray.empty, 0)) := hid (by rw [HW2.out, offAt_none (fun j hj => hno.out j (by omega))])
          go_wp2
          go_loop [9] (fun i => ∃ k : Nat, k ≤ nN ∧ i = .int .i64 k ∧ Hid (∀ j, j < k → decide (lAt (leastsN N) j ≤ 200) = true)) (fun i => nN - (intOf i).toNat)
          case atStart => exact ⟨0, Nat.zero_le _, rfl, hid fun j hj => by omega⟩
          case round =>
            clear hno hlt hk
            obtain ⟨k, hk, rfl, hno⟩ := hrel
            by_cases hlt : k < nN
            · have ca := HC.out k hlt
              have cn := HX3.out.nameAt (k := k) (by rw [← H1.out]; exact hlt)
              have hl := HL.out k
              obtain ⟨v, hv⟩ : ∃ v, v = lAt (leastsN N) k := ⟨_, rfl⟩
              rw [← hv] at ca hl
              by_cases hb : v ≤ 200
              · have HS : Hid _ := hid (upto_next hno.out (show decide (lAt (leastsN N) k ≤ 200) = true from decide_eq_true (by rw [← hv]; exact hb)))
                have hbi : ¬ (200 : Int) < (v : Int) := by omega
                clear hv
                go_wp2
                go_round
                case rel => exact ⟨k + 1, by omega, by go_num, HS⟩
                case measure => simp [intOf]; omega
              · have HE : Hid (wasteB G N = (nth G.names k, 8)) := hid (by rw [HW3.out, offAt_some hlt (decide_eq_false (by rw [← hv]; exact hb)) hno.out])
                have hbi : (200 : Int) < (v : Int) := by omega
                clear hv
                go_wp2
                go_ret2
                exact ⟨by rw [HE.out]; rfl, HBW.out⟩
            · have HE : Hid (wasteB G N = (ByteArray.empty, 0)) := hid (by rw [HW3.out, offAt_none (fun j hj => hno.out j (by omega))])
              go_wp2
              go_ret2
              exact ⟨by rw [HE.out]; rfl, HBW.out⟩

end Go.Proofs.YtjjggdcnpndgjaaGreatDoor
