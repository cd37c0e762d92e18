/- (*Grammar).speaks. -/
import Derived.Test.YtjjggdcnpndgjaaGreatDoorJ7
namespace Go.Proofs.YtjjggdcnpndgjaaGreatDoor
open Go.RowKit

theorem speakB_tok {h : List (List Bool)} {E : Nat → Bool} {ps : List Pt} {k t : Nat} (out : List Bool) (hp : ps[k]? = some (.tok t)) : speakB h E (ps.drop k) out = (out.set t true, false) := by rw [drop_cons hp]; rfl
theorem speakB_nam {h : List (List Bool)} {E : Nat → Bool} {ps : List Pt} {k n : Nat} (out : List Bool) (hp : ps[k]? = some (.nam n)) :
    speakB h E (ps.drop k) out = if E n then speakB h E (ps.drop (k + 1)) (orB out (mAt h n)) else (orB out (mAt h n), false) := by rw [drop_cons hp]; rfl

theorem own_at {w W : World} {b0 n : Nat} {ok : List Bool} (h : W.ownsRow b0 4 1 (.slice (some ⟨b0, 0, none⟩) n n) n (bools ok)) (hb : Below W.heap.size W w) : w.ownsRow b0 4 1 (.slice (some ⟨b0, 0, none⟩) n n) n (bools ok) :=
  own_keeps h (Keeps.of_below hb []) (by simp)

set_option maxHeartbeats 4000000 in
set_option maxRecDepth 100000 in
theorem speaks_any (G : Gr) (N : NG) (hR : Rep G N) (w : World) (B gb : Nat) (hG : GrAt w B gb G) (vp : Value) (ws : List ByteArray) (ps : List Pt) (hp : RowO w vp ws) (hps : PsRep G ws ps) (ho : PsOk N ps) (hl : ps.length ≤ 8)
    (bh : Nat) (h : List (List Bool)) (hM : Mat w bh N h) (go capo : Nat) (E : List Bool) (hE : RowV w (.slice (some ⟨go, 0, none⟩) N.nN capo) (bools E)) (hEl : E.length = N.nN) :
    Calls Tryz.prog 126 #[.pointer (some ⟨gb, 0, none⟩), vp, .slice (some ⟨bh, 0, none⟩) N.nN N.nN, .slice (some ⟨go, 0, none⟩) N.nN capo] w fun e w' =>
      e = .returned (.tuple #[.slice (some ⟨w.heap.size, 0, none⟩) (N.nT + 1) (N.nT + 1), .bool (speakB h (bAt E) ps (row0 N)).2]) ∧
      w'.ownsRow w.heap.size 4 1 (.slice (some ⟨w.heap.size, 0, none⟩) (N.nT + 1) (N.nT + 1)) (N.nT + 1) (bools (speakB h (bAt E) ps (row0 N)).1) ∧ Below w.heap.size w w' := by
  obtain ⟨i0, hi, hz0, hz1, hz2⟩ := info_parts Tryz.info4
  obtain ⟨adT, capT, gN, capN, gR, capR, hX⟩ := ctx_of hR hG
  have hnle := hR.leN
  have htle := hR.leT
  have hgb := hX.hgb
  have hgN := hX.hgN
  have c0 := hX.c0
  have lT := hX.lT
  have HX : Hid (Ctx w B gb G N adT capT gN capN gR capR) := hid hX
  have HMat : Hid (Mat w bh N h) := hid hM
  have HE : Hid (∀ j, j < N.nN → w.cell? ⟨go, j, none⟩ = some (.bool (bAt E j)) ∧ go < w.heap.size) := hid fun j hj => by
    obtain ⟨ad', cap', h1, h2, h3⟩ := hE
    rw [bools_len, hEl] at h1 h3
    obtain ⟨g', h4, h5, h6⟩ := h3 (by omega)
    injection h1 with h1 _ _
    rw [← h1] at h4
    injection h4 with h4
    injection h4 with h4
    rw [h4, h6 j hj]
    exact ⟨bools_at (by omega), h5⟩
  have hcapo : N.nN ≤ capo := by
    obtain ⟨ad', cap', h1, h2, h3⟩ := hE
    rw [bools_len, hEl] at h1 h2
    injection h1 with _ _ h1
    omega
  obtain ⟨ad, cap, rfl, hcap, hc⟩ := hp
  rw [hps.1] at hcap hc ⊢
  obtain ⟨np, hnp⟩ : ∃ n, n = ps.length := ⟨_, rfl⟩
  obtain ⟨nN, hn1⟩ : ∃ n, n = N.nN := ⟨_, rfl⟩
  obtain ⟨nT, hn2⟩ : ∃ n, n = N.nT := ⟨_, rfl⟩
  rw [← hnp] at hcap hc hl ⊢
  rw [← hn1] at hnle hcapo ⊢
  rw [← hn2] at htle c0 lT ⊢
  have H1 : Hid (nN = N.nN) := hid hn1
  have H2 : Hid (nT = N.nT) := hid hn2
  have HNp : Hid (np = ps.length) := hid hnp
  have HC : Hid _ := hid hc
  have HPR : Hid (PsRep G ws ps) := hid hps
  have HPO : Hid (PsOk N ps) := hid ho
  clear hX hR hn1 hn2 hG hM hE hEl hnp hc hps ho
  obtain ⟨b0, hb0⟩ : ∃ b, b = w.heap.size := ⟨_, rfl⟩
  have H0 : Hid (b0 = w.heap.size) := hid hb0
  rw [← hb0] at hgb hgN
  rw [← hb0]
  go_enter Tryz.func126, Tryz.ntmps126
  go_wp2_with (first
    | (at_make; refine wpList_make_full _ rfl _ _ 150 rfl b0 4 i0 (.bool false) 1 Tryz.underlying150 hi hz0 hz1 .i64 .i64 _ _ (nT + 1) rfl rfl (by omega) (by omega) (by rw [hz2]; omega) (by unfold maxLen; omega) (by omega) ?_; intro w1 hown1 hgrow1))
  rw [made_bools, ← hb0] at hown1
  rw [← hb0]
  have HO1 : Hid _ := hid hown1
  have HB1 : Hid (Below b0 w w1) := hid ((Below.refl _ _).grown hgrow1 (Nat.le_of_eq hb0) (fun j hj => by cases hj))
  have HBel : Hid (∀ W, Below b0 w W → Below w.heap.size w W) := hid fun W h => by rw [← H0.out]; exact h
  clear hown1 hgrow1 hb0 c0
  go_loopw [11] (fun i wr => ∃ (k : Nat) (out : List Bool), k ≤ np ∧ i = .int .i64 k ∧ Hid (speakB h (bAt E) (ps.drop k) out = speakB h (bAt E) ps (row0 N)) ∧ Hid (out.length = nT + 1) ∧
      Hid (wr.ownsRow b0 4 1 (.slice (some ⟨b0, 0, none⟩) (nT + 1) (nT + 1)) (nT + 1) (bools out)) ∧ Hid (Below b0 w wr)) (fun i _ => np - (intOf i).toNat)
  case atStart => exact ⟨0, _, Nat.zero_le _, rfl, hid (by unfold row0; rw [← H2.out]; rfl), hid (by simp), HO1, HB1⟩
  case round =>
    clear HO1 HB1
    obtain ⟨k, out, hk, rfl, hit, hkl, hown, hbr⟩ := hrel
    obtain ⟨W, hW⟩ : ∃ W, W = wr := ⟨_, rfl⟩
    subst hW
    by_cases hlt : k < np
    · have hX := HX.out.below (HBel.out _ hbr.out)
      have c2 := hX.c2
      rw [← H1.out] at c2
      have hsz : b0 ≤ W.heap.size := by have := hbr.out.size; have := H0.out; omega
      obtain ⟨gP, off, rfl, hgP, ckk⟩ := HC.out (by omega)
      have ck := (hbr.out.cell (p := ⟨gP, off + k, none⟩) (by rw [H0.out]; exact hgP)).trans (ckk k hlt)
      clear ckk hgP
      obtain ⟨p, hpk⟩ : ∃ p, ps[k]? = some p := ⟨_, List.getElem?_eq_getElem (by have := HNp.out; omega)⟩
      have hpt := HPR.out.2 k p hpk
      obtain ⟨x, hx⟩ : ∃ x, x = nth ws k := ⟨_, rfl⟩
      rw [← hx] at ck hpt
      have CX : Hid (∀ m, Calls Tryz.prog 84 #[.slice (some ⟨gN, 0, none⟩) nN capN, .string x] (W.drewN m) fun e w' => e = .returned (.int .i64 (idxB G.names x)) ∧ w' = W.drewN m) := hid fun m => by
        rw [H1.out]
        exact (hX.below (below_draws W m)).index x
      have CT : Hid (∀ m, Calls Tryz.prog 57 #[.pointer (some ⟨gb, 0, none⟩), .string x] (W.drewN m) fun e w' => e = .returned (.int .i64 (idxB (tokWs G.toks) x)) ∧ w' = W.drewN m) := hid fun m =>
        (hX.below (below_draws W m)).token x
      have hmem := List.mem_of_getElem? hpk
      cases p with
      | tok u =>
        have hu := HPO.out.2 u hmem
        rw [← H2.out] at hu
        have CY : Hid (∀ m, Calls Tryz.prog 84 #[.slice (some ⟨gN, 0, none⟩) nN capN, .string x] (W.drewN m) fun e w' => e = .returned (.int .i64 (-1)) ∧ w' = W.drewN m) := hid fun m => by
          have := CX.out m
          rwa [hpt.1] at this
        have CU : Hid (∀ m, Calls Tryz.prog 57 #[.pointer (some ⟨gb, 0, none⟩), .string x] (W.drewN m) fun e w' => e = .returned (.int .i64 u) ∧ W.drewN m = w') := hid fun m => by
          have := CT.out m
          rw [hpt.2] at this
          exact this.mono fun _ _ h => ⟨h.1, h.2.symm⟩
        have HS : Hid (speakB h (bAt E) ps (row0 N) = (out.set u true, false)) := hid (hit.out.symm.trans (speakB_tok out hpk))
        obtain ⟨cu, hfu⟩ := own_cell hown.out hkl.out (j := u) (by omega)
        clear hpt hmem CX CT hX hpk hx hit HC
        go_wp2
        go_quiet ((go_at_call 84; exact (CY.out _).mono fun _ _ h => ⟨h.1, _, h.2⟩))
        go_wp2_with (first
          | (go_at_call 57; refine (CU.out _).mono ?_; rintro e w2 ⟨rfl, rfl⟩))
        go_ret2
        have hbd := below_draws W nq
        have h3 := own_true (hbr.out.trans (hbd.mono hsz)) (own_at hown.out hbd) u true
        rw [HS.out]
        exact ⟨rfl, h3.1, h3.2⟩
      | nam u =>
        have hu := HPO.out.1 u hmem
        have hM := HMat.out.below (HBel.out _ hbr.out)
        have cr := hM.cell hu
        obtain ⟨ce, hgo⟩ := HE.out u hu
        rw [← H0.out] at hgo
        have hrl := HMat.out.lt hu
        rw [← H0.out] at hrl
        rw [← H1.out] at hu
        rw [← H2.out] at cr
        have CY : Hid (∀ m, Calls Tryz.prog 84 #[.slice (some ⟨gN, 0, none⟩) nN capN, .string x] (W.drewN m) fun e w' => e = .returned (.int .i64 u) ∧ w' = W.drewN m) := hid fun m => by
          have := CX.out m
          rwa [show idxB G.names x = u from hpt] at this
        have HS : Hid (speakB h (bAt E) ps (row0 N) = if bAt E u then speakB h (bAt E) (ps.drop (k + 1)) (orB out (mAt h u)) else (orB out (mAt h u), false)) := hid (hit.out.symm.trans (speakB_nam out hpk))
        clear hpt hmem CX CT hX hpk hx hit hM cr
        go_wp2
        go_quiet ((go_at_call 84; exact (CY.out _).mono fun _ _ h => ⟨h.1, _, h.2⟩))
        go_wp2
        obtain ⟨W1, hW1⟩ : ∃ W1, W1 = W.drewN nq := ⟨_, rfl⟩
        have hbd : Below W.heap.size W W1 := by rw [hW1]; exact below_draws _ _
        rw [← hW1]
        have HO1 : Hid (W1.ownsRow b0 4 1 (.slice (some ⟨b0, 0, none⟩) (nT + 1) (nT + 1)) (nT + 1) (bools (upto out (fun t => bAt out t || col h t u) 0))) := hid (by rw [upto_zero]; exact own_at hown.out hbd)
        have HB1 : Hid (Below b0 w W1) := hid (hbr.out.trans (hbd.mono hsz))
        clear hW1 hbd hown hbr ck
        go_loopw [13] (fun i wr => ∃ (t : Nat), t ≤ nT + 1 ∧ i = .int .i64 t ∧ Hid (wr.ownsRow b0 4 1 (.slice (some ⟨b0, 0, none⟩) (nT + 1) (nT + 1)) (nT + 1) (bools (upto out (fun t => bAt out t || col h t u) t))) ∧ Hid (Below b0 w wr)) (fun i _ => nT + 1 - (intOf i).toNat)
        case atStart => exact ⟨0, Nat.zero_le _, rfl, HO1, HB1⟩
        case round =>
          clear HO1 HB1 hsz
          obtain ⟨t, ht, rfl, hown, hbr⟩ := hrel
          obtain ⟨W2, hW⟩ : ∃ W, W = wr := ⟨_, rfl⟩
          subst hW
          by_cases htl : t < nT + 1
          · have hM := HMat.out.below (HBel.out _ hbr.out)
            have cr := hM.cell (n := u) (by rw [← H1.out]; exact hu)
            have cb := (hM.bit (n := u) (t := t) (by rw [← H1.out]; exact hu) (by rw [← H2.out]; exact htl)).1
            rw [← H2.out] at cr
            obtain ⟨co, hfo⟩ := own_cell hown.out (by rw [upto_len, hkl.out]) htl
            have hbo : bAt (upto out (fun t => bAt out t || col h t u) t) t = bAt out t := by
              rw [bAt_upto, if_pos (by rw [hkl.out]; exact htl), if_neg (by omega)]
            rw [hbo] at co
            have h3 := own_true hbr.out hown.out t (bAt out t || col h t u)
            rw [upto_set (a := out) (f := fun t => bAt out t || col h t u) (by rw [hkl.out]; exact htl)] at h3
            have hti : (t : Int) < (nT : Int) + 1 := by omega
            clear hM hbo
            cases ho : bAt out t <;> cases hc : col h t u
            all_goals
              rw [ho] at co
              rw [hc] at cb
              rw [ho, hc] at h3
              have HO3 : Hid _ := hid h3.1
              have HB3 : Hid _ := hid h3.2
              clear h3 ho hc
              go_wp2
              go_roundw
              case rel => exact ⟨t + 1, by omega, by go_num, HO3, HB3⟩
              case measure => simp [intOf]; omega
          · have hti : ¬ (t : Int) < (nT : Int) + 1 := by omega
            have HO5 : Hid (W2.ownsRow b0 4 1 (.slice (some ⟨b0, 0, none⟩) (nT + 1) (nT + 1)) (nT + 1) (bools (orB out (mAt h u)))) := hid (by
              have h1 := hown.out
              rw [show t = out.length by rw [hkl.out]; omega] at h1
              rw [← upto_or (by rw [hkl.out, HMat.out.ok.2 u (by rw [← H1.out]; exact hu), H2.out])]
              exact h1)
            have HL5 : Hid ((orB out (mAt h u)).length = nT + 1) := hid (by
              unfold orB; rw [List.length_zipWith, hkl.out, HMat.out.ok.2 u (by rw [← H1.out]; exact hu), H2.out]; omega)
            have ce2 := (hbr.out.cell (p := ⟨go, u, none⟩) hgo).trans ce
            cases hE : bAt E u
            · rw [hE] at ce2
              have HS2 : Hid (speakB h (bAt E) ps (row0 N) = (orB out (mAt h u), false)) := hid (by rw [HS.out, hE]; rfl)
              clear hE HS ce hown
              go_wp2
              go_ret2
              rw [HS2.out]
              exact ⟨rfl, HO5.out, hbr.out⟩
            · rw [hE] at ce2
              have HS2 : Hid (speakB h (bAt E) (ps.drop (k + 1)) (orB out (mAt h u)) = speakB h (bAt E) ps (row0 N)) := hid (by rw [HS.out, hE]; rfl)
              clear hE HS ce hown
              go_wp2
              go_roundw
              case rel => exact ⟨k + 1, _, by omega, by go_num, HS2, HL5, HO5, hbr⟩
              case measure => simp [intOf]; omega
    · have HS : Hid (speakB h (bAt E) ps (row0 N) = (out, true)) := hid (by
        rw [← hit.out, List.drop_eq_nil_of_le (by have := HNp.out; omega)]; rfl)
      go_wp2
      go_ret2
      rw [HS.out]
      exact ⟨rfl, hown.out, hbr.out⟩

end Go.Proofs.YtjjggdcnpndgjaaGreatDoor
