/- (*Grammar).tails, walked. -/
import Derived.Test.YtjjggdcnpndgjaaGreatDoorJ8
namespace Go.Proofs.YtjjggdcnpndgjaaGreatDoor
open Go.RowKit

theorem mat_tail0 {w : World} {b : Nat} {N : NG} (h : Mat w b N (List.replicate N.nN (row0 N))) (hp : 0 < N.nN) : Mat (w.setCell ⟨b + 1, N.nT, none⟩ (.bool true)) b N (tail0 N) := by
  have h1 := h.put N.nT hp true
  have h2 : mAt (List.replicate N.nN (row0 N)) 0 = row0 N := by
    unfold mAt; rw [List.getD_eq_getElem?_getD, List.getElem?_replicate, if_pos hp]; rfl
  rw [h2] at h1
  exact h1

theorem tailB_tok {N : NG} {H : List (List Bool)} {E : Nat → Bool} {n : Nat} {ps : List Pt} {k t : Nat} (f : List (List Bool)) (hp : ps[k]? = some (.tok t)) : tailB N H E n (ps.drop k) f = tailB N H E n (ps.drop (k + 1)) f := by rw [drop_cons hp]; rfl
theorem tailB_nam {N : NG} {H : List (List Bool)} {E : Nat → Bool} {n : Nat} {ps : List Pt} {k m : Nat} (f : List (List Bool)) (hp : ps[k]? = some (.nam m)) :
    tailB N H E n (ps.drop k) f = tailB N H E n (ps.drop (k + 1)) (f.set m (orT (mAt f m) (speakB H E (ps.drop (k + 1)) (row0 N)).1 (speakB H E (ps.drop (k + 1)) (row0 N)).2 (mAt f n))) := by rw [drop_cons hp]; rfl

theorem PsOk.drop {N : NG} {ps : List Pt} (h : PsOk N ps) (k : Nat) : PsOk N (ps.drop k) := ⟨fun n hn => h.1 n (List.mem_of_mem_drop hn), fun n hn => h.2 n (List.mem_of_mem_drop hn)⟩

theorem PsRep.drop {G : Gr} {ws : List ByteArray} {ps : List Pt} (h : PsRep G ws ps) (k : Nat) : PsRep G (ws.drop k) (ps.drop k) := by
  refine ⟨by rw [List.length_drop, List.length_drop, h.1], fun j p hp => ?_⟩
  rw [List.getElem?_drop] at hp
  have := h.2 (k + j) p hp
  unfold nth at this ⊢
  rw [List.getD_eq_getElem?_getD, List.getElem?_drop]
  rwa [List.getD_eq_getElem?_getD] at this

/-- The parts behind a place, as a slice. -/
theorem rowO_drop {w : World} {g n cap : Nat} {ws : List ByteArray} (h : RowV w (.slice (some ⟨g, 0, none⟩) n cap) (strs ws)) (hl : ws.length = n) {k : Nat} (hk : k ≤ n) (ad : Option Addr) (had : 0 < n - k → ad = some ⟨g, k, none⟩) :
    RowO w (.slice ad (n - k) (cap - k)) (ws.drop k) := by
  obtain ⟨ad', cap', h1, h2, h3⟩ := h
  rw [strs_len, hl] at h1 h2 h3
  injection h1 with h1 _ h4
  subst h4
  refine ⟨ad, cap - k, by rw [List.length_drop, hl], by rw [List.length_drop, hl]; omega, fun h0 => ?_⟩
  rw [List.length_drop, hl] at h0
  obtain ⟨g', h5, h6, h7⟩ := h3 (by omega)
  rw [← h1] at h5
  injection h5 with h5
  injection h5 with h5
  subst h5
  refine ⟨g, k, had h0, h6, fun j hj => ?_⟩
  rw [List.length_drop, hl] at hj
  rw [h7 (k + j) (by omega), strs_at (by omega)]
  unfold nth
  rw [List.getD_eq_getElem?_getD, List.getD_eq_getElem?_getD, List.getElem?_drop]

set_option maxHeartbeats 8000000 in
set_option maxRecDepth 100000 in
theorem tails_any (G : Gr) (N : NG) (hR : Rep G N) (w : World) (B gb : Nat) (hG : GrAt w B gb G) (bh : Nat) (H : List (List Bool)) (hH : Mat w bh N H) (go capo : Nat) (E : List Bool) (hE : RowV w (.slice (some ⟨go, 0, none⟩) N.nN capo) (bools E)) (hEl : E.length = N.nN) :
    Calls Tryz.prog 78 #[.pointer (some ⟨gb, 0, none⟩), .slice (some ⟨bh, 0, none⟩) N.nN N.nN, .slice (some ⟨go, 0, none⟩) N.nN capo] w fun e w' =>
      e = .returned (.slice (some ⟨w.heap.size, 0, none⟩) N.nN N.nN) ∧ Mat w' w.heap.size N (tailsN N H (bAt E)) ∧ Below w.heap.size w w' := by
  obtain ⟨i0, hi, hz0, hz1, hz2⟩ := info_parts Tryz.info4
  obtain ⟨j0, ji, jz0, jz1, jz2⟩ := info_parts Tryz.info150
  obtain ⟨adT, capT, gN, capN, gR, capR, hX⟩ := ctx_of hR hG
  have hnle := hR.leN
  have hnpos := hR.ok.pos
  have htle := hR.leT
  have hrle := hR.leR
  have hgb := hX.hgb
  have hgN := hX.hgN
  have hgR := hX.hgR
  have c2 := hX.c2
  have lN := hX.lN
  have lR := hX.lR
  have hMK := fun W : World => MatK.start W N hnle
  have HX : Hid (Ctx w B gb G N adT capT gN capN gR capR) := hid hX
  have HH : Hid (Mat w bh N H) := hid hH
  have HE : Hid (RowV w (.slice (some ⟨go, 0, none⟩) N.nN capo) (bools E)) := hid hE
  have HEl : Hid (E.length = N.nN) := hid hEl
  obtain ⟨nN, hn1⟩ : ∃ n, n = N.nN := ⟨_, rfl⟩
  obtain ⟨nT, hn2⟩ : ∃ n, n = N.nT := ⟨_, rfl⟩
  obtain ⟨nR, hn3⟩ : ∃ n, n = N.rules.length := ⟨_, rfl⟩
  rw [← hn1] at hnle c2 lN hnpos ⊢
  rw [← hn2] at htle
  rw [← hn3] at hrle lR
  have H1 : Hid (nN = N.nN) := hid hn1
  have H2 : Hid (nT = N.nT) := hid hn2
  have H3 : Hid (nR = N.rules.length) := hid hn3
  have HMK : Hid _ := hid hMK
  clear hX hR hn1 hn2 hn3 hG hE hEl hMK hH
  obtain ⟨b0, hb0⟩ : ∃ b, b = w.heap.size := ⟨_, rfl⟩
  have H0 : Hid (b0 = w.heap.size) := hid hb0
  rw [← hb0] at hgb hgN hgR
  rw [← hb0]
  go_enter Tryz.func78, Tryz.ntmps78
  go_wp2_with (first
    | (at_make; refine wpList_make_exact _ rfl _ _ 152 rfl 150 j0 (.slice none 0 0) Tryz.underlying152 ji jz0 _ _ nN rfl rfl rfl rfl (by rw [jz2]; omega) (by omega) ?_))
  have HK0 : Hid (MatK (w.alloc (.cells (madeCells #[Value.slice none 0 0] nN) 150)) b0 N 0) := hid (by
    have := HMK.out w
    rw [H1.out, H0.out]; exact this)
  have HB0 : Hid (Below b0 w (w.alloc (.cells (madeCells #[Value.slice none 0 0] nN) 150))) := hid ((Below.refl _ _).alloc (Nat.le_of_eq hb0) _)
  obtain ⟨W0, hW0⟩ : ∃ W0, W0 = w.alloc (.cells (madeCells #[Value.slice none 0 0] nN) 150) := ⟨_, rfl⟩
  rw [← hW0] at HK0 HB0 ⊢
  rw [← hb0]
  have HF : Hid (∀ i : Nat, i < nR → ∃ q, N.rules[i]? = some q) := hid fun i h => ⟨_, List.getElem?_eq_getElem (by rw [← H3.out]; exact h)⟩
  have HBel : Hid (∀ W, Below b0 w W → Below w.heap.size w W) := hid fun W h => by rw [← H0.out]; exact h
  clear hb0 hW0 HMK c2
  go_loopw [8] (fun i wr => ∃ (k : Nat), k ≤ nN ∧ i = .int .i64 k ∧ Hid (MatK wr b0 N k) ∧ Hid (Below b0 w wr)) (fun i _ => nN - (intOf i).toNat)
  case atStart => exact ⟨0, Nat.zero_le _, rfl, HK0, HB0⟩
  case round =>
    clear HK0 HB0
    obtain ⟨k, hk, rfl, hK, hbr⟩ := hrel
    obtain ⟨W, hW⟩ : ∃ W, W = wr := ⟨_, rfl⟩
    subst hW
    by_cases hlt : k < nN
    · have hX := HX.out.below (HBel.out _ hbr.out)
      have c0 := hX.c0
      have lT := hX.lT
      rw [← H2.out] at c0 lT
      have hw0 := hK.out.size
      have hlK : ∃ u, W.cell? ⟨b0, k, none⟩ = some u := by
        have h1 := hK.out.top.cellAt k (by rw [← H1.out]; omega)
        rw [List.getElem?_eq_getElem (by unfold rowVals; simp; have := H1.out; omega)] at h1
        exact ⟨_, h1⟩
      obtain ⟨u0, hu0⟩ := hlK
      have hba : Below W.heap.size W (W.alloc (.cells (madeCells #[Value.bool false] (nT + 1)) 4)) := (Below.refl _ _).alloc (Nat.le_refl _) _
      have hca : (W.alloc (.cells (madeCells #[Value.bool false] (nT + 1)) 4)).cell? ⟨b0, k, none⟩ = some u0 := (hba.cell (by simp; omega)).trans hu0
      have hfa : (W.alloc (.cells (madeCells #[Value.bool false] (nT + 1)) 4)).frozen? ⟨b0, k, none⟩ = false := (hba.frozen (by simp; omega)).trans (hK.out.top.frozenAt k)
      clear hba hu0
      have h3 := hK.out.next (by rw [← H1.out]; exact hlt) (by rw [← H2.out]; exact htle)
      rw [← H2.out] at h3
      have HK3 : Hid _ := hid h3
      have HB3 : Hid (Below b0 w ((W.alloc (.cells (madeCells #[Value.bool false] (nT + 1)) 4)).setCell ⟨b0, k, none⟩ (.slice (some ⟨W.heap.size, 0, none⟩) (nT + 1) (nT + 1)))) :=
        hid ((hbr.out.alloc (by omega) _).setCell (p := ⟨b0, k, none⟩) (Nat.le_refl _) _)
      have hne : ¬ W.heap.size = b0 := by omega
      clear hX h3 hw0
      go_wp2_with (first
        | (at_make; refine wpList_make_exact _ rfl _ _ 150 rfl 4 i0 (.bool false) Tryz.underlying150 hi hz0 _ _ (nT + 1) rfl rfl (by omega) (by omega) (by rw [hz2]; omega) (by omega) ?_; rw [hz1]))
      go_roundw
      case rel => exact ⟨k + 1, by omega, by go_num, HK3, HB3⟩
      case measure => simp [intOf]; omega
    · have HM0 : Hid (Mat W b0 N (List.replicate N.nN (row0 N))) := hid (by
        have h1 := hK.out
        rw [show k = N.nN by have := H1.out; omega] at h1
        exact h1.done)
      clear hK
      have hX := HX.out.below (HBel.out _ hbr.out)
      have c0 := hX.c0
      have lT := hX.lT
      rw [← H2.out] at c0 lT
      have cr := HM0.out.cell (n := 0) (by rw [← H1.out]; exact hnpos)
      rw [← H2.out] at cr
      obtain ⟨cb, hfb⟩ := HM0.out.bit (n := 0) (t := nT) (by rw [← H1.out]; exact hnpos) (by rw [← H2.out]; omega)
      have hcd : W.drew.cell? ⟨b0 + 1, nT, none⟩ = some (.bool (col (List.replicate N.nN (row0 N)) nT 0)) := cb
      have hfd : W.drew.frozen? ⟨b0 + 1, nT, none⟩ = false := hfb
      have HM1 : Hid (Mat ((W.setCell ⟨b0 + 1, nT, none⟩ (.bool true)).drew) b0 N (tail0 N)) := hid (by
        have h1 := mat_tail0 (HM0.out.below ((Below.refl _ W).drew)) (by rw [← H1.out]; exact hnpos)
        rw [← H2.out] at h1
        exact h1)
      have HB1 : Hid (Below b0 w ((W.setCell ⟨b0 + 1, nT, none⟩ (.bool true)).drew)) := hid (hbr.out.drew.setCell (p := ⟨b0 + 1, nT, none⟩) (by simp) _)
      have hti0 : (nT : Int) < (nT : Int) + 1 := by omega
      clear hX cb hfb
      go_wp2
      refine wp_region_last (fun w' => w'.cell? ⟨b0, 0, none⟩ = some (.slice (some ⟨b0 + 1, 0, none⟩) (nT + 1) (nT + 1)) ∧ w'.cell? ⟨gb, 0, none⟩ = some (.slice adT nT capT)) (by kernel_rfl) (by kernel_rfl) ⟨cr, c0⟩ (fun hHeld => ?_)
      simp only [cutLast, idle, lastOf]
      refine tkA 0 ?vv220 rfl ?hy220 hHeld ?_
      case hy220 => (intro w hSw; (try dsimp only at hSw); first | (go_simp; done) | (go_simp; with_reducible rfl))
      try simp only [zA, zC, Act.put, zD, zE, zF]
      refine tkA 1 ?vv87 rfl ?hy87 hHeld ?_
      case hy87 => (intro w hSw; (try dsimp only at hSw); first | (go_simp; done) | (go_simp; with_reducible rfl))
      try simp only [zA, zB, zC, Act.put, zD, zE, zF]
      refine tkA 2 ?vv88 rfl ?hy88 hHeld ?_
      case hy88 => (intro w hSw; (try dsimp only at hSw); first | (go_simp; done) | (go_simp; with_reducible rfl))
      try simp only [zA, zB, zC, Act.put, zD, zE, zF]
      refine tkA 3 ?vv89 rfl ?hy89 hHeld ?_
      case hy89 => (intro w hSw; (try dsimp only at hSw); first | (go_simp; done) | (go_simp; with_reducible rfl))
      try simp only [zA, zB, zC, Act.put, zD, zE, zF]
      refine tkA 4 ?vv90 rfl ?hy90 hHeld ?_
      case hy90 => (intro w hSw; (try dsimp only at hSw); first | (go_simp; done) | (go_simp; with_reducible rfl))
      try simp only [zA, zB, zC, Act.put, zD, zE, zF]
      refine tkA 5 ?vv91 rfl ?hy91 hHeld ?_
      case hy91 => (intro w hSw; (try dsimp only at hSw); first | (go_simp; done) | (go_simp; with_reducible rfl))
      try simp only [zA, zB, zC, Act.put, zD, zE, zF]
      refine tkA 6 ?vv92 rfl ?hy92 hHeld ?_
      case hy92 => (intro w hSw; (try dsimp only at hSw); first | (go_simp; done) | (go_simp; with_reducible rfl))
      try simp only [zA, zB, zC, Act.put, zD, zE, zF]
      refine tkA 7 ?vv93 rfl ?hy93 hHeld ?_
      case hy93 => (intro w hSw; (try dsimp only at hSw); first | (go_simp; done) | (go_simp; with_reducible rfl))
      try simp only [zA, zB, zC, Act.put, zD, zE, zF]
      refine tkA 8 ?vv94 rfl ?hy94 hHeld ?_
      case hy94 => (intro w hSw; (try dsimp only at hSw); first | (go_simp; done) | (go_simp; with_reducible rfl))
      try simp only [zA, zB, zC, Act.put, zD, zE, zF]
      refine tkA 9 ?vv214 rfl ?hy214 hHeld ?_
      case hy214 => (intro w hSw; (try dsimp only at hSw); first | (go_simp; done) | (go_simp; with_reducible rfl))
      try simp only [zA, zB, zC, Act.put]
      refine wpAnyH_done (by kernel_rfl) ?_ _
      clear hHeld
      show wpList _ _ _ _ _ _
      go_wp2
      clear hcd hfd cr c0 lT HM0 hti0 hbr
      obtain ⟨W1, hW1⟩ : ∃ W1, W1 = (W.setCell ⟨b0 + 1, nT, none⟩ (.bool true)).drew := ⟨_, rfl⟩
      rw [← hW1] at HM1 HB1 ⊢
      clear hW1
      obtain ⟨mx, hmx⟩ : ∃ mx, mx = nN * (nN + 1) := ⟨_, rfl⟩
      have hmc : (nN : Int) * ((nN : Int) + 1) = (mx : Int) := by rw [hmx]; simp
      have hmxb : mx ≤ 420 := by
        rw [hmx]
        have h1 : nN * (nN + 1) ≤ 20 * 21 := Nat.mul_le_mul hnle (by omega)
        omega
      have HIT0 : Hid (iter (tailRound N H (bAt E)) (mx + 1) (tail0 N) = tailsN N H (bAt E)) := hid (by unfold tailsN; rw [← H1.out, hmx])
      clear hmx
      go_loopw [9] (fun i wr => ∃ (k : Nat) (f : List (List Bool)), k ≤ mx + 1 ∧ i = .int .i64 k ∧ Hid (iter (tailRound N H (bAt E)) (mx + 1 - k) f = tailsN N H (bAt E)) ∧ Hid (Mat wr b0 N f) ∧ Hid (Below b0 w wr)) (fun i _ => mx + 1 - (intOf i).toNat)
      case atStart => exact ⟨0, _, Nat.zero_le _, rfl, HIT0, HM1, HB1⟩
      case round =>
        clear HM1 HB1 hlt hk HIT0
        obtain ⟨k, f, hk, rfl, hit, hM, hbr⟩ := hrel
        obtain ⟨W, hW⟩ : ∃ W, W = wr := ⟨_, rfl⟩
        subst hW
        have hX := HX.out.below (HBel.out _ hbr.out)
        have c2 := hX.c2
        have c3 := hX.c3
        rw [← H1.out] at c2
        rw [← H3.out] at c3
        have hsz : b0 ≤ W.heap.size := by have := hbr.out.size; have := H0.out; omega
        clear hX
        by_cases hlt : k ≤ mx
        · have HI : Hid (iter (tailRound N H (bAt E)) (mx - k) (tailRound N H (bAt E) f) = tailsN N H (bAt E)) := hid (by
            have h1 := hit.out
            rw [show mx + 1 - k = (mx - k) + 1 by omega] at h1
            exact h1)
          have hdk : decide ((k : Int) ≤ (mx : Int)) = true := decide_eq_true (by omega)
          clear hit
          go_wp2
          go_quiet (fail)
          go_wp2
          obtain ⟨W0', hW0'⟩ : ∃ W0', W0' = W.drewN nq := ⟨_, rfl⟩
          have hbd : Below W.heap.size W W0' := by rw [hW0']; exact below_draws _ _
          rw [← hW0']
          have HM1 : Hid (Mat W0' b0 N f) := hid (hM.out.below hbd)
          have HB1 : Hid (Below b0 w W0') := hid (hbr.out.trans (hbd.mono hsz))
          clear hW0' hbd hM hbr c2 c3 hsz hdk
          go_loopw [10] (fun i wr => ∃ (j : Nat) (f : List (List Bool)), j ≤ nR ∧ i = .int .i64 j ∧ Hid (iter (tailRound N H (bAt E)) (mx - k) ((N.rules.drop j).foldl (fun f r => tailB N H (bAt E) r.1 r.2 f) f) = tailsN N H (bAt E)) ∧ Hid (Mat wr b0 N f) ∧ Hid (Below b0 w wr)) (fun i _ => nR - (intOf i).toNat)
          case atStart => exact ⟨0, f, Nat.zero_le _, rfl, HI, HM1, HB1⟩
          case round =>
            clear HM1 HB1 HI
            obtain ⟨j, f, hj, rfl, hit, hM, hbr⟩ := hrel
            obtain ⟨W, hW⟩ : ∃ W, W = wr := ⟨_, rfl⟩
            subst hW
            have hX := HX.out.below (HBel.out _ hbr.out)
            have c2 := hX.c2
            have c3 := hX.c3
            rw [← H1.out] at c2
            rw [← H3.out] at c3
            by_cases hlj : j < nR
            · obtain ⟨q, hq⟩ := HF.out j hlj
              obtain ⟨nm, ws, adP, capP, d0w, d1w, hPsw, hix, hpr⟩ := HX.out.rule j q hq
              have d0 := (hbr.out.cell (p := ⟨gR, j * 2, none⟩) (by exact hgR)).trans d0w
              have d1 := (hbr.out.cell (p := ⟨gR, j * 2 + 1, none⟩) (by exact hgR)).trans d1w
              have hqn : q.1 < nN := by rw [H1.out]; exact hX.rep.ok.lt q (List.mem_of_getElem? hq)
              have hsz : b0 ≤ W.heap.size := by have := hbr.out.size; have := H0.out; omega
              have CI : Hid (∀ m, Calls Tryz.prog 84 #[.slice (some ⟨gN, 0, none⟩) nN capN, .string nm] (W.drewN m) fun e w' => e = .returned (.int .i64 q.1) ∧ w' = W.drewN m) := hid fun m => by
                rw [← hix, H1.out]
                exact (hX.below (below_draws W m)).index nm
              have HQ : Hid (N.rules[j]? = some q) := hid hq
              have HPO : Hid (PsOk N q.2) := hid (hX.rep.ok.ps (List.mem_of_getElem? hq))
              have hq8 := hX.rep.ok.parts q (List.mem_of_getElem? hq)
              obtain ⟨qn, hqn1⟩ : ∃ n, n = q.1 := ⟨_, rfl⟩
              rw [← hqn1] at hqn CI
              obtain ⟨np, hnp⟩ : ∃ n, n = q.2.length := ⟨_, rfl⟩
              have HNp : Hid (np = q.2.length) := hid hnp
              have HS : Hid (iter (tailRound N H (bAt E)) (mx - k) ((N.rules.drop (j + 1)).foldl (fun f r => tailB N H (bAt E) r.1 r.2 f) (tailB N H (bAt E) qn q.2 f)) = tailsN N H (bAt E)) := hid (by
                have h1 := hit.out
                rw [drop_cons HQ.out, List.foldl_cons] at h1
                rw [hqn1]
                exact h1)
              have HPs : Hid (RowV w (.slice adP q.2.length capP) (strs ws)) := hid hPsw
              have HPr : Hid (PsRep G ws q.2) := hid hpr
              rw [← hnp] at hq8 d1 HPs
              clear hX hPsw hix hpr hq hqn1 hnp hit d0w d1w
              go_wp2
              go_quiet ((go_at_call 84; exact (CI.out _).mono fun _ _ h => ⟨h.1, _, h.2⟩))
              go_wp2
              obtain ⟨W1, hW1⟩ : ∃ W1, W1 = W.drewN nq := ⟨_, rfl⟩
              have hbd : Below W.heap.size W W1 := by rw [hW1]; exact below_draws _ _
              rw [← hW1]
              have HM1 : Hid (Mat W1 b0 N f) := hid (hM.out.below hbd)
              have HB1 : Hid (Below b0 w W1) := hid (hbr.out.trans (hbd.mono hsz))
              clear hW1 hbd hM hbr c2 c3 d0 d1 hsz CI
              go_loopw [13] (fun i wr => ∃ (l : Nat) (f : List (List Bool)), l ≤ np ∧ i = .int .i64 l ∧ Hid (iter (tailRound N H (bAt E)) (mx - k) ((N.rules.drop (j + 1)).foldl (fun f r => tailB N H (bAt E) r.1 r.2 f) (tailB N H (bAt E) qn (q.2.drop l) f)) = tailsN N H (bAt E)) ∧
                Hid (Mat wr b0 N f) ∧ Hid (Below b0 w wr)) (fun i _ => np - (intOf i).toNat)
              case atStart => exact ⟨0, f, Nat.zero_le _, rfl, HS, HM1, HB1⟩
              case round =>
                clear HM1 HB1 HS
                obtain ⟨kp, f, hkp, rfl, hit, hM, hbr⟩ := hrel
                obtain ⟨W2, hW⟩ : ∃ W, W = wr := ⟨_, rfl⟩
                subst hW
                by_cases hll : kp < np
                · have hX := HX.out.below (HBel.out _ hbr.out)
                  have c2 := hX.c2
                  rw [← H1.out] at c2
                  have hsz : b0 ≤ W2.heap.size := by have := hbr.out.size; have := H0.out; omega
                  have hwl : ws.length = np := by rw [HNp.out]; exact HPr.out.1
                  have hPs := HPs.out.below (HBel.out _ hbr.out)
                  obtain ⟨gP, hadP, _, hcapP, ck⟩ := word_at hPs hwl hll
                  subst hadP
                  obtain ⟨p, hpk⟩ : ∃ p, q.2[kp]? = some p := ⟨_, List.getElem?_eq_getElem (by have := HNp.out; omega)⟩
                  have hpt := HPr.out.2 kp p hpk
                  obtain ⟨x, hx⟩ : ∃ x, x = nth ws kp := ⟨_, rfl⟩
                  rw [← hx] at ck hpt
                  have CX : Hid (∀ n, Calls Tryz.prog 84 #[.slice (some ⟨gN, 0, none⟩) nN capN, .string x] (W2.drewN n) fun e w' => e = .returned (.int .i64 (idxB G.names x)) ∧ w' = W2.drewN n) := hid fun n => by
                    rw [H1.out]
                    exact (hX.below (below_draws W2 n)).index x
                  have hmem := List.mem_of_getElem? hpk
                  cases p with
                  | tok u =>
                    have CY : Hid (∀ n, Calls Tryz.prog 84 #[.slice (some ⟨gN, 0, none⟩) nN capN, .string x] (W2.drewN n) fun e w' => e = .returned (.int .i64 (-1)) ∧ w' = W2.drewN n) := hid fun n => by
                      have := CX.out n
                      rwa [hpt.1] at this
                    have HS : Hid (iter (tailRound N H (bAt E)) (mx - k) ((N.rules.drop (j + 1)).foldl (fun f r => tailB N H (bAt E) r.1 r.2 f) (tailB N H (bAt E) qn (q.2.drop (kp + 1)) f)) = tailsN N H (bAt E)) := hid (by
                      have h1 := hit.out
                      rw [tailB_tok f hpk] at h1
                      exact h1)
                    clear hpt hmem CX hX hpk hx hit hwl hPs
                    go_wp2
                    go_quiet ((go_at_call 84; exact (CY.out _).mono fun _ _ h => ⟨h.1, _, h.2⟩))
                    go_wp2
                    have hbd := below_draws W2 nq
                    go_roundw
                    case rel => exact ⟨kp + 1, f, by omega, by go_num, HS, hid (hM.out.below hbd), hid (hbr.out.trans (hbd.mono hsz))⟩
                    case measure => simp [intOf]; omega
                  | nam m =>
                    have hm := HPO.out.1 m hmem
                    rw [← H1.out] at hm
                    have CY : Hid (∀ n, Calls Tryz.prog 84 #[.slice (some ⟨gN, 0, none⟩) nN capN, .string x] (W2.drewN n) fun e w' => e = .returned (.int .i64 m) ∧ w' = W2.drewN n) := hid fun n => by
                      have := CX.out n
                      rwa [show idxB G.names x = m from hpt] at this
                    have CS : Hid (∀ ad W', (0 < np - (kp + 1) → ad = some ⟨gP, kp + 1, none⟩) → Below W2.heap.size W2 W' → Calls Tryz.prog 126 #[.pointer (some ⟨gb, 0, none⟩), .slice ad (np - (kp + 1)) (capP - (kp + 1)), .slice (some ⟨bh, 0, none⟩) nN nN, .slice (some ⟨go, 0, none⟩) nN capo] W' fun e w' =>
                        e = .returned (.tuple #[.slice (some ⟨W'.heap.size, 0, none⟩) (nT + 1) (nT + 1), .bool (speakB H (bAt E) (q.2.drop (kp + 1)) (row0 N)).2]) ∧
                        w'.ownsRow W'.heap.size 4 1 (.slice (some ⟨W'.heap.size, 0, none⟩) (nT + 1) (nT + 1)) (nT + 1) (bools (speakB H (bAt E) (q.2.drop (kp + 1)) (row0 N)).1) ∧ Below W'.heap.size W' w') := hid fun ad W' had hb => by
                      rw [H1.out, H2.out]
                      exact speaks_any G N hX.rep W' B gb (hX.below hb).gr _ (ws.drop (kp + 1)) (q.2.drop (kp + 1)) (rowO_drop (hPs.below hb) hwl (by omega) ad had) (HPr.out.drop _) (HPO.out.drop _) (by rw [List.length_drop]; have := HNp.out; omega)
                        bh H ((HH.out.below (HBel.out _ hbr.out)).below hb) go capo E ((HE.out.below (HBel.out _ hbr.out)).below hb) HEl.out
                    have hsl := (speakB_spec HH.out.ok (bAt E) (q.2.drop (kp + 1)) (row0 N) (HPO.out.drop _) (by simp [row0])).1
                    obtain ⟨lr, hlr⟩ : ∃ l, l = speakB H (bAt E) (q.2.drop (kp + 1)) (row0 N) := ⟨_, rfl⟩
                    rw [← hlr] at CS hsl
                    have HS : Hid (iter (tailRound N H (bAt E)) (mx - k) ((N.rules.drop (j + 1)).foldl (fun f r => tailB N H (bAt E) r.1 r.2 f) (tailB N H (bAt E) qn (q.2.drop (kp + 1)) (f.set m (orT (mAt f m) lr.1 lr.2 (mAt f qn))))) = tailsN N H (bAt E)) := hid (by
                      have h1 := hit.out
                      rw [tailB_nam f hpk, ← hlr] at h1
                      exact h1)
                    obtain ⟨l, thr⟩ := lr
                    simp only at CS hsl HS
                    have HL : Hid (l.length = nT + 1) := hid (by rw [hsl, H2.out])
                    clear hpt hmem CX hX hpk hx hit hwl hlr hsl hPs
                    go_wp2
                    go_quiet ((go_at_call 84; exact (CY.out _).mono fun _ _ h => ⟨h.1, _, h.2⟩))
                    obtain ⟨AD, hAD⟩ : ∃ AD, (if capP = kp + 1 then some (⟨gP, 0, none⟩ : Addr) else some ⟨gP, kp + 1, none⟩) = AD := ⟨_, rfl⟩
                    have hADc : 0 < np - (kp + 1) → AD = some ⟨gP, kp + 1, none⟩ := fun h0 => by rw [← hAD, if_neg (by omega)]
                    have HADc : Hid _ := hid hADc
                    clear hADc
                    go_wp2_with (first
                      | (go_at_call 126; refine (CS.out _ _ HADc.out (below_draws _ _)).mono ?_; rintro e w2 ⟨rfl, hol, hb2⟩))
                    obtain ⟨bl, hbl⟩ : ∃ bl, bl = W2.heap.size := ⟨_, rfl⟩
                    have hblW : W2.heap.size ≤ bl := by omega
                    have hbe : (W2.drewN nq).heap.size = W2.heap.size := by simp
                    rw [hbe, ← hbl] at hol hb2
                    rw [← hbl]
                    have hbd : Below W2.heap.size W2 w2 := (below_draws W2 nq).trans (hb2.mono hblW)
                    have hblr : ∀ n, n < nN → ¬ b0 + 1 + n = bl := fun n hn => by
                      have := hM.out.lt (n := n) (by rw [← H1.out]; exact hn)
                      omega
                    have HBR : Hid (∀ n, n < nN → ¬ b0 + 1 + n = bl) := hid hblr
                    have HM1 : Hid (Mat w2 b0 N (rowUpto f m (fun t => (bAt (mAt f m) t || bAt l t) || (thr && bAt (mAt f qn) t)) 0)) := hid (by rw [rowUpto_zero]; exact hM.out.below hbd)
                    have HOL : Hid (w2.ownsRow bl 4 1 (.slice (some ⟨bl, 0, none⟩) (nT + 1) (nT + 1)) (nT + 1) (bools l)) := hid hol
                    have HB1 : Hid (Below b0 w w2) := hid (hbr.out.trans (hbd.mono hsz))
                    have HMh : Hid (MOk N f) := hid hM.out.ok
                    clear hbl hol hb2 hbd hM hbr c2 ck hblW hblr hsz CS hbe hAD CY
                    go_loopw [17] (fun i wr => ∃ (t : Nat), t ≤ nT + 1 ∧ i = .int .i64 t ∧ Hid (Mat wr b0 N (rowUpto f m (fun t => (bAt (mAt f m) t || bAt l t) || (thr && bAt (mAt f qn) t)) t)) ∧
                      Hid (wr.ownsRow bl 4 1 (.slice (some ⟨bl, 0, none⟩) (nT + 1) (nT + 1)) (nT + 1) (bools l)) ∧ Hid (Below b0 w wr)) (fun i _ => nT + 1 - (intOf i).toNat)
                    case atStart => exact ⟨0, Nat.zero_le _, rfl, HM1, HOL, HB1⟩
                    case round =>
                      clear HM1 HOL HB1
                      obtain ⟨t, ht, rfl, hM, hol, hbr⟩ := hrel
                      obtain ⟨W3, hW⟩ : ∃ W, W = wr := ⟨_, rfl⟩
                      subst hW
                      have hmN : m < N.nN := by rw [← H1.out]; exact hm
                      have hqN : qn < N.nN := by rw [← H1.out]; exact hqn
                      by_cases htl : t < nT + 1
                      · have hrow := HMh.out.2 m hmN
                        have hhl : m < f.length := by rw [HMh.out.1]; exact hmN
                        have cr := hM.out.cell hmN
                        have cn := hM.out.cell hqN
                        obtain ⟨cb, hfb⟩ := hM.out.bit (t := t) hmN (by rw [← H2.out]; exact htl)
                        obtain ⟨cc, _⟩ := hM.out.bit (t := t) hqN (by rw [← H2.out]; exact htl)
                        rw [bit_rowUpto hhl _ (by rw [hrow, ← H2.out]; exact htl)] at cb cc
                        obtain ⟨co, _⟩ := own_cell hol.out HL.out htl
                        have h3 := (hM.out.below ((Below.refl _ W3).drew)).put t hmN ((bAt (mAt f m) t || bAt l t) || (thr && bAt (mAt f qn) t))
                        rw [rowUpto_put hhl (fun t => (bAt (mAt f m) t || bAt l t) || (thr && bAt (mAt f qn) t)) (by rw [hrow, ← H2.out]; exact htl)] at h3
                        have hti : (t : Int) < (nT : Int) + 1 := by omega
                        have hne := HBR.out m hm
                        have HO3 : Hid (∀ v : Bool, (W3.drew.setCell ⟨b0 + 1 + m, t, none⟩ (.bool v)).ownsRow bl 4 1 (.slice (some ⟨bl, 0, none⟩) (nT + 1) (nT + 1)) (nT + 1) (bools l)) := hid fun v =>
                          ownsRow_setCell_other hol.out.drew (a := ⟨b0 + 1 + m, t, none⟩) (by simp [Value.ownBlock]; omega) (.bool v)
                        have HB3 : Hid (∀ v : Bool, Below b0 w (W3.drew.setCell ⟨b0 + 1 + m, t, none⟩ (.bool v))) := hid fun v => hbr.out.drew.setCell (p := ⟨b0 + 1 + m, t, none⟩) (by simp; omega) _
                        rw [← H2.out] at cr cn
                        obtain ⟨br, hbr1⟩ : ∃ br, br = b0 + 1 + m := ⟨_, rfl⟩
                        have hfm : W3.frozen? ⟨br, t, none⟩ = false := by rw [hbr1]; exact hfb
                        rw [show col f t m = bAt (mAt f m) t from rfl] at cb
                        rw [show col f t qn = bAt (mAt f qn) t from rfl] at cc
                        have cb' : W3.cell? ⟨br, t, none⟩ = some (.bool (bAt (mAt f m) t)) := by rw [hbr1]; exact cb
                        have cr' : W3.cell? ⟨b0, m, none⟩ = some (.slice (some ⟨br, 0, none⟩) (nT + 1) (nT + 1)) := by rw [hbr1]; exact cr
                        rw [← hbr1] at h3 HO3 HB3
                        clear cb cr
                        have cb := cb'
                        have cr := cr'
                        have hcd : W3.drew.cell? ⟨br, t, none⟩ = some (.bool (bAt (mAt f m) t)) := cb
                        have hfd : W3.drew.frozen? ⟨br, t, none⟩ = false := hfm
                        clear cb' cr' hbr1 hne hmN hqN hfb hfm hhl hrow
                        cases ho : bAt (mAt f m) t
                        · cases hc : bAt l t
                          · cases thr
                            · rw [ho] at cb hcd
                              rw [hc] at co
                              rw [ho, hc, Bool.false_or, Bool.false_and] at h3
                              have HM3 : Hid _ := hid h3
                              clear h3 ho hc cn cc
                              go_wp2
                              refine wp_region_last (fun w' => w'.cell? ⟨b0, m, none⟩ = some (.slice (some ⟨br, 0, none⟩) (nT + 1) (nT + 1)) ∧ w'.cell? ⟨br, t, none⟩ = some (.bool false) ∧ w'.cell? ⟨bl, t, none⟩ = some (.bool false)) (by kernel_rfl) (by kernel_rfl) ⟨cr, cb, co⟩ (fun hHeld => ?_)
                              simp only [cutLast, idle, lastOf]
                              refine tkA 0 ?vv221 rfl ?hy221 hHeld ?_
                              case hy221 => (intro w hSw; (try dsimp only at hSw); first | (go_simp; done) | (go_simp; with_reducible rfl))
                              try simp only [zA, zC, Act.put, zD, zE, zF]
                              refine tkA 1 ?vv95 rfl ?hy95 hHeld ?_
                              case hy95 => (intro w hSw; (try dsimp only at hSw); first | (go_simp; done) | (go_simp; with_reducible rfl))
                              try simp only [zA, zB, zC, Act.put, zD, zE, zF]
                              refine tkA 2 ?vv96 rfl ?hy96 hHeld ?_
                              case hy96 => (intro w hSw; (try dsimp only at hSw); first | (go_simp; done) | (go_simp; with_reducible rfl))
                              try simp only [zA, zB, zC, Act.put, zD, zE, zF]
                              refine tkA 3 ?vv97 rfl ?hy97 hHeld ?_
                              case hy97 => (intro w hSw; (try dsimp only at hSw); first | (go_simp; done) | (go_simp; with_reducible rfl))
                              try simp only [zA, zB, zC, Act.put, zD, zE, zF]
                              refine tkA 4 ?vv98 rfl ?hy98 hHeld ?_
                              case hy98 => (intro w hSw; (try dsimp only at hSw); first | (go_simp; done) | (go_simp; with_reducible rfl))
                              try simp only [zA, zB, zC, Act.put, zD, zE, zF]
                              refine tkA 5 ?vv99 rfl ?hy99 hHeld ?_
                              case hy99 => (intro w hSw; (try dsimp only at hSw); first | (go_simp; done) | (go_simp; with_reducible rfl))
                              try simp only [zA, zB, zC, Act.put, zD, zE, zF]
                              refine tkA 6 ?vv100 rfl ?hy100 hHeld ?_
                              case hy100 => (intro w hSw; (try dsimp only at hSw); first | (go_simp; done) | (go_simp; with_reducible rfl))
                              try simp only [zA, zB, zC, Act.put, zD, zE, zF]
                              refine tkA 7 ?vv101 rfl ?hy101 hHeld ?_
                              case hy101 => (intro w hSw; (try dsimp only at hSw); first | (go_simp; done) | (go_simp; with_reducible rfl))
                              try simp only [zA, zB, zC, Act.put, zD, zE, zF]
                              refine tkA 8 ?vv102 rfl ?hy102 hHeld ?_
                              case hy102 => (intro w hSw; (try dsimp only at hSw); first | (go_simp; done) | (go_simp; with_reducible rfl))
                              try simp only [zA, zB, zC, Act.put, zD, zE, zF]
                              refine tkA 9 ?vv103 rfl ?hy103 hHeld ?_
                              case hy103 => (intro w hSw; (try dsimp only at hSw); first | (go_simp; done) | (go_simp; with_reducible rfl))
                              try simp only [zA, zB, zC, Act.put, zD, zE, zF]
                              refine tkA 10 ?vv104 rfl ?hy104 hHeld ?_
                              case hy104 => (intro w hSw; (try dsimp only at hSw); first | (go_simp; done) | (go_simp; with_reducible rfl))
                              try simp only [zA, zB, zC, Act.put, zD, zE, zF]
                              refine tkA 11 ?vv105 rfl ?hy105 hHeld ?_
                              case hy105 => (intro w hSw; (try dsimp only at hSw); first | (go_simp; done) | (go_simp; with_reducible rfl))
                              try simp only [zA, zB, zC, Act.put, zD, zE, zF]
                              refine tkA 12 ?vv106 rfl ?hy106 hHeld ?_
                              case hy106 => (intro w hSw; (try dsimp only at hSw); first | (go_simp; done) | (go_simp; with_reducible rfl))
                              try simp only [zA, zB, zC, Act.put, zD, zE, zF]
                              refine tkA 13 ?vv107 rfl ?hy107 hHeld ?_
                              case hy107 => (intro w hSw; (try dsimp only at hSw); first | (go_simp; done) | (go_simp; with_reducible rfl))
                              try simp only [zA, zB, zC, Act.put, zD, zE, zF]
                              refine tkA 14 ?vv108 rfl ?hy108 hHeld ?_
                              case hy108 => (intro w hSw; (try dsimp only at hSw); first | (go_simp; done) | (go_simp; with_reducible rfl))
                              try simp only [zA, zB, zC, Act.put, zD, zE, zF]
                              refine tkA 15 ?vv109 rfl ?hy109 hHeld ?_
                              case hy109 => (intro w hSw; (try dsimp only at hSw); first | (go_simp; done) | (go_simp; with_reducible rfl))
                              try simp only [zA, zB, zC, Act.put, zD, zE, zF]
                              refine tkA 16 ?vv110 rfl ?hy110 hHeld ?_
                              case hy110 => (intro w hSw; (try dsimp only at hSw); first | (go_simp; done) | (go_simp; with_reducible rfl))
                              try simp only [zA, zB, zC, Act.put, zD, zE, zF]
                              refine tkA 17 ?vv111 rfl ?hy111 hHeld ?_
                              case hy111 => (intro w hSw; (try dsimp only at hSw); first | (go_simp; done) | (go_simp; with_reducible rfl))
                              try simp only [zA, zB, zC, Act.put, zD, zE, zF]
                              refine tkA 18 ?vv112 rfl ?hy112 hHeld ?_
                              case hy112 => (intro w hSw; (try dsimp only at hSw); first | (go_simp; done) | (go_simp; with_reducible rfl))
                              try simp only [zA, zB, zC, Act.put, zD, zE, zF]
                              refine tkA 19 ?vv113 rfl ?hy113 hHeld ?_
                              case hy113 => (intro w hSw; (try dsimp only at hSw); first | (go_simp; done) | (go_simp; with_reducible rfl))
                              try simp only [zA, zB, zC, Act.put, zD, zE, zF]
                              refine tkA 20 ?vv114 rfl ?hy114 hHeld ?_
                              case hy114 => (intro w hSw; (try dsimp only at hSw); first | (go_simp; done) | (go_simp; with_reducible rfl))
                              try simp only [zA, zB, zC, Act.put, zD, zE, zF]
                              refine wpAnyH_take (i := 21) (v := undef) rfl (by kernel_rfl) (by kernel_rfl) (by kernel_rfl) (fun _ _ _ h => h) (Or.inr ⟨by rfl, rfl⟩) hHeld ?_
                              try simp only [zA, zB, zC, Act.put, zD, zE, zF]
                              refine wpAnyH_take (i := 22) (v := undef) rfl (by kernel_rfl) (by kernel_rfl) (by kernel_rfl) (fun _ _ _ h => h) (Or.inr ⟨by rfl, rfl⟩) hHeld ?_
                              try simp only [zA, zB, zC, Act.put, zD, zE, zF]
                              refine wpAnyH_take (i := 23) (v := undef) rfl (by kernel_rfl) (by kernel_rfl) (by kernel_rfl) (fun _ _ _ h => h) (Or.inr ⟨by rfl, rfl⟩) hHeld ?_
                              try simp only [zA, zB, zC, Act.put, zD, zE, zF]
                              refine wpAnyH_take (i := 24) (v := undef) rfl (by kernel_rfl) (by kernel_rfl) (by kernel_rfl) (fun _ _ _ h => h) (Or.inr ⟨by rfl, rfl⟩) hHeld ?_
                              try simp only [zA, zB, zC, Act.put, zD, zE, zF]
                              refine wpAnyH_take (i := 25) (v := undef) rfl (by kernel_rfl) (by kernel_rfl) (by kernel_rfl) (fun _ _ _ h => h) (Or.inr ⟨by rfl, rfl⟩) hHeld ?_
                              try simp only [zA, zB, zC, Act.put, zD, zE, zF]
                              refine wpAnyH_take (i := 26) (v := undef) rfl (by kernel_rfl) (by kernel_rfl) (by kernel_rfl) (fun _ _ _ h => h) (Or.inr ⟨by rfl, rfl⟩) hHeld ?_
                              try simp only [zA, zB, zC, Act.put, zD, zE, zF]
                              refine wpAnyH_take (i := 27) (v := undef) rfl (by kernel_rfl) (by kernel_rfl) (by kernel_rfl) (fun _ _ _ h => h) (Or.inr ⟨by rfl, rfl⟩) hHeld ?_
                              try simp only [zA, zB, zC, Act.put, zD, zE, zF]
                              refine tkA 28 ?vv115 rfl ?hy115 hHeld ?_
                              case hy115 => (intro w hSw; (try dsimp only at hSw); first | (go_simp; done) | (go_simp; with_reducible rfl))
                              try simp only [zA, zB, zC, Act.put, zD, zE, zF]
                              refine tkA 29 ?vv116 rfl ?hy116 hHeld ?_
                              case hy116 => (intro w hSw; (try dsimp only at hSw); first | (go_simp; done) | (go_simp; with_reducible rfl))
                              try simp only [zA, zB, zC, Act.put, zD, zE, zF]
                              refine tkA 30 ?vv117 rfl ?hy117 hHeld ?_
                              case hy117 => (intro w hSw; (try dsimp only at hSw); first | (go_simp; done) | (go_simp; with_reducible rfl))
                              try simp only [zA, zB, zC, Act.put, zD, zE, zF]
                              refine tkA 31 ?vv215 rfl ?hy215 hHeld ?_
                              case hy215 => (intro w hSw; (try dsimp only at hSw); first | (go_simp; done) | (go_simp; with_reducible rfl))
                              try simp only [zA, zB, zC, Act.put]
                              refine wpAnyH_done (by kernel_rfl) ?_ _
                              clear hHeld
                              show wpList _ _ _ _ _ _
                              go_wp2
                              go_roundw
                              case rel => exact ⟨t + 1, by omega, by go_num, HM3, hid (HO3.out _), hid (HB3.out _)⟩
                              case measure => simp [intOf]; omega
                            · cases hd : bAt (mAt f qn) t
                              · rw [ho] at cb hcd
                                rw [hc] at co
                                rw [hd] at cc
                                rw [ho, hc, hd, Bool.false_or, Bool.true_and] at h3
                                have HM3 : Hid _ := hid h3
                                clear h3 ho hc hd
                                go_wp2
                                refine wp_region_last (fun w' => w'.cell? ⟨b0, m, none⟩ = some (.slice (some ⟨br, 0, none⟩) (nT + 1) (nT + 1)) ∧ w'.cell? ⟨br, t, none⟩ = some (.bool false) ∧ w'.cell? ⟨bl, t, none⟩ = some (.bool false) ∧ w'.cell? ⟨b0, qn, none⟩ = some (.slice (some ⟨b0 + 1 + qn, 0, none⟩) (nT + 1) (nT + 1)) ∧ w'.cell? ⟨b0 + 1 + qn, t, none⟩ = some (.bool false)) (by kernel_rfl) (by kernel_rfl) ⟨cr, cb, co, cn, cc⟩ (fun hHeld => ?_)
                                simp only [cutLast, idle, lastOf]
                                refine tkA 0 ?vv222 rfl ?hy222 hHeld ?_
                                case hy222 => (intro w hSw; (try dsimp only at hSw); first | (go_simp; done) | (go_simp; with_reducible rfl))
                                try simp only [zA, zC, Act.put, zD, zE, zF]
                                refine tkA 1 ?vv118 rfl ?hy118 hHeld ?_
                                case hy118 => (intro w hSw; (try dsimp only at hSw); first | (go_simp; done) | (go_simp; with_reducible rfl))
                                try simp only [zA, zB, zC, Act.put, zD, zE, zF]
                                refine tkA 2 ?vv119 rfl ?hy119 hHeld ?_
                                case hy119 => (intro w hSw; (try dsimp only at hSw); first | (go_simp; done) | (go_simp; with_reducible rfl))
                                try simp only [zA, zB, zC, Act.put, zD, zE, zF]
                                refine tkA 3 ?vv120 rfl ?hy120 hHeld ?_
                                case hy120 => (intro w hSw; (try dsimp only at hSw); first | (go_simp; done) | (go_simp; with_reducible rfl))
                                try simp only [zA, zB, zC, Act.put, zD, zE, zF]
                                refine tkA 4 ?vv121 rfl ?hy121 hHeld ?_
                                case hy121 => (intro w hSw; (try dsimp only at hSw); first | (go_simp; done) | (go_simp; with_reducible rfl))
                                try simp only [zA, zB, zC, Act.put, zD, zE, zF]
                                refine tkA 5 ?vv122 rfl ?hy122 hHeld ?_
                                case hy122 => (intro w hSw; (try dsimp only at hSw); first | (go_simp; done) | (go_simp; with_reducible rfl))
                                try simp only [zA, zB, zC, Act.put, zD, zE, zF]
                                refine tkA 6 ?vv123 rfl ?hy123 hHeld ?_
                                case hy123 => (intro w hSw; (try dsimp only at hSw); first | (go_simp; done) | (go_simp; with_reducible rfl))
                                try simp only [zA, zB, zC, Act.put, zD, zE, zF]
                                refine tkA 7 ?vv124 rfl ?hy124 hHeld ?_
                                case hy124 => (intro w hSw; (try dsimp only at hSw); first | (go_simp; done) | (go_simp; with_reducible rfl))
                                try simp only [zA, zB, zC, Act.put, zD, zE, zF]
                                refine tkA 8 ?vv125 rfl ?hy125 hHeld ?_
                                case hy125 => (intro w hSw; (try dsimp only at hSw); first | (go_simp; done) | (go_simp; with_reducible rfl))
                                try simp only [zA, zB, zC, Act.put, zD, zE, zF]
                                refine tkA 9 ?vv126 rfl ?hy126 hHeld ?_
                                case hy126 => (intro w hSw; (try dsimp only at hSw); first | (go_simp; done) | (go_simp; with_reducible rfl))
                                try simp only [zA, zB, zC, Act.put, zD, zE, zF]
                                refine tkA 10 ?vv127 rfl ?hy127 hHeld ?_
                                case hy127 => (intro w hSw; (try dsimp only at hSw); first | (go_simp; done) | (go_simp; with_reducible rfl))
                                try simp only [zA, zB, zC, Act.put, zD, zE, zF]
                                refine tkA 11 ?vv128 rfl ?hy128 hHeld ?_
                                case hy128 => (intro w hSw; (try dsimp only at hSw); first | (go_simp; done) | (go_simp; with_reducible rfl))
                                try simp only [zA, zB, zC, Act.put, zD, zE, zF]
                                refine tkA 12 ?vv129 rfl ?hy129 hHeld ?_
                                case hy129 => (intro w hSw; (try dsimp only at hSw); first | (go_simp; done) | (go_simp; with_reducible rfl))
                                try simp only [zA, zB, zC, Act.put, zD, zE, zF]
                                refine tkA 13 ?vv130 rfl ?hy130 hHeld ?_
                                case hy130 => (intro w hSw; (try dsimp only at hSw); first | (go_simp; done) | (go_simp; with_reducible rfl))
                                try simp only [zA, zB, zC, Act.put, zD, zE, zF]
                                refine tkA 14 ?vv131 rfl ?hy131 hHeld ?_
                                case hy131 => (intro w hSw; (try dsimp only at hSw); first | (go_simp; done) | (go_simp; with_reducible rfl))
                                try simp only [zA, zB, zC, Act.put, zD, zE, zF]
                                refine tkA 15 ?vv132 rfl ?hy132 hHeld ?_
                                case hy132 => (intro w hSw; (try dsimp only at hSw); first | (go_simp; done) | (go_simp; with_reducible rfl))
                                try simp only [zA, zB, zC, Act.put, zD, zE, zF]
                                refine tkA 16 ?vv133 rfl ?hy133 hHeld ?_
                                case hy133 => (intro w hSw; (try dsimp only at hSw); first | (go_simp; done) | (go_simp; with_reducible rfl))
                                try simp only [zA, zB, zC, Act.put, zD, zE, zF]
                                refine tkA 17 ?vv134 rfl ?hy134 hHeld ?_
                                case hy134 => (intro w hSw; (try dsimp only at hSw); first | (go_simp; done) | (go_simp; with_reducible rfl))
                                try simp only [zA, zB, zC, Act.put, zD, zE, zF]
                                refine tkA 18 ?vv135 rfl ?hy135 hHeld ?_
                                case hy135 => (intro w hSw; (try dsimp only at hSw); first | (go_simp; done) | (go_simp; with_reducible rfl))
                                try simp only [zA, zB, zC, Act.put, zD, zE, zF]
                                refine tkA 19 ?vv136 rfl ?hy136 hHeld ?_
                                case hy136 => (intro w hSw; (try dsimp only at hSw); first | (go_simp; done) | (go_simp; with_reducible rfl))
                                try simp only [zA, zB, zC, Act.put, zD, zE, zF]
                                refine tkA 20 ?vv137 rfl ?hy137 hHeld ?_
                                case hy137 => (intro w hSw; (try dsimp only at hSw); first | (go_simp; done) | (go_simp; with_reducible rfl))
                                try simp only [zA, zB, zC, Act.put, zD, zE, zF]
                                refine tkA 21 ?vv138 rfl ?hy138 hHeld ?_
                                case hy138 => (intro w hSw; (try dsimp only at hSw); first | (go_simp; done) | (go_simp; with_reducible rfl))
                                try simp only [zA, zB, zC, Act.put, zD, zE, zF]
                                refine tkA 22 ?vv139 rfl ?hy139 hHeld ?_
                                case hy139 => (intro w hSw; (try dsimp only at hSw); first | (go_simp; done) | (go_simp; with_reducible rfl))
                                try simp only [zA, zB, zC, Act.put, zD, zE, zF]
                                refine tkA 23 ?vv140 rfl ?hy140 hHeld ?_
                                case hy140 => (intro w hSw; (try dsimp only at hSw); first | (go_simp; done) | (go_simp; with_reducible rfl))
                                try simp only [zA, zB, zC, Act.put, zD, zE, zF]
                                refine tkA 24 ?vv141 rfl ?hy141 hHeld ?_
                                case hy141 => (intro w hSw; (try dsimp only at hSw); first | (go_simp; done) | (go_simp; with_reducible rfl))
                                try simp only [zA, zB, zC, Act.put, zD, zE, zF]
                                refine tkA 25 ?vv142 rfl ?hy142 hHeld ?_
                                case hy142 => (intro w hSw; (try dsimp only at hSw); first | (go_simp; done) | (go_simp; with_reducible rfl))
                                try simp only [zA, zB, zC, Act.put, zD, zE, zF]
                                refine tkA 26 ?vv143 rfl ?hy143 hHeld ?_
                                case hy143 => (intro w hSw; (try dsimp only at hSw); first | (go_simp; done) | (go_simp; with_reducible rfl))
                                try simp only [zA, zB, zC, Act.put, zD, zE, zF]
                                refine tkA 27 ?vv144 rfl ?hy144 hHeld ?_
                                case hy144 => (intro w hSw; (try dsimp only at hSw); first | (go_simp; done) | (go_simp; with_reducible rfl))
                                try simp only [zA, zB, zC, Act.put, zD, zE, zF]
                                refine tkA 28 ?vv145 rfl ?hy145 hHeld ?_
                                case hy145 => (intro w hSw; (try dsimp only at hSw); first | (go_simp; done) | (go_simp; with_reducible rfl))
                                try simp only [zA, zB, zC, Act.put, zD, zE, zF]
                                refine tkA 29 ?vv146 rfl ?hy146 hHeld ?_
                                case hy146 => (intro w hSw; (try dsimp only at hSw); first | (go_simp; done) | (go_simp; with_reducible rfl))
                                try simp only [zA, zB, zC, Act.put, zD, zE, zF]
                                refine tkA 30 ?vv147 rfl ?hy147 hHeld ?_
                                case hy147 => (intro w hSw; (try dsimp only at hSw); first | (go_simp; done) | (go_simp; with_reducible rfl))
                                try simp only [zA, zB, zC, Act.put, zD, zE, zF]
                                refine tkA 31 ?vv216 rfl ?hy216 hHeld ?_
                                case hy216 => (intro w hSw; (try dsimp only at hSw); first | (go_simp; done) | (go_simp; with_reducible rfl))
                                try simp only [zA, zB, zC, Act.put]
                                refine wpAnyH_done (by kernel_rfl) ?_ _
                                clear hHeld
                                show wpList _ _ _ _ _ _
                                go_wp2
                                go_roundw
                                case rel => exact ⟨t + 1, by omega, by go_num, HM3, hid (HO3.out _), hid (HB3.out _)⟩
                                case measure => simp [intOf]; omega
                              · rw [ho] at cb hcd
                                rw [hc] at co
                                rw [hd] at cc
                                rw [ho, hc, hd, Bool.false_or, Bool.true_and] at h3
                                have HM3 : Hid _ := hid h3
                                clear h3 ho hc hd
                                go_wp2
                                refine wp_region_last (fun w' => w'.cell? ⟨b0, m, none⟩ = some (.slice (some ⟨br, 0, none⟩) (nT + 1) (nT + 1)) ∧ w'.cell? ⟨br, t, none⟩ = some (.bool false) ∧ w'.cell? ⟨bl, t, none⟩ = some (.bool false) ∧ w'.cell? ⟨b0, qn, none⟩ = some (.slice (some ⟨b0 + 1 + qn, 0, none⟩) (nT + 1) (nT + 1)) ∧ w'.cell? ⟨b0 + 1 + qn, t, none⟩ = some (.bool true)) (by kernel_rfl) (by kernel_rfl) ⟨cr, cb, co, cn, cc⟩ (fun hHeld => ?_)
                                simp only [cutLast, idle, lastOf]
                                refine tkA 0 ?vv223 rfl ?hy223 hHeld ?_
                                case hy223 => (intro w hSw; (try dsimp only at hSw); first | (go_simp; done) | (go_simp; with_reducible rfl))
                                try simp only [zA, zC, Act.put, zD, zE, zF]
                                refine tkA 1 ?vv148 rfl ?hy148 hHeld ?_
                                case hy148 => (intro w hSw; (try dsimp only at hSw); first | (go_simp; done) | (go_simp; with_reducible rfl))
                                try simp only [zA, zB, zC, Act.put, zD, zE, zF]
                                refine tkA 2 ?vv149 rfl ?hy149 hHeld ?_
                                case hy149 => (intro w hSw; (try dsimp only at hSw); first | (go_simp; done) | (go_simp; with_reducible rfl))
                                try simp only [zA, zB, zC, Act.put, zD, zE, zF]
                                refine tkA 3 ?vv150 rfl ?hy150 hHeld ?_
                                case hy150 => (intro w hSw; (try dsimp only at hSw); first | (go_simp; done) | (go_simp; with_reducible rfl))
                                try simp only [zA, zB, zC, Act.put, zD, zE, zF]
                                refine tkA 4 ?vv151 rfl ?hy151 hHeld ?_
                                case hy151 => (intro w hSw; (try dsimp only at hSw); first | (go_simp; done) | (go_simp; with_reducible rfl))
                                try simp only [zA, zB, zC, Act.put, zD, zE, zF]
                                refine tkA 5 ?vv152 rfl ?hy152 hHeld ?_
                                case hy152 => (intro w hSw; (try dsimp only at hSw); first | (go_simp; done) | (go_simp; with_reducible rfl))
                                try simp only [zA, zB, zC, Act.put, zD, zE, zF]
                                refine tkA 6 ?vv153 rfl ?hy153 hHeld ?_
                                case hy153 => (intro w hSw; (try dsimp only at hSw); first | (go_simp; done) | (go_simp; with_reducible rfl))
                                try simp only [zA, zB, zC, Act.put, zD, zE, zF]
                                refine tkA 7 ?vv154 rfl ?hy154 hHeld ?_
                                case hy154 => (intro w hSw; (try dsimp only at hSw); first | (go_simp; done) | (go_simp; with_reducible rfl))
                                try simp only [zA, zB, zC, Act.put, zD, zE, zF]
                                refine tkA 8 ?vv155 rfl ?hy155 hHeld ?_
                                case hy155 => (intro w hSw; (try dsimp only at hSw); first | (go_simp; done) | (go_simp; with_reducible rfl))
                                try simp only [zA, zB, zC, Act.put, zD, zE, zF]
                                refine tkA 9 ?vv156 rfl ?hy156 hHeld ?_
                                case hy156 => (intro w hSw; (try dsimp only at hSw); first | (go_simp; done) | (go_simp; with_reducible rfl))
                                try simp only [zA, zB, zC, Act.put, zD, zE, zF]
                                refine tkA 10 ?vv157 rfl ?hy157 hHeld ?_
                                case hy157 => (intro w hSw; (try dsimp only at hSw); first | (go_simp; done) | (go_simp; with_reducible rfl))
                                try simp only [zA, zB, zC, Act.put, zD, zE, zF]
                                refine tkA 11 ?vv158 rfl ?hy158 hHeld ?_
                                case hy158 => (intro w hSw; (try dsimp only at hSw); first | (go_simp; done) | (go_simp; with_reducible rfl))
                                try simp only [zA, zB, zC, Act.put, zD, zE, zF]
                                refine tkA 12 ?vv159 rfl ?hy159 hHeld ?_
                                case hy159 => (intro w hSw; (try dsimp only at hSw); first | (go_simp; done) | (go_simp; with_reducible rfl))
                                try simp only [zA, zB, zC, Act.put, zD, zE, zF]
                                refine tkA 13 ?vv160 rfl ?hy160 hHeld ?_
                                case hy160 => (intro w hSw; (try dsimp only at hSw); first | (go_simp; done) | (go_simp; with_reducible rfl))
                                try simp only [zA, zB, zC, Act.put, zD, zE, zF]
                                refine tkA 14 ?vv161 rfl ?hy161 hHeld ?_
                                case hy161 => (intro w hSw; (try dsimp only at hSw); first | (go_simp; done) | (go_simp; with_reducible rfl))
                                try simp only [zA, zB, zC, Act.put, zD, zE, zF]
                                refine tkA 15 ?vv162 rfl ?hy162 hHeld ?_
                                case hy162 => (intro w hSw; (try dsimp only at hSw); first | (go_simp; done) | (go_simp; with_reducible rfl))
                                try simp only [zA, zB, zC, Act.put, zD, zE, zF]
                                refine tkA 16 ?vv163 rfl ?hy163 hHeld ?_
                                case hy163 => (intro w hSw; (try dsimp only at hSw); first | (go_simp; done) | (go_simp; with_reducible rfl))
                                try simp only [zA, zB, zC, Act.put, zD, zE, zF]
                                refine tkA 17 ?vv164 rfl ?hy164 hHeld ?_
                                case hy164 => (intro w hSw; (try dsimp only at hSw); first | (go_simp; done) | (go_simp; with_reducible rfl))
                                try simp only [zA, zB, zC, Act.put, zD, zE, zF]
                                refine tkA 18 ?vv165 rfl ?hy165 hHeld ?_
                                case hy165 => (intro w hSw; (try dsimp only at hSw); first | (go_simp; done) | (go_simp; with_reducible rfl))
                                try simp only [zA, zB, zC, Act.put, zD, zE, zF]
                                refine tkA 19 ?vv166 rfl ?hy166 hHeld ?_
                                case hy166 => (intro w hSw; (try dsimp only at hSw); first | (go_simp; done) | (go_simp; with_reducible rfl))
                                try simp only [zA, zB, zC, Act.put, zD, zE, zF]
                                refine tkA 20 ?vv167 rfl ?hy167 hHeld ?_
                                case hy167 => (intro w hSw; (try dsimp only at hSw); first | (go_simp; done) | (go_simp; with_reducible rfl))
                                try simp only [zA, zB, zC, Act.put, zD, zE, zF]
                                refine tkA 21 ?vv168 rfl ?hy168 hHeld ?_
                                case hy168 => (intro w hSw; (try dsimp only at hSw); first | (go_simp; done) | (go_simp; with_reducible rfl))
                                try simp only [zA, zB, zC, Act.put, zD, zE, zF]
                                refine tkA 22 ?vv169 rfl ?hy169 hHeld ?_
                                case hy169 => (intro w hSw; (try dsimp only at hSw); first | (go_simp; done) | (go_simp; with_reducible rfl))
                                try simp only [zA, zB, zC, Act.put, zD, zE, zF]
                                refine tkA 23 ?vv170 rfl ?hy170 hHeld ?_
                                case hy170 => (intro w hSw; (try dsimp only at hSw); first | (go_simp; done) | (go_simp; with_reducible rfl))
                                try simp only [zA, zB, zC, Act.put, zD, zE, zF]
                                refine tkA 24 ?vv171 rfl ?hy171 hHeld ?_
                                case hy171 => (intro w hSw; (try dsimp only at hSw); first | (go_simp; done) | (go_simp; with_reducible rfl))
                                try simp only [zA, zB, zC, Act.put, zD, zE, zF]
                                refine tkA 25 ?vv172 rfl ?hy172 hHeld ?_
                                case hy172 => (intro w hSw; (try dsimp only at hSw); first | (go_simp; done) | (go_simp; with_reducible rfl))
                                try simp only [zA, zB, zC, Act.put, zD, zE, zF]
                                refine tkA 26 ?vv173 rfl ?hy173 hHeld ?_
                                case hy173 => (intro w hSw; (try dsimp only at hSw); first | (go_simp; done) | (go_simp; with_reducible rfl))
                                try simp only [zA, zB, zC, Act.put, zD, zE, zF]
                                refine tkA 27 ?vv174 rfl ?hy174 hHeld ?_
                                case hy174 => (intro w hSw; (try dsimp only at hSw); first | (go_simp; done) | (go_simp; with_reducible rfl))
                                try simp only [zA, zB, zC, Act.put, zD, zE, zF]
                                refine tkA 28 ?vv175 rfl ?hy175 hHeld ?_
                                case hy175 => (intro w hSw; (try dsimp only at hSw); first | (go_simp; done) | (go_simp; with_reducible rfl))
                                try simp only [zA, zB, zC, Act.put, zD, zE, zF]
                                refine tkA 29 ?vv176 rfl ?hy176 hHeld ?_
                                case hy176 => (intro w hSw; (try dsimp only at hSw); first | (go_simp; done) | (go_simp; with_reducible rfl))
                                try simp only [zA, zB, zC, Act.put, zD, zE, zF]
                                refine tkA 30 ?vv177 rfl ?hy177 hHeld ?_
                                case hy177 => (intro w hSw; (try dsimp only at hSw); first | (go_simp; done) | (go_simp; with_reducible rfl))
                                try simp only [zA, zB, zC, Act.put, zD, zE, zF]
                                refine tkA 31 ?vv217 rfl ?hy217 hHeld ?_
                                case hy217 => (intro w hSw; (try dsimp only at hSw); first | (go_simp; done) | (go_simp; with_reducible rfl))
                                try simp only [zA, zB, zC, Act.put]
                                refine wpAnyH_done (by kernel_rfl) ?_ _
                                clear hHeld
                                show wpList _ _ _ _ _ _
                                go_wp2
                                go_roundw
                                case rel => exact ⟨t + 1, by omega, by go_num, HM3, hid (HO3.out _), hid (HB3.out _)⟩
                                case measure => simp [intOf]; omega
                          · rw [ho] at cb hcd
                            rw [hc] at co
                            rw [ho, hc, Bool.false_or, Bool.true_or] at h3
                            have HM3 : Hid _ := hid h3
                            clear h3 ho hc cn cc
                            go_wp2
                            refine wp_region_last (fun w' => w'.cell? ⟨b0, m, none⟩ = some (.slice (some ⟨br, 0, none⟩) (nT + 1) (nT + 1)) ∧ w'.cell? ⟨br, t, none⟩ = some (.bool false) ∧ w'.cell? ⟨bl, t, none⟩ = some (.bool true)) (by kernel_rfl) (by kernel_rfl) ⟨cr, cb, co⟩ (fun hHeld => ?_)
                            simp only [cutLast, idle, lastOf]
                            refine tkA 0 ?vv224 rfl ?hy224 hHeld ?_
                            case hy224 => (intro w hSw; (try dsimp only at hSw); first | (go_simp; done) | (go_simp; with_reducible rfl))
                            try simp only [zA, zC, Act.put, zD, zE, zF]
                            refine tkA 1 ?vv178 rfl ?hy178 hHeld ?_
                            case hy178 => (intro w hSw; (try dsimp only at hSw); first | (go_simp; done) | (go_simp; with_reducible rfl))
                            try simp only [zA, zB, zC, Act.put, zD, zE, zF]
                            refine tkA 2 ?vv179 rfl ?hy179 hHeld ?_
                            case hy179 => (intro w hSw; (try dsimp only at hSw); first | (go_simp; done) | (go_simp; with_reducible rfl))
                            try simp only [zA, zB, zC, Act.put, zD, zE, zF]
                            refine tkA 3 ?vv180 rfl ?hy180 hHeld ?_
                            case hy180 => (intro w hSw; (try dsimp only at hSw); first | (go_simp; done) | (go_simp; with_reducible rfl))
                            try simp only [zA, zB, zC, Act.put, zD, zE, zF]
                            refine tkA 4 ?vv181 rfl ?hy181 hHeld ?_
                            case hy181 => (intro w hSw; (try dsimp only at hSw); first | (go_simp; done) | (go_simp; with_reducible rfl))
                            try simp only [zA, zB, zC, Act.put, zD, zE, zF]
                            refine tkA 5 ?vv182 rfl ?hy182 hHeld ?_
                            case hy182 => (intro w hSw; (try dsimp only at hSw); first | (go_simp; done) | (go_simp; with_reducible rfl))
                            try simp only [zA, zB, zC, Act.put, zD, zE, zF]
                            refine tkA 6 ?vv183 rfl ?hy183 hHeld ?_
                            case hy183 => (intro w hSw; (try dsimp only at hSw); first | (go_simp; done) | (go_simp; with_reducible rfl))
                            try simp only [zA, zB, zC, Act.put, zD, zE, zF]
                            refine tkA 7 ?vv184 rfl ?hy184 hHeld ?_
                            case hy184 => (intro w hSw; (try dsimp only at hSw); first | (go_simp; done) | (go_simp; with_reducible rfl))
                            try simp only [zA, zB, zC, Act.put, zD, zE, zF]
                            refine tkA 8 ?vv185 rfl ?hy185 hHeld ?_
                            case hy185 => (intro w hSw; (try dsimp only at hSw); first | (go_simp; done) | (go_simp; with_reducible rfl))
                            try simp only [zA, zB, zC, Act.put, zD, zE, zF]
                            refine tkA 9 ?vv186 rfl ?hy186 hHeld ?_
                            case hy186 => (intro w hSw; (try dsimp only at hSw); first | (go_simp; done) | (go_simp; with_reducible rfl))
                            try simp only [zA, zB, zC, Act.put, zD, zE, zF]
                            refine tkA 10 ?vv187 rfl ?hy187 hHeld ?_
                            case hy187 => (intro w hSw; (try dsimp only at hSw); first | (go_simp; done) | (go_simp; with_reducible rfl))
                            try simp only [zA, zB, zC, Act.put, zD, zE, zF]
                            refine tkA 11 ?vv188 rfl ?hy188 hHeld ?_
                            case hy188 => (intro w hSw; (try dsimp only at hSw); first | (go_simp; done) | (go_simp; with_reducible rfl))
                            try simp only [zA, zB, zC, Act.put, zD, zE, zF]
                            refine tkA 12 ?vv189 rfl ?hy189 hHeld ?_
                            case hy189 => (intro w hSw; (try dsimp only at hSw); first | (go_simp; done) | (go_simp; with_reducible rfl))
                            try simp only [zA, zB, zC, Act.put, zD, zE, zF]
                            refine tkA 13 ?vv190 rfl ?hy190 hHeld ?_
                            case hy190 => (intro w hSw; (try dsimp only at hSw); first | (go_simp; done) | (go_simp; with_reducible rfl))
                            try simp only [zA, zB, zC, Act.put, zD, zE, zF]
                            refine tkA 14 ?vv191 rfl ?hy191 hHeld ?_
                            case hy191 => (intro w hSw; (try dsimp only at hSw); first | (go_simp; done) | (go_simp; with_reducible rfl))
                            try simp only [zA, zB, zC, Act.put, zD, zE, zF]
                            refine tkA 15 ?vv192 rfl ?hy192 hHeld ?_
                            case hy192 => (intro w hSw; (try dsimp only at hSw); first | (go_simp; done) | (go_simp; with_reducible rfl))
                            try simp only [zA, zB, zC, Act.put, zD, zE, zF]
                            refine tkA 16 ?vv193 rfl ?hy193 hHeld ?_
                            case hy193 => (intro w hSw; (try dsimp only at hSw); first | (go_simp; done) | (go_simp; with_reducible rfl))
                            try simp only [zA, zB, zC, Act.put, zD, zE, zF]
                            refine tkA 17 ?vv194 rfl ?hy194 hHeld ?_
                            case hy194 => (intro w hSw; (try dsimp only at hSw); first | (go_simp; done) | (go_simp; with_reducible rfl))
                            try simp only [zA, zB, zC, Act.put, zD, zE, zF]
                            refine tkA 18 ?vv195 rfl ?hy195 hHeld ?_
                            case hy195 => (intro w hSw; (try dsimp only at hSw); first | (go_simp; done) | (go_simp; with_reducible rfl))
                            try simp only [zA, zB, zC, Act.put, zD, zE, zF]
                            refine wpAnyH_take (i := 19) (v := undef) rfl (by kernel_rfl) (by kernel_rfl) (by kernel_rfl) (fun _ _ _ h => h) (Or.inr ⟨by rfl, rfl⟩) hHeld ?_
                            try simp only [zA, zB, zC, Act.put, zD, zE, zF]
                            refine wpAnyH_take (i := 20) (v := undef) rfl (by kernel_rfl) (by kernel_rfl) (by kernel_rfl) (fun _ _ _ h => h) (Or.inr ⟨by rfl, rfl⟩) hHeld ?_
                            try simp only [zA, zB, zC, Act.put, zD, zE, zF]
                            refine wpAnyH_take (i := 21) (v := undef) rfl (by kernel_rfl) (by kernel_rfl) (by kernel_rfl) (fun _ _ _ h => h) (Or.inr ⟨by rfl, rfl⟩) hHeld ?_
                            try simp only [zA, zB, zC, Act.put, zD, zE, zF]
                            refine wpAnyH_take (i := 22) (v := undef) rfl (by kernel_rfl) (by kernel_rfl) (by kernel_rfl) (fun _ _ _ h => h) (Or.inr ⟨by rfl, rfl⟩) hHeld ?_
                            try simp only [zA, zB, zC, Act.put, zD, zE, zF]
                            refine wpAnyH_take (i := 23) (v := undef) rfl (by kernel_rfl) (by kernel_rfl) (by kernel_rfl) (fun _ _ _ h => h) (Or.inr ⟨by rfl, rfl⟩) hHeld ?_
                            try simp only [zA, zB, zC, Act.put, zD, zE, zF]
                            refine wpAnyH_take (i := 24) (v := undef) rfl (by kernel_rfl) (by kernel_rfl) (by kernel_rfl) (fun _ _ _ h => h) (Or.inr ⟨by rfl, rfl⟩) hHeld ?_
                            try simp only [zA, zB, zC, Act.put, zD, zE, zF]
                            refine wpAnyH_take (i := 25) (v := undef) rfl (by kernel_rfl) (by kernel_rfl) (by kernel_rfl) (fun _ _ _ h => h) (Or.inr ⟨by rfl, rfl⟩) hHeld ?_
                            try simp only [zA, zB, zC, Act.put, zD, zE, zF]
                            refine wpAnyH_take (i := 26) (v := undef) rfl (by kernel_rfl) (by kernel_rfl) (by kernel_rfl) (fun _ _ _ h => h) (Or.inr ⟨by rfl, rfl⟩) hHeld ?_
                            try simp only [zA, zB, zC, Act.put, zD, zE, zF]
                            refine wpAnyH_take (i := 27) (v := undef) rfl (by kernel_rfl) (by kernel_rfl) (by kernel_rfl) (fun _ _ _ h => h) (Or.inr ⟨by rfl, rfl⟩) hHeld ?_
                            try simp only [zA, zB, zC, Act.put, zD, zE, zF]
                            refine wpAnyH_take (i := 28) (v := undef) rfl (by kernel_rfl) (by kernel_rfl) (by kernel_rfl) (fun _ _ _ h => h) (Or.inr ⟨by rfl, rfl⟩) hHeld ?_
                            try simp only [zA, zB, zC, Act.put, zD, zE, zF]
                            refine tkA 29 ?vv196 rfl ?hy196 hHeld ?_
                            case hy196 => (intro w hSw; (try dsimp only at hSw); first | (go_simp; done) | (go_simp; with_reducible rfl))
                            try simp only [zA, zB, zC, Act.put, zD, zE, zF]
                            refine tkA 30 ?vv197 rfl ?hy197 hHeld ?_
                            case hy197 => (intro w hSw; (try dsimp only at hSw); first | (go_simp; done) | (go_simp; with_reducible rfl))
                            try simp only [zA, zB, zC, Act.put, zD, zE, zF]
                            refine tkA 31 ?vv218 rfl ?hy218 hHeld ?_
                            case hy218 => (intro w hSw; (try dsimp only at hSw); first | (go_simp; done) | (go_simp; with_reducible rfl))
                            try simp only [zA, zB, zC, Act.put]
                            refine wpAnyH_done (by kernel_rfl) ?_ _
                            clear hHeld
                            show wpList _ _ _ _ _ _
                            go_wp2
                            go_roundw
                            case rel => exact ⟨t + 1, by omega, by go_num, HM3, hid (HO3.out _), hid (HB3.out _)⟩
                            case measure => simp [intOf]; omega
                        · rw [ho] at cb hcd
                          rw [ho, Bool.true_or, Bool.true_or] at h3
                          have HM3 : Hid _ := hid h3
                          clear h3 ho co cn cc
                          go_wp2
                          refine wp_region_last (fun w' => w'.cell? ⟨b0, m, none⟩ = some (.slice (some ⟨br, 0, none⟩) (nT + 1) (nT + 1)) ∧ w'.cell? ⟨br, t, none⟩ = some (.bool true)) (by kernel_rfl) (by kernel_rfl) ⟨cr, cb⟩ (fun hHeld => ?_)
                          simp only [cutLast, idle, lastOf]
                          refine tkA 0 ?vv225 rfl ?hy225 hHeld ?_
                          case hy225 => (intro w hSw; (try dsimp only at hSw); first | (go_simp; done) | (go_simp; with_reducible rfl))
                          try simp only [zA, zC, Act.put, zD, zE, zF]
                          refine tkA 1 ?vv198 rfl ?hy198 hHeld ?_
                          case hy198 => (intro w hSw; (try dsimp only at hSw); first | (go_simp; done) | (go_simp; with_reducible rfl))
                          try simp only [zA, zB, zC, Act.put, zD, zE, zF]
                          refine tkA 2 ?vv199 rfl ?hy199 hHeld ?_
                          case hy199 => (intro w hSw; (try dsimp only at hSw); first | (go_simp; done) | (go_simp; with_reducible rfl))
                          try simp only [zA, zB, zC, Act.put, zD, zE, zF]
                          refine tkA 3 ?vv200 rfl ?hy200 hHeld ?_
                          case hy200 => (intro w hSw; (try dsimp only at hSw); first | (go_simp; done) | (go_simp; with_reducible rfl))
                          try simp only [zA, zB, zC, Act.put, zD, zE, zF]
                          refine tkA 4 ?vv201 rfl ?hy201 hHeld ?_
                          case hy201 => (intro w hSw; (try dsimp only at hSw); first | (go_simp; done) | (go_simp; with_reducible rfl))
                          try simp only [zA, zB, zC, Act.put, zD, zE, zF]
                          refine tkA 5 ?vv202 rfl ?hy202 hHeld ?_
                          case hy202 => (intro w hSw; (try dsimp only at hSw); first | (go_simp; done) | (go_simp; with_reducible rfl))
                          try simp only [zA, zB, zC, Act.put, zD, zE, zF]
                          refine tkA 6 ?vv203 rfl ?hy203 hHeld ?_
                          case hy203 => (intro w hSw; (try dsimp only at hSw); first | (go_simp; done) | (go_simp; with_reducible rfl))
                          try simp only [zA, zB, zC, Act.put, zD, zE, zF]
                          refine tkA 7 ?vv204 rfl ?hy204 hHeld ?_
                          case hy204 => (intro w hSw; (try dsimp only at hSw); first | (go_simp; done) | (go_simp; with_reducible rfl))
                          try simp only [zA, zB, zC, Act.put, zD, zE, zF]
                          refine tkA 8 ?vv205 rfl ?hy205 hHeld ?_
                          case hy205 => (intro w hSw; (try dsimp only at hSw); first | (go_simp; done) | (go_simp; with_reducible rfl))
                          try simp only [zA, zB, zC, Act.put, zD, zE, zF]
                          refine tkA 9 ?vv206 rfl ?hy206 hHeld ?_
                          case hy206 => (intro w hSw; (try dsimp only at hSw); first | (go_simp; done) | (go_simp; with_reducible rfl))
                          try simp only [zA, zB, zC, Act.put, zD, zE, zF]
                          refine tkA 10 ?vv207 rfl ?hy207 hHeld ?_
                          case hy207 => (intro w hSw; (try dsimp only at hSw); first | (go_simp; done) | (go_simp; with_reducible rfl))
                          try simp only [zA, zB, zC, Act.put, zD, zE, zF]
                          refine tkA 11 ?vv208 rfl ?hy208 hHeld ?_
                          case hy208 => (intro w hSw; (try dsimp only at hSw); first | (go_simp; done) | (go_simp; with_reducible rfl))
                          try simp only [zA, zB, zC, Act.put, zD, zE, zF]
                          refine tkA 12 ?vv209 rfl ?hy209 hHeld ?_
                          case hy209 => (intro w hSw; (try dsimp only at hSw); first | (go_simp; done) | (go_simp; with_reducible rfl))
                          try simp only [zA, zB, zC, Act.put, zD, zE, zF]
                          refine wpAnyH_take (i := 13) (v := undef) rfl (by kernel_rfl) (by kernel_rfl) (by kernel_rfl) (fun _ _ _ h => h) (Or.inr ⟨by rfl, rfl⟩) hHeld ?_
                          try simp only [zA, zB, zC, Act.put, zD, zE, zF]
                          refine wpAnyH_take (i := 14) (v := undef) rfl (by kernel_rfl) (by kernel_rfl) (by kernel_rfl) (fun _ _ _ h => h) (Or.inr ⟨by rfl, rfl⟩) hHeld ?_
                          try simp only [zA, zB, zC, Act.put, zD, zE, zF]
                          refine wpAnyH_take (i := 15) (v := undef) rfl (by kernel_rfl) (by kernel_rfl) (by kernel_rfl) (fun _ _ _ h => h) (Or.inr ⟨by rfl, rfl⟩) hHeld ?_
                          try simp only [zA, zB, zC, Act.put, zD, zE, zF]
                          refine wpAnyH_take (i := 16) (v := undef) rfl (by kernel_rfl) (by kernel_rfl) (by kernel_rfl) (fun _ _ _ h => h) (Or.inr ⟨by rfl, rfl⟩) hHeld ?_
                          try simp only [zA, zB, zC, Act.put, zD, zE, zF]
                          refine tkA 17 ?vv210 rfl ?hy210 hHeld ?_
                          case hy210 => (intro w hSw; (try dsimp only at hSw); first | (go_simp; done) | (go_simp; with_reducible rfl))
                          try simp only [zA, zB, zC, Act.put, zD, zE, zF]
                          refine tkA 18 ?vv211 rfl ?hy211 hHeld ?_
                          case hy211 => (intro w hSw; (try dsimp only at hSw); first | (go_simp; done) | (go_simp; with_reducible rfl))
                          try simp only [zA, zB, zC, Act.put, zD, zE, zF]
                          refine wpAnyH_take (i := 19) (v := undef) rfl (by kernel_rfl) (by kernel_rfl) (by kernel_rfl) (fun _ _ _ h => h) (Or.inr ⟨by rfl, rfl⟩) hHeld ?_
                          try simp only [zA, zB, zC, Act.put, zD, zE, zF]
                          refine wpAnyH_take (i := 20) (v := undef) rfl (by kernel_rfl) (by kernel_rfl) (by kernel_rfl) (fun _ _ _ h => h) (Or.inr ⟨by rfl, rfl⟩) hHeld ?_
                          try simp only [zA, zB, zC, Act.put, zD, zE, zF]
                          refine wpAnyH_take (i := 21) (v := undef) rfl (by kernel_rfl) (by kernel_rfl) (by kernel_rfl) (fun _ _ _ h => h) (Or.inr ⟨by rfl, rfl⟩) hHeld ?_
                          try simp only [zA, zB, zC, Act.put, zD, zE, zF]
                          refine wpAnyH_take (i := 22) (v := undef) rfl (by kernel_rfl) (by kernel_rfl) (by kernel_rfl) (fun _ _ _ h => h) (Or.inr ⟨by rfl, rfl⟩) hHeld ?_
                          try simp only [zA, zB, zC, Act.put, zD, zE, zF]
                          refine wpAnyH_take (i := 23) (v := undef) rfl (by kernel_rfl) (by kernel_rfl) (by kernel_rfl) (fun _ _ _ h => h) (Or.inr ⟨by rfl, rfl⟩) hHeld ?_
                          try simp only [zA, zB, zC, Act.put, zD, zE, zF]
                          refine wpAnyH_take (i := 24) (v := undef) rfl (by kernel_rfl) (by kernel_rfl) (by kernel_rfl) (fun _ _ _ h => h) (Or.inr ⟨by rfl, rfl⟩) hHeld ?_
                          try simp only [zA, zB, zC, Act.put, zD, zE, zF]
                          refine wpAnyH_take (i := 25) (v := undef) rfl (by kernel_rfl) (by kernel_rfl) (by kernel_rfl) (fun _ _ _ h => h) (Or.inr ⟨by rfl, rfl⟩) hHeld ?_
                          try simp only [zA, zB, zC, Act.put, zD, zE, zF]
                          refine wpAnyH_take (i := 26) (v := undef) rfl (by kernel_rfl) (by kernel_rfl) (by kernel_rfl) (fun _ _ _ h => h) (Or.inr ⟨by rfl, rfl⟩) hHeld ?_
                          try simp only [zA, zB, zC, Act.put, zD, zE, zF]
                          refine wpAnyH_take (i := 27) (v := undef) rfl (by kernel_rfl) (by kernel_rfl) (by kernel_rfl) (fun _ _ _ h => h) (Or.inr ⟨by rfl, rfl⟩) hHeld ?_
                          try simp only [zA, zB, zC, Act.put, zD, zE, zF]
                          refine wpAnyH_take (i := 28) (v := undef) rfl (by kernel_rfl) (by kernel_rfl) (by kernel_rfl) (fun _ _ _ h => h) (Or.inr ⟨by rfl, rfl⟩) hHeld ?_
                          try simp only [zA, zB, zC, Act.put, zD, zE, zF]
                          refine tkA 29 ?vv212 rfl ?hy212 hHeld ?_
                          case hy212 => (intro w hSw; (try dsimp only at hSw); first | (go_simp; done) | (go_simp; with_reducible rfl))
                          try simp only [zA, zB, zC, Act.put, zD, zE, zF]
                          refine tkA 30 ?vv213 rfl ?hy213 hHeld ?_
                          case hy213 => (intro w hSw; (try dsimp only at hSw); first | (go_simp; done) | (go_simp; with_reducible rfl))
                          try simp only [zA, zB, zC, Act.put, zD, zE, zF]
                          refine tkA 31 ?vv219 rfl ?hy219 hHeld ?_
                          case hy219 => (intro w hSw; (try dsimp only at hSw); first | (go_simp; done) | (go_simp; with_reducible rfl))
                          try simp only [zA, zB, zC, Act.put]
                          refine wpAnyH_done (by kernel_rfl) ?_ _
                          clear hHeld
                          show wpList _ _ _ _ _ _
                          go_wp2
                          go_roundw
                          case rel => exact ⟨t + 1, by omega, by go_num, HM3, hid (HO3.out _), hid (HB3.out _)⟩
                          case measure => simp [intOf]; omega
                      · have hti : ¬ (t : Int) < (nT : Int) + 1 := by omega
                        have HM5 : Hid (Mat W3 b0 N (f.set m (orT (mAt f m) l thr (mAt f qn)))) := hid (by
                          have h1 := hM.out
                          have hrow := HMh.out.2 m hmN
                          rw [show t = (mAt f m).length by rw [hrow, ← H2.out]; omega] at h1
                          unfold rowUpto at h1
                          rw [upto_orT] at h1
                          exact h1)
                        clear hmN hqN
                        go_wp2
                        go_roundw
                        case rel => exact ⟨kp + 1, _, by omega, by go_num, HS, HM5, hbr⟩
                        case measure => simp [intOf]; omega
                · have HS : Hid (iter (tailRound N H (bAt E)) (mx - k) ((N.rules.drop (j + 1)).foldl (fun f r => tailB N H (bAt E) r.1 r.2 f) f) = tailsN N H (bAt E)) := hid (by
                    have h1 := hit.out
                    rw [List.drop_eq_nil_of_le (by have := HNp.out; omega)] at h1
                    exact h1)
                  go_wp2
                  go_roundw
                  case rel => exact ⟨j + 1, f, by omega, by go_num, HS, hM, hbr⟩
                  case measure => simp [intOf]; omega
            · have HS : Hid (iter (tailRound N H (bAt E)) (mx + 1 - (k + 1)) f = tailsN N H (bAt E)) := hid (by
                have h1 := hit.out
                rw [List.drop_eq_nil_of_le (by have := H3.out; omega)] at h1
                rw [show mx + 1 - (k + 1) = mx - k by omega]
                exact h1)
              clear hX
              go_wp2
              go_roundw
              case rel => exact ⟨k + 1, f, by omega, by go_num, HS, hM, hbr⟩
              case measure => simp [intOf]; omega
        · have HS : Hid (f = tailsN N H (bAt E)) := hid (by
            have h1 := hit.out
            rw [show mx + 1 - k = 0 by omega] at h1
            exact h1)
          have hdk : decide ((k : Int) ≤ (mx : Int)) = false := decide_eq_false (by omega)
          go_wp2
          go_quiet (fail)
          go_wp2
          go_ret
          have hbd := below_draws W nq
          exact ⟨rfl, by rw [← HS.out]; exact hM.out.below hbd, hbr.out.trans (hbd.mono hsz)⟩

end Go.Proofs.YtjjggdcnpndgjaaGreatDoor
