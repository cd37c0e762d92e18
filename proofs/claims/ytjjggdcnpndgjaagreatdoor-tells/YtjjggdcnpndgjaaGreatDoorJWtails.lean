/- (*Grammar).tails, walked. -/
import Derived.Test.YtjjggdcnpndgjaaGreatDoorJ8
namespace Go.Proofs.YtjjggdcnpndgjaaGreatDoor
open Go.RowKit

theorem mat_tail0 {w : World} {b : Nat} {N : NG} (h : Mat w b N (List.replicate N.nN (row0 N))) (hp : 0 < N.nN) : Mat (w.setCell ⟨b + 1, N.nT, none⟩ (.bool true)) b N (tail0 N) := by
  have h1 := h.put N.nT hp true
  have h2 : mAt (List.replicate N.nN (row0 N)) 0 = row0 N := by
    unfold mAt; rw [List.getD_eq_getElem?_getD, List.getElem?_replicate, if_pos hp]; rfl
  rw [h2] at h1
  exact h1

theorem tailB_tok {N : NG} {H : List (List Bool)} {E : Nat → Bool} {n : Nat} {ps : List Pt} {k t : Nat} (f : List (List Bool)) (hp : ps[k]? = some (.tok t)) : tailB N H E n (ps.drop k) f = tailB N H E n (ps.drop (k + 1)) f := by rw [drop_cons hp]; rfl
theorem tailB_nam {N : NG} {H : List (List Bool)} {E : Nat → Bool} {n : Nat} {ps : List Pt} {k m : Nat} (f : List (List Bool)) (hp : ps[k]? = some (.nam m)) :
    tailB N H E n (ps.drop k) f = tailB N H E n (ps.drop (k + 1)) (f.set m (orT (mAt f m) (speakB H E (ps.drop (k + 1)) (row0 N)).1 (speakB H E (ps.drop (k + 1)) (row0 N)).2 (mAt f n))) := by rw [drop_cons hp]; rfl

theorem PsOk.drop {N : NG} {ps : List Pt} (h : PsOk N ps) (k : Nat) : PsOk N (ps.drop k) := ⟨fun n hn => h.1 n (List.mem_of_mem_drop hn), fun n hn => h.2 n (List.mem_of_mem_drop hn)⟩

theorem PsRep.drop {G : Gr} {ws : List ByteArray} {ps : List Pt} (h : PsRep G ws ps) (k : Nat) : PsRep G (ws.drop k) (ps.drop k) := by
  refine ⟨by rw [List.length_drop, List.length_drop, h.1], fun j p hp => ?_⟩
  rw [List.getElem?_drop] at hp
  have := h.2 (k + j) p hp
  unfold nth at this ⊢
  rw [List.getD_eq_getElem?_getD, List.getElem?_drop]
  rwa [List.getD_eq_getElem?_getD] at this

/-- The parts behind a place, as a slice. -/
theorem rowO_drop {w : World} {g n cap : Nat} {ws : List ByteArray} (h : RowV w (.slice (some ⟨g, 0, none⟩) n cap) (strs ws)) (hl : ws.length = n) {k : Nat} (hk : k ≤ n) (ad : Option Addr) (had : 0 < n - k → ad = some ⟨g, k, none⟩) :
    RowO w (.slice ad (n - k) (cap - k)) (ws.drop k) := by
  obtain ⟨ad', cap', h1, h2, h3⟩ := h
  rw [strs_len, hl] at h1 h2 h3
  injection h1 with h1 _ h4
  subst h4
  refine ⟨ad, cap - k, by rw [List.length_drop, hl], by rw [List.length_drop, hl]; omega, fun h0 => ?_⟩
  rw [List.length_drop, hl] at h0
  obtain ⟨g', h5, h6, h7⟩ := h3 (by omega)
  rw [← h1] at h5
  injection h5 with h5
  injection h5 with h5
  subst h5
  refine ⟨g, k, had h0, h6, fun j hj => ?_⟩
  rw [List.length_drop, hl] at hj
  rw [h7 (k + j) (by omega), strs_at (by omega)]
  unfold nth
  rw [List.getD_eq_getElem?_getD, List.getD_eq_getElem?_getD, List.getElem?_drop]

set_option maxHeartbeats 8000000 in
set_option maxRecDepth 100000 in
theorem tails_any (G : Gr) (N : NG) (hR : Rep G N) (w : World) (B gb : Nat) (hG : GrAt w B gb G) (bh : Nat) (H : List (List Bool)) (hH : Mat w bh N H) (go capo : Nat) (E : List Bool) (hE : RowV w (.slice (some ⟨go, 0, none⟩) N.nN capo) (bools E)) (hEl : E.length = N.nN) :
    Calls Tryz.prog 78 #[.pointer (some ⟨gb, 0, none⟩), .slice (some ⟨bh, 0, none⟩) N.nN N.nN, .slice (some ⟨go, 0, none⟩) N.nN capo] w fun e w' =>
      e = .returned (.slice (some ⟨w.heap.size, 0, none⟩) N.nN N.nN) ∧ Mat w' w.heap.size N (tailsN N H (bAt E)) ∧ Below w.heap.size w w' := by
  obtain ⟨i0, hi, hz0, hz1, hz2⟩ := info_parts Tryz.info4
  obtain ⟨j0, ji, jz0, jz1, jz2⟩ := info_parts Tryz.info150
  obtain ⟨adT, capT, gN, capN, gR, capR, hX⟩ := ctx_of hR hG
  have hnle := hR.leN
  have hnpos := hR.ok.pos
  have htle := hR.leT
  have hrle := hR.leR
  have hgb := hX.hgb
  have hgN := hX.hgN
  have hgR := hX.hgR
  have c2 := hX.c2
  have lN := hX.lN
  have lR := hX.lR
  have hMK := fun W : World => MatK.start W N hnle
  have HX : Hid (Ctx w B gb G N adT capT gN capN gR capR) := hid hX
  have HH : Hid (Mat w bh N H) := hid hH
  have HE : Hid (RowV w (.slice (some ⟨go, 0, none⟩) N.nN capo) (bools E)) := hid hE
  have HEl : Hid (E.length = N.nN) := hid hEl
  obtain ⟨nN, hn1⟩ : ∃ n, n = N.nN := ⟨_, rfl⟩
  obtain ⟨nT, hn2⟩ : ∃ n, n = N.nT := ⟨_, rfl⟩
  obtain ⟨nR, hn3⟩ : ∃ n, n = N.rules.length := ⟨_, rfl⟩
  rw [← hn1] at hnle c2 lN hnpos ⊢
  rw [← hn2] at htle
  rw [← hn3] at hrle lR
  have H1 : Hid (nN = N.nN) := hid hn1
  have H2 : Hid (nT = N.nT) := hid hn2
  have H3 : Hid (nR = N.rules.length) := hid hn3
  have HMK : Hid _ := hid hMK
  clear hX hR hn1 hn2 hn3 hG hE hEl hMK hH
  obtain ⟨b0, hb0⟩ : ∃ b, b = w.heap.size := ⟨_, rfl⟩
  have H0 : Hid (b0 = w.heap.size) := hid hb0
  rw [← hb0] at hgb hgN hgR
  rw [← hb0]
  go_enter Tryz.func78, Tryz.ntmps78
  go_wp2_with (first
    | (at_make; refine wpList_make_exact _ rfl _ _ 152 rfl 150 j0 (.slice none 0 0) Tryz.underlying152 ji jz0 _ _ nN rfl rfl rfl rfl (by rw [jz2]; omega) (by omega) ?_))
  have HK0 : Hid (MatK (w.alloc (.cells (madeCells #[Value.slice none 0 0] nN) 150)) b0 N 0) := hid (by
    have := HMK.out w
    rw [H1.out, H0.out]; exact this)
  have HB0 : Hid (Below b0 w (w.alloc (.cells (madeCells #[Value.slice none 0 0] nN) 150))) := hid ((Below.refl _ _).alloc (Nat.le_of_eq hb0) _)
  obtain ⟨W0, hW0⟩ : ∃ W0, W0 = w.alloc (.cells (madeCells #[Value.slice none 0 0] nN) 150) := ⟨_, rfl⟩
  rw [← hW0] at HK0 HB0 ⊢
  rw [← hb0]
  have HF : Hid (∀ i : Nat, i < nR → ∃ q, N.rules[i]? = some q) := hid fun i h => ⟨_, List.getElem?_eq_getElem (by rw [← H3.out]; exact h)⟩
  have HBel : Hid (∀ W, Below b0 w W → Below w.heap.size w W) := hid fun W h => by rw [← H0.out]; exact h
  clear hb0 hW0 HMK c2
  go_loopw [8] (fun i wr => ∃ (k : Nat), k ≤ nN ∧ i = .int .i64 k ∧ Hid (MatK wr b0 N k) ∧ Hid (Below b0 w wr)) (fun i _ => nN - (intOf i).toNat)
  case atStart => exact ⟨0, Nat.zero_le _, rfl, HK0, HB0⟩
  case round =>
    clear HK0 HB0
    obtain ⟨k, hk, rfl, hK, hbr⟩ := hrel
    obtain ⟨W, hW⟩ : ∃ W, W = wr := ⟨_, rfl⟩
    subst hW
    by_cases hlt : k < nN
    · have hX := HX.out.below (HBel.out _ hbr.out)
      have c0 := hX.c0
      have lT := hX.lT
      rw [← H2.out] at c0 lT
      have hw0 := hK.out.size
      have hlK : ∃ u, W.cell? ⟨b0, k, none⟩ = some u := by
        have h1 := hK.out.top.cellAt k (by rw [← H1.out]; omega)
        rw [List.getElem?_eq_getElem (by unfold rowVals; simp; have := H1.out; omega)] at h1
        exact ⟨_, h1⟩
      obtain ⟨u0, hu0⟩ := hlK
      have hba : Below W.heap.size W (W.alloc (.cells (madeCells #[Value.bool false] (nT + 1)) 4)) := (Below.refl _ _).alloc (Nat.le_refl _) _
      have hca : (W.alloc (.cells (madeCells #[Value.bool false] (nT + 1)) 4)).cell? ⟨b0, k, none⟩ = some u0 := (hba.cell (by simp; omega)).trans hu0
      have hfa : (W.alloc (.cells (madeCells #[Value.bool false] (nT + 1)) 4)).frozen? ⟨b0, k, none⟩ = false := (hba.frozen (by simp; omega)).trans (hK.out.top.frozenAt k)
      clear hba hu0
      have h3 := hK.out.next (by rw [← H1.out]; exact hlt) (by rw [← H2.out]; exact htle)
      rw [← H2.out] at h3
      have HK3 : Hid _ := hid h3
      have HB3 : Hid (Below b0 w ((W.alloc (.cells (madeCells #[Value.bool false] (nT + 1)) 4)).setCell ⟨b0, k, none⟩ (.slice (some ⟨W.heap.size, 0, none⟩) (nT + 1) (nT + 1)))) :=
        hid ((hbr.out.alloc (by omega) _).setCell (p := ⟨b0, k, none⟩) (Nat.le_refl _) _)
      have hne : ¬ W.heap.size = b0 := by omega
      clear hX h3 hw0
      go_wp2_with (first
        | (at_make; refine wpList_make_exact _ rfl _ _ 150 rfl 4 i0 (.bool false) Tryz.underlying150 hi hz0 _ _ (nT + 1) rfl rfl (by omega) (by omega) (by rw [hz2]; omega) (by omega) ?_; rw [hz1]))
      go_roundw
      case rel => exact ⟨k + 1, by omega, by go_num, HK3, HB3⟩
      case measure => simp [intOf]; omega
    · have HM0 : Hid (Mat W b0 N (List.replicate N.nN (row0 N))) := hid (by
        have h1 := hK.out
        rw [show k = N.nN by have := H1.out; omega] at h1
        exact h1.done)
      clear hK
      have hX := HX.out.below (HBel.out _ hbr.out)
      have c0 := hX.c0
      have lT := hX.lT
      rw [← H2.out] at c0 lT
      have cr := HM0.out.cell (n := 0) (by rw [← H1.out]; exact hnpos)
      rw [← H2.out] at cr
      obtain ⟨cb, hfb⟩ := HM0.out.bit (n := 0) (t := nT) (by rw [← H1.out]; exact hnpos) (by rw [← H2.out]; omega)
      have hcd : W.drew.cell? ⟨b0 + 1, nT, none⟩ = some (.bool (col (List.replicate N.nN (row0 N)) nT 0)) := cb
      have hfd : W.drew.frozen? ⟨b0 + 1, nT, none⟩ = false := hfb
      have HM1 : Hid (Mat ((W.setCell ⟨b0 + 1, nT, none⟩ (.bool true)).drew) b0 N (tail0 N)) := hid (by
        have h1 := mat_tail0 (HM0.out.below ((Below.refl _ W).drew)) (by rw [← H1.out]; exact hnpos)
        rw [← H2.out] at h1
        exact h1)
      have HB1 : Hid (Below b0 w ((W.setCell ⟨b0 + 1, nT, none⟩ (.bool true)).drew)) := hid (hbr.out.drew.setCell (p := ⟨b0 + 1, nT, none⟩) (by simp) _)
      have hti0 : (nT : Int) < (nT : Int) + 1 := by omega
      clear hX cb hfb
      go_wp2
      refine wp_region_last (fun w' => w'.cell? ⟨b0, 0, none⟩ = some (.slice (some ⟨b0 + 1, 0, none⟩) (nT + 1) (nT + 1)) ∧ w'.cell? ⟨gb, 0, none⟩ = some (.slice adT nT capT)) (by kernel_rfl) (by kernel_rfl) ⟨cr, c0⟩ (fun hHeld => ?_)
      simp only [cutLast, idle, lastOf]
      refine wpAnyH_take (i := 0) (v := ?vv134) rfl (by kernel_rfl) (by kernel_rfl) (by kernel_rfl) (fun _ _ _ h => h) (Or.inl ⟨by rfl, ?hy134⟩) hHeld ?_
      case hy134 => (intro w hSw; (try dsimp only at hSw); first | (go_simp; done) | (go_simp; with_reducible rfl))
      try simp only [List.getElem_toArray, List.getElem_cons_zero, Act.put, List.setIfInBounds_toArray, List.set_cons_zero, List.set_cons_succ]
      refine wpAnyH_take (i := 1) (v := ?vv1) rfl (by kernel_rfl) (by kernel_rfl) (by kernel_rfl) (fun _ _ _ h => h) (Or.inl ⟨by rfl, ?hy1⟩) hHeld ?_
      case hy1 => (intro w hSw; (try dsimp only at hSw); first | (go_simp; done) | (go_simp; with_reducible rfl))
      try simp only [List.getElem_toArray, List.getElem_cons_succ, List.getElem_cons_zero, Act.put, List.setIfInBounds_toArray, List.set_cons_zero, List.set_cons_succ]
      refine wpAnyH_take (i := 2) (v := ?vv2) rfl (by kernel_rfl) (by kernel_rfl) (by kernel_rfl) (fun _ _ _ h => h) (Or.inl ⟨by rfl, ?hy2⟩) hHeld ?_
      case hy2 => (intro w hSw; (try dsimp only at hSw); first | (go_simp; done) | (go_simp; with_reducible rfl))
      try simp only [List.getElem_toArray, List.getElem_cons_succ, List.getElem_cons_zero, Act.put, List.setIfInBounds_toArray, List.set_cons_zero, List.set_cons_succ]
      refine wpAnyH_take (i := 3) (v := ?vv3) rfl (by kernel_rfl) (by kernel_rfl) (by kernel_rfl) (fun _ _ _ h => h) (Or.inl ⟨by rfl, ?hy3⟩) hHeld ?_
      case hy3 => (intro w hSw; (try dsimp only at hSw); first | (go_simp; done) | (go_simp; with_reducible rfl))
      try simp only [List.getElem_toArray, List.getElem_cons_succ, List.getElem_cons_zero, Act.put, List.setIfInBounds_toArray, List.set_cons_zero, List.set_cons_succ]
      refine wpAnyH_take (i := 4) (v := ?vv4) rfl (by kernel_rfl) (by kernel_rfl) (by kernel_rfl) (fun _ _ _ h => h) (Or.inl ⟨by rfl, ?hy4⟩) hHeld ?_
      case hy4 => (intro w hSw; (try dsimp only at hSw); first | (go_simp; done) | (go_simp; with_reducible rfl))
      try simp only [List.getElem_toArray, List.getElem_cons_succ, List.getElem_cons_zero, Act.put, List.setIfInBounds_toArray, List.set_cons_zero, List.set_cons_succ]
      refine wpAnyH_take (i := 5) (v := ?vv5) rfl (by kernel_rfl) (by kernel_rfl) (by kernel_rfl) (fun _ _ _ h => h) (Or.inl ⟨by rfl, ?hy5⟩) hHeld ?_
      case hy5 => (intro w hSw; (try dsimp only at hSw); first | (go_simp; done) | (go_simp; with_reducible rfl))
      try simp only [List.getElem_toArray, List.getElem_cons_succ, List.getElem_cons_zero, Act.put, List.setIfInBounds_toArray, List.set_cons_zero, List.set_cons_succ]
      refine wpAnyH_take (i := 6) (v := ?vv6) rfl (by kernel_rfl) (by kernel_rfl) (by kernel_rfl) (fun _ _ _ h => h) (Or.inl ⟨by rfl, ?hy6⟩) hHeld ?_
      case hy6 => (intro w hSw; (try dsimp only at hSw); first | (go_simp; done) | (go_simp; with_reducible rfl))
      try simp only [List.getElem_toArray, List.getElem_cons_succ, List.getElem_cons_zero, Act.put, List.setIfInBounds_toArray, List.set_cons_zero, List.set_cons_succ]
      refine wpAnyH_take (i := 7) (v := ?vv7) rfl (by kernel_rfl) (by kernel_rfl) (by kernel_rfl) (fun _ _ _ h => h) (Or.inl ⟨by rfl, ?hy7⟩) hHeld ?_
      case hy7 => (intro w hSw; (try dsimp only at hSw); first | (go_simp; done) | (go_simp; with_reducible rfl))
      try simp only [List.getElem_toArray, List.getElem_cons_succ, List.getElem_cons_zero, Act.put, List.setIfInBounds_toArray, List.set_cons_zero, List.set_cons_succ]
      refine wpAnyH_take (i := 8) (v := ?vv8) rfl (by kernel_rfl) (by kernel_rfl) (by kernel_rfl) (fun _ _ _ h => h) (Or.inl ⟨by rfl, ?hy8⟩) hHeld ?_
      case hy8 => (intro w hSw; (try dsimp only at hSw); first | (go_simp; done) | (go_simp; with_reducible rfl))
      try simp only [List.getElem_toArray, List.getElem_cons_succ, List.getElem_cons_zero, Act.put, List.setIfInBounds_toArray, List.set_cons_zero, List.set_cons_succ]
      refine wpAnyH_take (i := 9) (v := ?vv128) rfl (by kernel_rfl) (by kernel_rfl) (by kernel_rfl) (fun _ _ _ h => h) (Or.inl ⟨by rfl, ?hy128⟩) hHeld ?_
      case hy128 => (intro w hSw; (try dsimp only at hSw); first | (go_simp; done) | (go_simp; with_reducible rfl))
      try simp only [List.getElem_toArray, List.getElem_cons_succ, List.getElem_cons_zero, Act.put]
      refine wpAnyH_done (by kernel_rfl) ?_ _
      clear hHeld
      show wpList _ _ _ _ _ _
      go_wp2
      clear hcd hfd cr c0 lT HM0 hti0 hbr
      obtain ⟨W1, hW1⟩ : ∃ W1, W1 = (W.setCell ⟨b0 + 1, nT, none⟩ (.bool true)).drew := ⟨_, rfl⟩
      rw [← hW1] at HM1 HB1 ⊢
      clear hW1
      obtain ⟨mx, hmx⟩ : ∃ mx, mx = nN * (nN + 1) := ⟨_, rfl⟩
      have hmc : (nN : Int) * ((nN : Int) + 1) = (mx : Int) := by rw [hmx]; simp
      have hmxb : mx ≤ 420 := by
        rw [hmx]
        have h1 : nN * (nN + 1) ≤ 20 * 21 := Nat.mul_le_mul hnle (by omega)
        omega
      have HIT0 : Hid (iter (tailRound N H (bAt E)) (mx + 1) (tail0 N) = tailsN N H (bAt E)) := hid (by unfold tailsN; rw [← H1.out, hmx])
      clear hmx
      go_loopw [9] (fun i wr => ∃ (k : Nat) (f : List (List Bool)), k ≤ mx + 1 ∧ i = .int .i64 k ∧ Hid (iter (tailRound N H (bAt E)) (mx + 1 - k) f = tailsN N H (bAt E)) ∧ Hid (Mat wr b0 N f) ∧ Hid (Below b0 w wr)) (fun i _ => mx + 1 - (intOf i).toNat)
      case atStart => exact ⟨0, _, Nat.zero_le _, rfl, HIT0, HM1, HB1⟩
      case round =>
        clear HM1 HB1 hlt hk HIT0
        obtain ⟨k, f, hk, rfl, hit, hM, hbr⟩ := hrel
        obtain ⟨W, hW⟩ : ∃ W, W = wr := ⟨_, rfl⟩
        subst hW
        have hX := HX.out.below (HBel.out _ hbr.out)
        have c2 := hX.c2
        have c3 := hX.c3
        rw [← H1.out] at c2
        rw [← H3.out] at c3
        have hsz : b0 ≤ W.heap.size := by have := hbr.out.size; have := H0.out; omega
        clear hX
        by_cases hlt : k ≤ mx
        · have HI : Hid (iter (tailRound N H (bAt E)) (mx - k) (tailRound N H (bAt E) f) = tailsN N H (bAt E)) := hid (by
            have h1 := hit.out
            rw [show mx + 1 - k = (mx - k) + 1 by omega] at h1
            exact h1)
          have hdk : decide ((k : Int) ≤ (mx : Int)) = true := decide_eq_true (by omega)
          clear hit
          go_wp2
          go_quiet (fail)
          go_wp2
          obtain ⟨W0', hW0'⟩ : ∃ W0', W0' = W.drewN nq := ⟨_, rfl⟩
          have hbd : Below W.heap.size W W0' := by rw [hW0']; exact below_draws _ _
          rw [← hW0']
          have HM1 : Hid (Mat W0' b0 N f) := hid (hM.out.below hbd)
          have HB1 : Hid (Below b0 w W0') := hid (hbr.out.trans (hbd.mono hsz))
          clear hW0' hbd hM hbr c2 c3 hsz hdk
          go_loopw [10] (fun i wr => ∃ (j : Nat) (f : List (List Bool)), j ≤ nR ∧ i = .int .i64 j ∧ Hid (iter (tailRound N H (bAt E)) (mx - k) ((N.rules.drop j).foldl (fun f r => tailB N H (bAt E) r.1 r.2 f) f) = tailsN N H (bAt E)) ∧ Hid (Mat wr b0 N f) ∧ Hid (Below b0 w wr)) (fun i _ => nR - (intOf i).toNat)
          case atStart => exact ⟨0, f, Nat.zero_le _, rfl, HI, HM1, HB1⟩
          case round =>
            clear HM1 HB1 HI
            obtain ⟨j, f, hj, rfl, hit, hM, hbr⟩ := hrel
            obtain ⟨W, hW⟩ : ∃ W, W = wr := ⟨_, rfl⟩
            subst hW
            have hX := HX.out.below (HBel.out _ hbr.out)
            have c2 := hX.c2
            have c3 := hX.c3
            rw [← H1.out] at c2
            rw [← H3.out] at c3
            by_cases hlj : j < nR
            · obtain ⟨q, hq⟩ := HF.out j hlj
              obtain ⟨nm, ws, adP, capP, d0w, d1w, hPsw, hix, hpr⟩ := HX.out.rule j q hq
              have d0 := (hbr.out.cell (p := ⟨gR, j * 2, none⟩) (by exact hgR)).trans d0w
              have d1 := (hbr.out.cell (p := ⟨gR, j * 2 + 1, none⟩) (by exact hgR)).trans d1w
              have hqn : q.1 < nN := by rw [H1.out]; exact hX.rep.ok.lt q (List.mem_of_getElem? hq)
              have hsz : b0 ≤ W.heap.size := by have := hbr.out.size; have := H0.out; omega
              have CI : Hid (∀ m, Calls Tryz.prog 84 #[.slice (some ⟨gN, 0, none⟩) nN capN, .string nm] (W.drewN m) fun e w' => e = .returned (.int .i64 q.1) ∧ w' = W.drewN m) := hid fun m => by
                rw [← hix, H1.out]
                exact (hX.below (below_draws W m)).index nm
              have HQ : Hid (N.rules[j]? = some q) := hid hq
              have HPO : Hid (PsOk N q.2) := hid (hX.rep.ok.ps (List.mem_of_getElem? hq))
              have hq8 := hX.rep.ok.parts q (List.mem_of_getElem? hq)
              obtain ⟨qn, hqn1⟩ : ∃ n, n = q.1 := ⟨_, rfl⟩
              rw [← hqn1] at hqn CI
              obtain ⟨np, hnp⟩ : ∃ n, n = q.2.length := ⟨_, rfl⟩
              have HNp : Hid (np = q.2.length) := hid hnp
              have HS : Hid (iter (tailRound N H (bAt E)) (mx - k) ((N.rules.drop (j + 1)).foldl (fun f r => tailB N H (bAt E) r.1 r.2 f) (tailB N H (bAt E) qn q.2 f)) = tailsN N H (bAt E)) := hid (by
                have h1 := hit.out
                rw [drop_cons HQ.out, List.foldl_cons] at h1
                rw [hqn1]
                exact h1)
              have HPs : Hid (RowV w (.slice adP q.2.length capP) (strs ws)) := hid hPsw
              have HPr : Hid (PsRep G ws q.2) := hid hpr
              rw [← hnp] at hq8 d1 HPs
              clear hX hPsw hix hpr hq hqn1 hnp hit d0w d1w
              go_wp2
              go_quiet ((go_at_call 84; exact (CI.out _).mono fun _ _ h => ⟨h.1, _, h.2⟩))
              go_wp2
              obtain ⟨W1, hW1⟩ : ∃ W1, W1 = W.drewN nq := ⟨_, rfl⟩
              have hbd : Below W.heap.size W W1 := by rw [hW1]; exact below_draws _ _
              rw [← hW1]
              have HM1 : Hid (Mat W1 b0 N f) := hid (hM.out.below hbd)
              have HB1 : Hid (Below b0 w W1) := hid (hbr.out.trans (hbd.mono hsz))
              clear hW1 hbd hM hbr c2 c3 d0 d1 hsz CI
              go_loopw [13] (fun i wr => ∃ (l : Nat) (f : List (List Bool)), l ≤ np ∧ i = .int .i64 l ∧ Hid (iter (tailRound N H (bAt E)) (mx - k) ((N.rules.drop (j + 1)).foldl (fun f r => tailB N H (bAt E) r.1 r.2 f) (tailB N H (bAt E) qn (q.2.drop l) f)) = tailsN N H (bAt E)) ∧
                Hid (Mat wr b0 N f) ∧ Hid (Below b0 w wr)) (fun i _ => np - (intOf i).toNat)
              case atStart => exact ⟨0, f, Nat.zero_le _, rfl, HS, HM1, HB1⟩
              case round =>
                clear HM1 HB1 HS
                obtain ⟨kp, f, hkp, rfl, hit, hM, hbr⟩ := hrel
                obtain ⟨W2, hW⟩ : ∃ W, W = wr := ⟨_, rfl⟩
                subst hW
                by_cases hll : kp < np
                · have hX := HX.out.below (HBel.out _ hbr.out)
                  have c2 := hX.c2
                  rw [← H1.out] at c2
                  have hsz : b0 ≤ W2.heap.size := by have := hbr.out.size; have := H0.out; omega
                  have hwl : ws.length = np := by rw [HNp.out]; exact HPr.out.1
                  have hPs := HPs.out.below (HBel.out _ hbr.out)
                  obtain ⟨gP, hadP, _, hcapP, ck⟩ := word_at hPs hwl hll
                  subst hadP
                  obtain ⟨p, hpk⟩ : ∃ p, q.2[kp]? = some p := ⟨_, List.getElem?_eq_getElem (by have := HNp.out; omega)⟩
                  have hpt := HPr.out.2 kp p hpk
                  obtain ⟨x, hx⟩ : ∃ x, x = nth ws kp := ⟨_, rfl⟩
                  rw [← hx] at ck hpt
                  have CX : Hid (∀ n, Calls Tryz.prog 84 #[.slice (some ⟨gN, 0, none⟩) nN capN, .string x] (W2.drewN n) fun e w' => e = .returned (.int .i64 (idxB G.names x)) ∧ w' = W2.drewN n) := hid fun n => by
                    rw [H1.out]
                    exact (hX.below (below_draws W2 n)).index x
                  have hmem := List.mem_of_getElem? hpk
                  cases p with
                  | tok u =>
                    have CY : Hid (∀ n, Calls Tryz.prog 84 #[.slice (some ⟨gN, 0, none⟩) nN capN, .string x] (W2.drewN n) fun e w' => e = .returned (.int .i64 (-1)) ∧ w' = W2.drewN n) := hid fun n => by
                      have := CX.out n
                      rwa [hpt.1] at this
                    have HS : Hid (iter (tailRound N H (bAt E)) (mx - k) ((N.rules.drop (j + 1)).foldl (fun f r => tailB N H (bAt E) r.1 r.2 f) (tailB N H (bAt E) qn (q.2.drop (kp + 1)) f)) = tailsN N H (bAt E)) := hid (by
                      have h1 := hit.out
                      rw [tailB_tok f hpk] at h1
                      exact h1)
                    clear hpt hmem CX hX hpk hx hit hwl hPs
                    go_wp2
                    go_quiet ((go_at_call 84; exact (CY.out _).mono fun _ _ h => ⟨h.1, _, h.2⟩))
                    go_wp2
                    have hbd := below_draws W2 nq
                    go_roundw
                    case rel => exact ⟨kp + 1, f, by omega, by go_num, HS, hid (hM.out.below hbd), hid (hbr.out.trans (hbd.mono hsz))⟩
                    case measure => simp [intOf]; omega
                  | nam m =>
                    have hm := HPO.out.1 m hmem
                    rw [← H1.out] at hm
                    have CY : Hid (∀ n, Calls Tryz.prog 84 #[.slice (some ⟨gN, 0, none⟩) nN capN, .string x] (W2.drewN n) fun e w' => e = .returned (.int .i64 m) ∧ w' = W2.drewN n) := hid fun n => by
                      have := CX.out n
                      rwa [show idxB G.names x = m from hpt] at this
                    have CS : Hid (∀ ad W', (0 < np - (kp + 1) → ad = some ⟨gP, kp + 1, none⟩) → Below W2.heap.size W2 W' → Calls Tryz.prog 126 #[.pointer (some ⟨gb, 0, none⟩), .slice ad (np - (kp + 1)) (capP - (kp + 1)), .slice (some ⟨bh, 0, none⟩) nN nN, .slice (some ⟨go, 0, none⟩) nN capo] W' fun e w' =>
                        e = .returned (.tuple #[.slice (some ⟨W'.heap.size, 0, none⟩) (nT + 1) (nT + 1), .bool (speakB H (bAt E) (q.2.drop (kp + 1)) (row0 N)).2]) ∧
                        w'.ownsRow W'.heap.size 4 1 (.slice (some ⟨W'.heap.size, 0, none⟩) (nT + 1) (nT + 1)) (nT + 1) (bools (speakB H (bAt E) (q.2.drop (kp + 1)) (row0 N)).1) ∧ Below W'.heap.size W' w') := hid fun ad W' had hb => by
                      rw [H1.out, H2.out]
                      exact speaks_any G N hX.rep W' B gb (hX.below hb).gr _ (ws.drop (kp + 1)) (q.2.drop (kp + 1)) (rowO_drop (hPs.below hb) hwl (by omega) ad had) (HPr.out.drop _) (HPO.out.drop _) (by rw [List.length_drop]; have := HNp.out; omega)
                        bh H ((HH.out.below (HBel.out _ hbr.out)).below hb) go capo E ((HE.out.below (HBel.out _ hbr.out)).below hb) HEl.out
                    have hsl := (speakB_spec HH.out.ok (bAt E) (q.2.drop (kp + 1)) (row0 N) (HPO.out.drop _) (by simp [row0])).1
                    obtain ⟨lr, hlr⟩ : ∃ l, l = speakB H (bAt E) (q.2.drop (kp + 1)) (row0 N) := ⟨_, rfl⟩
                    rw [← hlr] at CS hsl
                    have HS : Hid (iter (tailRound N H (bAt E)) (mx - k) ((N.rules.drop (j + 1)).foldl (fun f r => tailB N H (bAt E) r.1 r.2 f) (tailB N H (bAt E) qn (q.2.drop (kp + 1)) (f.set m (orT (mAt f m) lr.1 lr.2 (mAt f qn))))) = tailsN N H (bAt E)) := hid (by
                      have h1 := hit.out
                      rw [tailB_nam f hpk, ← hlr] at h1
                      exact h1)
                    obtain ⟨l, thr⟩ := lr
                    simp only at CS hsl HS
                    have HL : Hid (l.length = nT + 1) := hid (by rw [hsl, H2.out])
                    clear hpt hmem CX hX hpk hx hit hwl hlr hsl hPs
                    go_wp2
                    go_quiet ((go_at_call 84; exact (CY.out _).mono fun _ _ h => ⟨h.1, _, h.2⟩))
                    obtain ⟨AD, hAD⟩ : ∃ AD, (if capP = kp + 1 then some (⟨gP, 0, none⟩ : Addr) else some ⟨gP, kp + 1, none⟩) = AD := ⟨_, rfl⟩
                    have hADc : 0 < np - (kp + 1) → AD = some ⟨gP, kp + 1, none⟩ := fun h0 => by rw [← hAD, if_neg (by omega)]
                    have HADc : Hid _ := hid hADc
                    clear hADc
                    go_wp2_with (first
                      | (go_at_call 126; refine (CS.out _ _ HADc.out (below_draws _ _)).mono ?_; rintro e w2 ⟨rfl, hol, hb2⟩))
                    obtain ⟨bl, hbl⟩ : ∃ bl, bl = W2.heap.size := ⟨_, rfl⟩
                    have hblW : W2.heap.size ≤ bl := by omega
                    have hbe : (W2.drewN nq).heap.size = W2.heap.size := by simp
                    rw [hbe, ← hbl] at hol hb2
                    rw [← hbl]
                    have hbd : Below W2.heap.size W2 w2 := (below_draws W2 nq).trans (hb2.mono hblW)
                    have hblr : ∀ n, n < nN → ¬ b0 + 1 + n = bl := fun n hn => by
                      have := hM.out.lt (n := n) (by rw [← H1.out]; exact hn)
                      omega
                    have HBR : Hid (∀ n, n < nN → ¬ b0 + 1 + n = bl) := hid hblr
                    have HM1 : Hid (Mat w2 b0 N (rowUpto f m (fun t => (bAt (mAt f m) t || bAt l t) || (thr && bAt (mAt f qn) t)) 0)) := hid (by rw [rowUpto_zero]; exact hM.out.below hbd)
                    have HOL : Hid (w2.ownsRow bl 4 1 (.slice (some ⟨bl, 0, none⟩) (nT + 1) (nT + 1)) (nT + 1) (bools l)) := hid hol
                    have HB1 : Hid (Below b0 w w2) := hid (hbr.out.trans (hbd.mono hsz))
                    have HMh : Hid (MOk N f) := hid hM.out.ok
                    clear hbl hol hb2 hbd hM hbr c2 ck hblW hblr hsz CS hbe hAD CY
                    go_loopw [17] (fun i wr => ∃ (t : Nat), t ≤ nT + 1 ∧ i = .int .i64 t ∧ Hid (Mat wr b0 N (rowUpto f m (fun t => (bAt (mAt f m) t || bAt l t) || (thr && bAt (mAt f qn) t)) t)) ∧
                      Hid (wr.ownsRow bl 4 1 (.slice (some ⟨bl, 0, none⟩) (nT + 1) (nT + 1)) (nT + 1) (bools l)) ∧ Hid (Below b0 w wr)) (fun i _ => nT + 1 - (intOf i).toNat)
                    case atStart => exact ⟨0, Nat.zero_le _, rfl, HM1, HOL, HB1⟩
                    case round =>
                      clear HM1 HOL HB1
                      obtain ⟨t, ht, rfl, hM, hol, hbr⟩ := hrel
                      obtain ⟨W3, hW⟩ : ∃ W, W = wr := ⟨_, rfl⟩
                      subst hW
                      have hmN : m < N.nN := by rw [← H1.out]; exact hm
                      have hqN : qn < N.nN := by rw [← H1.out]; exact hqn
                      by_cases htl : t < nT + 1
                      · have hrow := HMh.out.2 m hmN
                        have hhl : m < f.length := by rw [HMh.out.1]; exact hmN
                        have cr := hM.out.cell hmN
                        have cn := hM.out.cell hqN
                        obtain ⟨cb, hfb⟩ := hM.out.bit (t := t) hmN (by rw [← H2.out]; exact htl)
                        obtain ⟨cc, _⟩ := hM.out.bit (t := t) hqN (by rw [← H2.out]; exact htl)
                        rw [bit_rowUpto hhl _ (by rw [hrow, ← H2.out]; exact htl)] at cb cc
                        obtain ⟨co, _⟩ := own_cell hol.out HL.out htl
                        have h3 := (hM.out.below ((Below.refl _ W3).drew)).put t hmN ((bAt (mAt f m) t || bAt l t) || (thr && bAt (mAt f qn) t))
                        rw [rowUpto_put hhl (fun t => (bAt (mAt f m) t || bAt l t) || (thr && bAt (mAt f qn) t)) (by rw [hrow, ← H2.out]; exact htl)] at h3
                        have hti : (t : Int) < (nT : Int) + 1 := by omega
                        have hne := HBR.out m hm
                        have HO3 : Hid (∀ v : Bool, (W3.drew.setCell ⟨b0 + 1 + m, t, none⟩ (.bool v)).ownsRow bl 4 1 (.slice (some ⟨bl, 0, none⟩) (nT + 1) (nT + 1)) (nT + 1) (bools l)) := hid fun v =>
                          ownsRow_setCell_other hol.out.drew (a := ⟨b0 + 1 + m, t, none⟩) (by simp [Value.ownBlock]; omega) (.bool v)
                        have HB3 : Hid (∀ v : Bool, Below b0 w (W3.drew.setCell ⟨b0 + 1 + m, t, none⟩ (.bool v))) := hid fun v => hbr.out.drew.setCell (p := ⟨b0 + 1 + m, t, none⟩) (by simp; omega) _
                        rw [← H2.out] at cr cn
                        obtain ⟨br, hbr1⟩ : ∃ br, br = b0 + 1 + m := ⟨_, rfl⟩
                        have hfm : W3.frozen? ⟨br, t, none⟩ = false := by rw [hbr1]; exact hfb
                        rw [show col f t m = bAt (mAt f m) t from rfl] at cb
                        rw [show col f t qn = bAt (mAt f qn) t from rfl] at cc
                        have cb' : W3.cell? ⟨br, t, none⟩ = some (.bool (bAt (mAt f m) t)) := by rw [hbr1]; exact cb
                        have cr' : W3.cell? ⟨b0, m, none⟩ = some (.slice (some ⟨br, 0, none⟩) (nT + 1) (nT + 1)) := by rw [hbr1]; exact cr
                        rw [← hbr1] at h3 HO3 HB3
                        clear cb cr
                        have cb := cb'
                        have cr := cr'
                        have hcd : W3.drew.cell? ⟨br, t, none⟩ = some (.bool (bAt (mAt f m) t)) := cb
                        have hfd : W3.drew.frozen? ⟨br, t, none⟩ = false := hfm
                        clear cb' cr' hbr1 hne hmN hqN hfb hfm hhl hrow
                        cases ho : bAt (mAt f m) t
                        · cases hc : bAt l t
                          · cases thr
                            · rw [ho] at cb hcd
                              rw [hc] at co
                              rw [ho, hc, Bool.false_or, Bool.false_and] at h3
                              have HM3 : Hid _ := hid h3
                              clear h3 ho hc cn cc
                              go_wp2
                              refine wp_region_last (fun w' => w'.cell? ⟨b0, m, none⟩ = some (.slice (some ⟨br, 0, none⟩) (nT + 1) (nT + 1)) ∧ w'.cell? ⟨br, t, none⟩ = some (.bool false) ∧ w'.cell? ⟨bl, t, none⟩ = some (.bool false)) (by kernel_rfl) (by kernel_rfl) ⟨cr, cb, co⟩ (fun hHeld => ?_)
                              simp only [cutLast, idle, lastOf]
                              refine wpAnyH_take (i := 0) (v := ?vv135) rfl (by kernel_rfl) (by kernel_rfl) (by kernel_rfl) (fun _ _ _ h => h) (Or.inl ⟨by rfl, ?hy135⟩) hHeld ?_
                              case hy135 => (intro w hSw; (try dsimp only at hSw); first | (go_simp; done) | (go_simp; with_reducible rfl))
                              try simp only [List.getElem_toArray, List.getElem_cons_zero, Act.put, List.setIfInBounds_toArray, List.set_cons_zero, List.set_cons_succ]
                              refine wpAnyH_take (i := 1) (v := ?vv9) rfl (by kernel_rfl) (by kernel_rfl) (by kernel_rfl) (fun _ _ _ h => h) (Or.inl ⟨by rfl, ?hy9⟩) hHeld ?_
                              case hy9 => (intro w hSw; (try dsimp only at hSw); first | (go_simp; done) | (go_simp; with_reducible rfl))
                              try simp only [List.getElem_toArray, List.getElem_cons_succ, List.getElem_cons_zero, Act.put, List.setIfInBounds_toArray, List.set_cons_zero, List.set_cons_succ]
                              refine wpAnyH_take (i := 2) (v := ?vv10) rfl (by kernel_rfl) (by kernel_rfl) (by kernel_rfl) (fun _ _ _ h => h) (Or.inl ⟨by rfl, ?hy10⟩) hHeld ?_
                              case hy10 => (intro w hSw; (try dsimp only at hSw); first | (go_simp; done) | (go_simp; with_reducible rfl))
                              try simp only [List.getElem_toArray, List.getElem_cons_succ, List.getElem_cons_zero, Act.put, List.setIfInBounds_toArray, List.set_cons_zero, List.set_cons_succ]
                              refine wpAnyH_take (i := 3) (v := ?vv11) rfl (by kernel_rfl) (by kernel_rfl) (by kernel_rfl) (fun _ _ _ h => h) (Or.inl ⟨by rfl, ?hy11⟩) hHeld ?_
                              case hy11 => (intro w hSw; (try dsimp only at hSw); first | (go_simp; done) | (go_simp; with_reducible rfl))
                              try simp only [List.getElem_toArray, List.getElem_cons_succ, List.getElem_cons_zero, Act.put, List.setIfInBounds_toArray, List.set_cons_zero, List.set_cons_succ]
                              refine wpAnyH_take (i := 4) (v := ?vv12) rfl (by kernel_rfl) (by kernel_rfl) (by kernel_rfl) (fun _ _ _ h => h) (Or.inl ⟨by rfl, ?hy12⟩) hHeld ?_
                              case hy12 => (intro w hSw; (try dsimp only at hSw); first | (go_simp; done) | (go_simp; with_reducible rfl))
                              try simp only [List.getElem_toArray, List.getElem_cons_succ, List.getElem_cons_zero, Act.put, List.setIfInBounds_toArray, List.set_cons_zero, List.set_cons_succ]
                              refine wpAnyH_take (i := 5) (v := ?vv13) rfl (by kernel_rfl) (by kernel_rfl) (by kernel_rfl) (fun _ _ _ h => h) (Or.inl ⟨by rfl, ?hy13⟩) hHeld ?_
                              case hy13 => (intro w hSw; (try dsimp only at hSw); first | (go_simp; done) | (go_simp; with_reducible rfl))
                              try simp only [List.getElem_toArray, List.getElem_cons_succ, List.getElem_cons_zero, Act.put, List.setIfInBounds_toArray, List.set_cons_zero, List.set_cons_succ]
                              refine wpAnyH_take (i := 6) (v := ?vv14) rfl (by kernel_rfl) (by kernel_rfl) (by kernel_rfl) (fun _ _ _ h => h) (Or.inl ⟨by rfl, ?hy14⟩) hHeld ?_
                              case hy14 => (intro w hSw; (try dsimp only at hSw); first | (go_simp; done) | (go_simp; with_reducible rfl))
                              try simp only [List.getElem_toArray, List.getElem_cons_succ, List.getElem_cons_zero, Act.put, List.setIfInBounds_toArray, List.set_cons_zero, List.set_cons_succ]
                              refine wpAnyH_take (i := 7) (v := ?vv15) rfl (by kernel_rfl) (by kernel_rfl) (by kernel_rfl) (fun _ _ _ h => h) (Or.inl ⟨by rfl, ?hy15⟩) hHeld ?_
                              case hy15 => (intro w hSw; (try dsimp only at hSw); first | (go_simp; done) | (go_simp; with_reducible rfl))
                              try simp only [List.getElem_toArray, List.getElem_cons_succ, List.getElem_cons_zero, Act.put, List.setIfInBounds_toArray, List.set_cons_zero, List.set_cons_succ]
                              refine wpAnyH_take (i := 8) (v := ?vv16) rfl (by kernel_rfl) (by kernel_rfl) (by kernel_rfl) (fun _ _ _ h => h) (Or.inl ⟨by rfl, ?hy16⟩) hHeld ?_
                              case hy16 => (intro w hSw; (try dsimp only at hSw); first | (go_simp; done) | (go_simp; with_reducible rfl))
                              try simp only [List.getElem_toArray, List.getElem_cons_succ, List.getElem_cons_zero, Act.put, List.setIfInBounds_toArray, List.set_cons_zero, List.set_cons_succ]
                              refine wpAnyH_take (i := 9) (v := ?vv17) rfl (by kernel_rfl) (by kernel_rfl) (by kernel_rfl) (fun _ _ _ h => h) (Or.inl ⟨by rfl, ?hy17⟩) hHeld ?_
                              case hy17 => (intro w hSw; (try dsimp only at hSw); first | (go_simp; done) | (go_simp; with_reducible rfl))
                              try simp only [List.getElem_toArray, List.getElem_cons_succ, List.getElem_cons_zero, Act.put, List.setIfInBounds_toArray, List.set_cons_zero, List.set_cons_succ]
                              refine wpAnyH_take (i := 10) (v := ?vv18) rfl (by kernel_rfl) (by kernel_rfl) (by kernel_rfl) (fun _ _ _ h => h) (Or.inl ⟨by rfl, ?hy18⟩) hHeld ?_
                              case hy18 => (intro w hSw; (try dsimp only at hSw); first | (go_simp; done) | (go_simp; with_reducible rfl))
                              try simp only [List.getElem_toArray, List.getElem_cons_succ, List.getElem_cons_zero, Act.put, List.setIfInBounds_toArray, List.set_cons_zero, List.set_cons_succ]
                              refine wpAnyH_take (i := 11) (v := ?vv19) rfl (by kernel_rfl) (by kernel_rfl) (by kernel_rfl) (fun _ _ _ h => h) (Or.inl ⟨by rfl, ?hy19⟩) hHeld ?_
                              case hy19 => (intro w hSw; (try dsimp only at hSw); first | (go_simp; done) | (go_simp; with_reducible rfl))
                              try simp only [List.getElem_toArray, List.getElem_cons_succ, List.getElem_cons_zero, Act.put, List.setIfInBounds_toArray, List.set_cons_zero, List.set_cons_succ]
                              refine wpAnyH_take (i := 12) (v := ?vv20) rfl (by kernel_rfl) (by kernel_rfl) (by kernel_rfl) (fun _ _ _ h => h) (Or.inl ⟨by rfl, ?hy20⟩) hHeld ?_
                              case hy20 => (intro w hSw; (try dsimp only at hSw); first | (go_simp; done) | (go_simp; with_reducible rfl))
                              try simp only [List.getElem_toArray, List.getElem_cons_succ, List.getElem_cons_zero, Act.put, List.setIfInBounds_toArray, List.set_cons_zero, List.set_cons_succ]
                              refine wpAnyH_take (i := 13) (v := ?vv21) rfl (by kernel_rfl) (by kernel_rfl) (by kernel_rfl) (fun _ _ _ h => h) (Or.inl ⟨by rfl, ?hy21⟩) hHeld ?_
                              case hy21 => (intro w hSw; (try dsimp only at hSw); first | (go_simp; done) | (go_simp; with_reducible rfl))
                              try simp only [List.getElem_toArray, List.getElem_cons_succ, List.getElem_cons_zero, Act.put, List.setIfInBounds_toArray, List.set_cons_zero, List.set_cons_succ]
                              refine wpAnyH_take (i := 14) (v := ?vv22) rfl (by kernel_rfl) (by kernel_rfl) (by kernel_rfl) (fun _ _ _ h => h) (Or.inl ⟨by rfl, ?hy22⟩) hHeld ?_
                              case hy22 => (intro w hSw; (try dsimp only at hSw); first | (go_simp; done) | (go_simp; with_reducible rfl))
                              try simp only [List.getElem_toArray, List.getElem_cons_succ, List.getElem_cons_zero, Act.put, List.setIfInBounds_toArray, List.set_cons_zero, List.set_cons_succ]
                              refine wpAnyH_take (i := 15) (v := ?vv23) rfl (by kernel_rfl) (by kernel_rfl) (by kernel_rfl) (fun _ _ _ h => h) (Or.inl ⟨by rfl, ?hy23⟩) hHeld ?_
                              case hy23 => (intro w hSw; (try dsimp only at hSw); first | (go_simp; done) | (go_simp; with_reducible rfl))
                              try simp only [List.getElem_toArray, List.getElem_cons_succ, List.getElem_cons_zero, Act.put, List.setIfInBounds_toArray, List.set_cons_zero, List.set_cons_succ]
                              refine wpAnyH_take (i := 16) (v := ?vv24) rfl (by kernel_rfl) (by kernel_rfl) (by kernel_rfl) (fun _ _ _ h => h) (Or.inl ⟨by rfl, ?hy24⟩) hHeld ?_
                              case hy24 => (intro w hSw; (try dsimp only at hSw); first | (go_simp; done) | (go_simp; with_reducible rfl))
                              try simp only [List.getElem_toArray, List.getElem_cons_succ, List.getElem_cons_zero, Act.put, List.setIfInBounds_toArray, List.set_cons_zero, List.set_cons_succ]
                              refine wpAnyH_take (i := 17) (v := ?vv25) rfl (by kernel_rfl) (by kernel_rfl) (by kernel_rfl) (fun _ _ _ h => h) (Or.inl ⟨by rfl, ?hy25⟩) hHeld ?_
                              case hy25 => (intro w hSw; (try dsimp only at hSw); first | (go_simp; done) | (go_simp; with_reducible rfl))
                              try simp only [List.getElem_toArray, List.getElem_cons_succ, List.getElem_cons_zero, Act.put, List.setIfInBounds_toArray, List.set_cons_zero, List.set_cons_succ]
                              refine wpAnyH_take (i := 18) (v := ?vv26) rfl (by kernel_rfl) (by kernel_rfl) (by kernel_rfl) (fun _ _ _ h => h) (Or.inl ⟨by rfl, ?hy26⟩) hHeld ?_
                              case hy26 => (intro w hSw; (try dsimp only at hSw); first | (go_simp; done) | (go_simp; with_reducible rfl))
                              try simp only [List.getElem_toArray, List.getElem_cons_succ, List.getElem_cons_zero, Act.put, List.setIfInBounds_toArray, List.set_cons_zero, List.set_cons_succ]
                              refine wpAnyH_take (i := 19) (v := ?vv27) rfl (by kernel_rfl) (by kernel_rfl) (by kernel_rfl) (fun _ _ _ h => h) (Or.inl ⟨by rfl, ?hy27⟩) hHeld ?_
                              case hy27 => (intro w hSw; (try dsimp only at hSw); first | (go_simp; done) | (go_simp; with_reducible rfl))
                              try simp only [List.getElem_toArray, List.getElem_cons_succ, List.getElem_cons_zero, Act.put, List.setIfInBounds_toArray, List.set_cons_zero, List.set_cons_succ]
                              refine wpAnyH_take (i := 20) (v := ?vv28) rfl (by kernel_rfl) (by kernel_rfl) (by kernel_rfl) (fun _ _ _ h => h) (Or.inl ⟨by rfl, ?hy28⟩) hHeld ?_
                              case hy28 => (intro w hSw; (try dsimp only at hSw); first | (go_simp; done) | (go_simp; with_reducible rfl))
                              try simp only [List.getElem_toArray, List.getElem_cons_succ, List.getElem_cons_zero, Act.put, List.setIfInBounds_toArray, List.set_cons_zero, List.set_cons_succ]
                              refine wpAnyH_take (i := 21) (v := undef) rfl (by kernel_rfl) (by kernel_rfl) (by kernel_rfl) (fun _ _ _ h => h) (Or.inr ⟨by rfl, rfl⟩) hHeld ?_
                              try simp only [List.getElem_toArray, List.getElem_cons_succ, List.getElem_cons_zero, Act.put, List.setIfInBounds_toArray, List.set_cons_zero, List.set_cons_succ]
                              refine wpAnyH_take (i := 22) (v := undef) rfl (by kernel_rfl) (by kernel_rfl) (by kernel_rfl) (fun _ _ _ h => h) (Or.inr ⟨by rfl, rfl⟩) hHeld ?_
                              try simp only [List.getElem_toArray, List.getElem_cons_succ, List.getElem_cons_zero, Act.put, List.setIfInBounds_toArray, List.set_cons_zero, List.set_cons_succ]
                              refine wpAnyH_take (i := 23) (v := undef) rfl (by kernel_rfl) (by kernel_rfl) (by kernel_rfl) (fun _ _ _ h => h) (Or.inr ⟨by rfl, rfl⟩) hHeld ?_
                              try simp only [List.getElem_toArray, List.getElem_cons_succ, List.getElem_cons_zero, Act.put, List.setIfInBounds_toArray, List.set_cons_zero, List.set_cons_succ]
                              refine wpAnyH_take (i := 24) (v := undef) rfl (by kernel_rfl) (by kernel_rfl) (by kernel_rfl) (fun _ _ _ h => h) (Or.inr ⟨by rfl, rfl⟩) hHeld ?_
                              try simp only [List.getElem_toArray, List.getElem_cons_succ, List.getElem_cons_zero, Act.put, List.setIfInBounds_toArray, List.set_cons_zero, List.set_cons_succ]
                              refine wpAnyH_take (i := 25) (v := undef) rfl (by kernel_rfl) (by kernel_rfl) (by kernel_rfl) (fun _ _ _ h => h) (Or.inr ⟨by rfl, rfl⟩) hHeld ?_
                              try simp only [List.getElem_toArray, List.getElem_cons_succ, List.getElem_cons_zero, Act.put, List.setIfInBounds_toArray, List.set_cons_zero, List.set_cons_succ]
                              refine wpAnyH_take (i := 26) (v := undef) rfl (by kernel_rfl) (by kernel_rfl) (by kernel_rfl) (fun _ _ _ h => h) (Or.inr ⟨by rfl, rfl⟩) hHeld ?_
                              try simp only [List.getElem_toArray, List.getElem_cons_succ, List.getElem_cons_zero, Act.put, List.setIfInBounds_toArray, List.set_cons_zero, List.set_cons_succ]
                              refine wpAnyH_take (i := 27) (v := undef) rfl (by kernel_rfl) (by kernel_rfl) (by kernel_rfl) (fun _ _ _ h => h) (Or.inr ⟨by rfl, rfl⟩) hHeld ?_
                              try simp only [List.getElem_toArray, List.getElem_cons_succ, List.getElem_cons_zero, Act.put, List.setIfInBounds_toArray, List.set_cons_zero, List.set_cons_succ]
                              refine wpAnyH_take (i := 28) (v := ?vv29) rfl (by kernel_rfl) (by kernel_rfl) (by kernel_rfl) (fun _ _ _ h => h) (Or.inl ⟨by rfl, ?hy29⟩) hHeld ?_
                              case hy29 => (intro w hSw; (try dsimp only at hSw); first | (go_simp; done) | (go_simp; with_reducible rfl))
                              try simp only [List.getElem_toArray, List.getElem_cons_succ, List.getElem_cons_zero, Act.put, List.setIfInBounds_toArray, List.set_cons_zero, List.set_cons_succ]
                              refine wpAnyH_take (i := 29) (v := ?vv30) rfl (by kernel_rfl) (by kernel_rfl) (by kernel_rfl) (fun _ _ _ h => h) (Or.inl ⟨by rfl, ?hy30⟩) hHeld ?_
                              case hy30 => (intro w hSw; (try dsimp only at hSw); first | (go_simp; done) | (go_simp; with_reducible rfl))
                              try simp only [List.getElem_toArray, List.getElem_cons_succ, List.getElem_cons_zero, Act.put, List.setIfInBounds_toArray, List.set_cons_zero, List.set_cons_succ]
                              refine wpAnyH_take (i := 30) (v := ?vv31) rfl (by kernel_rfl) (by kernel_rfl) (by kernel_rfl) (fun _ _ _ h => h) (Or.inl ⟨by rfl, ?hy31⟩) hHeld ?_
                              case hy31 => (intro w hSw; (try dsimp only at hSw); first | (go_simp; done) | (go_simp; with_reducible rfl))
                              try simp only [List.getElem_toArray, List.getElem_cons_succ, List.getElem_cons_zero, Act.put, List.setIfInBounds_toArray, List.set_cons_zero, List.set_cons_succ]
                              refine wpAnyH_take (i := 31) (v := ?vv129) rfl (by kernel_rfl) (by kernel_rfl) (by kernel_rfl) (fun _ _ _ h => h) (Or.inl ⟨by rfl, ?hy129⟩) hHeld ?_
                              case hy129 => (intro w hSw; (try dsimp only at hSw); first | (go_simp; done) | (go_simp; with_reducible rfl))
                              try simp only [List.getElem_toArray, List.getElem_cons_succ, List.getElem_cons_zero, Act.put]
                              refine wpAnyH_done (by kernel_rfl) ?_ _
                              clear hHeld
                              show wpList _ _ _ _ _ _
                              go_wp2
                              go_roundw
                              case rel => exact ⟨t + 1, by omega, by go_num, HM3, hid (HO3.out _), hid (HB3.out _)⟩
                              case measure => simp [intOf]; omega
                            · cases hd : bAt (mAt f qn) t
                              · rw [ho] at cb hcd
                                rw [hc] at co
                                rw [hd] at cc
                                rw [ho, hc, hd, Bool.false_or, Bool.true_and] at h3
                                have HM3 : Hid _ := hid h3
                                clear h3 ho hc hd
                                go_wp2
                                refine wp_region_last (fun w' => w'.cell? ⟨b0, m, none⟩ = some (.slice (some ⟨br, 0, none⟩) (nT + 1) (nT + 1)) ∧ w'.cell? ⟨br, t, none⟩ = some (.bool false) ∧ w'.cell? ⟨bl, t, none⟩ = some (.bool false) ∧ w'.cell? ⟨b0, qn, none⟩ = some (.slice (some ⟨b0 + 1 + qn, 0, none⟩) (nT + 1) (nT + 1)) ∧ w'.cell? ⟨b0 + 1 + qn, t, none⟩ = some (.bool false)) (by kernel_rfl) (by kernel_rfl) ⟨cr, cb, co, cn, cc⟩ (fun hHeld => ?_)
                                simp only [cutLast, idle, lastOf]
                                refine wpAnyH_take (i := 0) (v := ?vv136) rfl (by kernel_rfl) (by kernel_rfl) (by kernel_rfl) (fun _ _ _ h => h) (Or.inl ⟨by rfl, ?hy136⟩) hHeld ?_
                                case hy136 => (intro w hSw; (try dsimp only at hSw); first | (go_simp; done) | (go_simp; with_reducible rfl))
                                try simp only [List.getElem_toArray, List.getElem_cons_zero, Act.put, List.setIfInBounds_toArray, List.set_cons_zero, List.set_cons_succ]
                                refine wpAnyH_take (i := 1) (v := ?vv32) rfl (by kernel_rfl) (by kernel_rfl) (by kernel_rfl) (fun _ _ _ h => h) (Or.inl ⟨by rfl, ?hy32⟩) hHeld ?_
                                case hy32 => (intro w hSw; (try dsimp only at hSw); first | (go_simp; done) | (go_simp; with_reducible rfl))
                                try simp only [List.getElem_toArray, List.getElem_cons_succ, List.getElem_cons_zero, Act.put, List.setIfInBounds_toArray, List.set_cons_zero, List.set_cons_succ]
                                refine wpAnyH_take (i := 2) (v := ?vv33) rfl (by kernel_rfl) (by kernel_rfl) (by kernel_rfl) (fun _ _ _ h => h) (Or.inl ⟨by rfl, ?hy33⟩) hHeld ?_
                                case hy33 => (intro w hSw; (try dsimp only at hSw); first | (go_simp; done) | (go_simp; with_reducible rfl))
                                try simp only [List.getElem_toArray, List.getElem_cons_succ, List.getElem_cons_zero, Act.put, List.setIfInBounds_toArray, List.set_cons_zero, List.set_cons_succ]
                                refine wpAnyH_take (i := 3) (v := ?vv34) rfl (by kernel_rfl) (by kernel_rfl) (by kernel_rfl) (fun _ _ _ h => h) (Or.inl ⟨by rfl, ?hy34⟩) hHeld ?_
                                case hy34 => (intro w hSw; (try dsimp only at hSw); first | (go_simp; done) | (go_simp; with_reducible rfl))
                                try simp only [List.getElem_toArray, List.getElem_cons_succ, List.getElem_cons_zero, Act.put, List.setIfInBounds_toArray, List.set_cons_zero, List.set_cons_succ]
                                refine wpAnyH_take (i := 4) (v := ?vv35) rfl (by kernel_rfl) (by kernel_rfl) (by kernel_rfl) (fun _ _ _ h => h) (Or.inl ⟨by rfl, ?hy35⟩) hHeld ?_
                                case hy35 => (intro w hSw; (try dsimp only at hSw); first | (go_simp; done) | (go_simp; with_reducible rfl))
                                try simp only [List.getElem_toArray, List.getElem_cons_succ, List.getElem_cons_zero, Act.put, List.setIfInBounds_toArray, List.set_cons_zero, List.set_cons_succ]
                                refine wpAnyH_take (i := 5) (v := ?vv36) rfl (by kernel_rfl) (by kernel_rfl) (by kernel_rfl) (fun _ _ _ h => h) (Or.inl ⟨by rfl, ?hy36⟩) hHeld ?_
                                case hy36 => (intro w hSw; (try dsimp only at hSw); first | (go_simp; done) | (go_simp; with_reducible rfl))
                                try simp only [List.getElem_toArray, List.getElem_cons_succ, List.getElem_cons_zero, Act.put, List.setIfInBounds_toArray, List.set_cons_zero, List.set_cons_succ]
                                refine wpAnyH_take (i := 6) (v := ?vv37) rfl (by kernel_rfl) (by kernel_rfl) (by kernel_rfl) (fun _ _ _ h => h) (Or.inl ⟨by rfl, ?hy37⟩) hHeld ?_
                                case hy37 => (intro w hSw; (try dsimp only at hSw); first | (go_simp; done) | (go_simp; with_reducible rfl))
                                try simp only [List.getElem_toArray, List.getElem_cons_succ, List.getElem_cons_zero, Act.put, List.setIfInBounds_toArray, List.set_cons_zero, List.set_cons_succ]
                                refine wpAnyH_take (i := 7) (v := ?vv38) rfl (by kernel_rfl) (by kernel_rfl) (by kernel_rfl) (fun _ _ _ h => h) (Or.inl ⟨by rfl, ?hy38⟩) hHeld ?_
                                case hy38 => (intro w hSw; (try dsimp only at hSw); first | (go_simp; done) | (go_simp; with_reducible rfl))
                                try simp only [List.getElem_toArray, List.getElem_cons_succ, List.getElem_cons_zero, Act.put, List.setIfInBounds_toArray, List.set_cons_zero, List.set_cons_succ]
                                refine wpAnyH_take (i := 8) (v := ?vv39) rfl (by kernel_rfl) (by kernel_rfl) (by kernel_rfl) (fun _ _ _ h => h) (Or.inl ⟨by rfl, ?hy39⟩) hHeld ?_
                                case hy39 => (intro w hSw; (try dsimp only at hSw); first | (go_simp; done) | (go_simp; with_reducible rfl))
                                try simp only [List.getElem_toArray, List.getElem_cons_succ, List.getElem_cons_zero, Act.put, List.setIfInBounds_toArray, List.set_cons_zero, List.set_cons_succ]
                                refine wpAnyH_take (i := 9) (v := ?vv40) rfl (by kernel_rfl) (by kernel_rfl) (by kernel_rfl) (fun _ _ _ h => h) (Or.inl ⟨by rfl, ?hy40⟩) hHeld ?_
                                case hy40 => (intro w hSw; (try dsimp only at hSw); first | (go_simp; done) | (go_simp; with_reducible rfl))
                                try simp only [List.getElem_toArray, List.getElem_cons_succ, List.getElem_cons_zero, Act.put, List.setIfInBounds_toArray, List.set_cons_zero, List.set_cons_succ]
                                refine wpAnyH_take (i := 10) (v := ?vv41) rfl (by kernel_rfl) (by kernel_rfl) (by kernel_rfl) (fun _ _ _ h => h) (Or.inl ⟨by rfl, ?hy41⟩) hHeld ?_
                                case hy41 => (intro w hSw; (try dsimp only at hSw); first | (go_simp; done) | (go_simp; with_reducible rfl))
                                try simp only [List.getElem_toArray, List.getElem_cons_succ, List.getElem_cons_zero, Act.put, List.setIfInBounds_toArray, List.set_cons_zero, List.set_cons_succ]
                                refine wpAnyH_take (i := 11) (v := ?vv42) rfl (by kernel_rfl) (by kernel_rfl) (by kernel_rfl) (fun _ _ _ h => h) (Or.inl ⟨by rfl, ?hy42⟩) hHeld ?_
                                case hy42 => (intro w hSw; (try dsimp only at hSw); first | (go_simp; done) | (go_simp; with_reducible rfl))
                                try simp only [List.getElem_toArray, List.getElem_cons_succ, List.getElem_cons_zero, Act.put, List.setIfInBounds_toArray, List.set_cons_zero, List.set_cons_succ]
                                refine wpAnyH_take (i := 12) (v := ?vv43) rfl (by kernel_rfl) (by kernel_rfl) (by kernel_rfl) (fun _ _ _ h => h) (Or.inl ⟨by rfl, ?hy43⟩) hHeld ?_
                                case hy43 => (intro w hSw; (try dsimp only at hSw); first | (go_simp; done) | (go_simp; with_reducible rfl))
                                try simp only [List.getElem_toArray, List.getElem_cons_succ, List.getElem_cons_zero, Act.put, List.setIfInBounds_toArray, List.set_cons_zero, List.set_cons_succ]
                                refine wpAnyH_take (i := 13) (v := ?vv44) rfl (by kernel_rfl) (by kernel_rfl) (by kernel_rfl) (fun _ _ _ h => h) (Or.inl ⟨by rfl, ?hy44⟩) hHeld ?_
                                case hy44 => (intro w hSw; (try dsimp only at hSw); first | (go_simp; done) | (go_simp; with_reducible rfl))
                                try simp only [List.getElem_toArray, List.getElem_cons_succ, List.getElem_cons_zero, Act.put, List.setIfInBounds_toArray, List.set_cons_zero, List.set_cons_succ]
                                refine wpAnyH_take (i := 14) (v := ?vv45) rfl (by kernel_rfl) (by kernel_rfl) (by kernel_rfl) (fun _ _ _ h => h) (Or.inl ⟨by rfl, ?hy45⟩) hHeld ?_
                                case hy45 => (intro w hSw; (try dsimp only at hSw); first | (go_simp; done) | (go_simp; with_reducible rfl))
                                try simp only [List.getElem_toArray, List.getElem_cons_succ, List.getElem_cons_zero, Act.put, List.setIfInBounds_toArray, List.set_cons_zero, List.set_cons_succ]
                                refine wpAnyH_take (i := 15) (v := ?vv46) rfl (by kernel_rfl) (by kernel_rfl) (by kernel_rfl) (fun _ _ _ h => h) (Or.inl ⟨by rfl, ?hy46⟩) hHeld ?_
                                case hy46 => (intro w hSw; (try dsimp only at hSw); first | (go_simp; done) | (go_simp; with_reducible rfl))
                                try simp only [List.getElem_toArray, List.getElem_cons_succ, List.getElem_cons_zero, Act.put, List.setIfInBounds_toArray, List.set_cons_zero, List.set_cons_succ]
                                refine wpAnyH_take (i := 16) (v := ?vv47) rfl (by kernel_rfl) (by kernel_rfl) (by kernel_rfl) (fun _ _ _ h => h) (Or.inl ⟨by rfl, ?hy47⟩) hHeld ?_
                                case hy47 => (intro w hSw; (try dsimp only at hSw); first | (go_simp; done) | (go_simp; with_reducible rfl))
                                try simp only [List.getElem_toArray, List.getElem_cons_succ, List.getElem_cons_zero, Act.put, List.setIfInBounds_toArray, List.set_cons_zero, List.set_cons_succ]
                                refine wpAnyH_take (i := 17) (v := ?vv48) rfl (by kernel_rfl) (by kernel_rfl) (by kernel_rfl) (fun _ _ _ h => h) (Or.inl ⟨by rfl, ?hy48⟩) hHeld ?_
                                case hy48 => (intro w hSw; (try dsimp only at hSw); first | (go_simp; done) | (go_simp; with_reducible rfl))
                                try simp only [List.getElem_toArray, List.getElem_cons_succ, List.getElem_cons_zero, Act.put, List.setIfInBounds_toArray, List.set_cons_zero, List.set_cons_succ]
                                refine wpAnyH_take (i := 18) (v := ?vv49) rfl (by kernel_rfl) (by kernel_rfl) (by kernel_rfl) (fun _ _ _ h => h) (Or.inl ⟨by rfl, ?hy49⟩) hHeld ?_
                                case hy49 => (intro w hSw; (try dsimp only at hSw); first | (go_simp; done) | (go_simp; with_reducible rfl))
                                try simp only [List.getElem_toArray, List.getElem_cons_succ, List.getElem_cons_zero, Act.put, List.setIfInBounds_toArray, List.set_cons_zero, List.set_cons_succ]
                                refine wpAnyH_take (i := 19) (v := ?vv50) rfl (by kernel_rfl) (by kernel_rfl) (by kernel_rfl) (fun _ _ _ h => h) (Or.inl ⟨by rfl, ?hy50⟩) hHeld ?_
                                case hy50 => (intro w hSw; (try dsimp only at hSw); first | (go_simp; done) | (go_simp; with_reducible rfl))
                                try simp only [List.getElem_toArray, List.getElem_cons_succ, List.getElem_cons_zero, Act.put, List.setIfInBounds_toArray, List.set_cons_zero, List.set_cons_succ]
                                refine wpAnyH_take (i := 20) (v := ?vv51) rfl (by kernel_rfl) (by kernel_rfl) (by kernel_rfl) (fun _ _ _ h => h) (Or.inl ⟨by rfl, ?hy51⟩) hHeld ?_
                                case hy51 => (intro w hSw; (try dsimp only at hSw); first | (go_simp; done) | (go_simp; with_reducible rfl))
                                try simp only [List.getElem_toArray, List.getElem_cons_succ, List.getElem_cons_zero, Act.put, List.setIfInBounds_toArray, List.set_cons_zero, List.set_cons_succ]
                                refine wpAnyH_take (i := 21) (v := ?vv52) rfl (by kernel_rfl) (by kernel_rfl) (by kernel_rfl) (fun _ _ _ h => h) (Or.inl ⟨by rfl, ?hy52⟩) hHeld ?_
                                case hy52 => (intro w hSw; (try dsimp only at hSw); first | (go_simp; done) | (go_simp; with_reducible rfl))
                                try simp only [List.getElem_toArray, List.getElem_cons_succ, List.getElem_cons_zero, Act.put, List.setIfInBounds_toArray, List.set_cons_zero, List.set_cons_succ]
                                refine wpAnyH_take (i := 22) (v := ?vv53) rfl (by kernel_rfl) (by kernel_rfl) (by kernel_rfl) (fun _ _ _ h => h) (Or.inl ⟨by rfl, ?hy53⟩) hHeld ?_
                                case hy53 => (intro w hSw; (try dsimp only at hSw); first | (go_simp; done) | (go_simp; with_reducible rfl))
                                try simp only [List.getElem_toArray, List.getElem_cons_succ, List.getElem_cons_zero, Act.put, List.setIfInBounds_toArray, List.set_cons_zero, List.set_cons_succ]
                                refine wpAnyH_take (i := 23) (v := ?vv54) rfl (by kernel_rfl) (by kernel_rfl) (by kernel_rfl) (fun _ _ _ h => h) (Or.inl ⟨by rfl, ?hy54⟩) hHeld ?_
                                case hy54 => (intro w hSw; (try dsimp only at hSw); first | (go_simp; done) | (go_simp; with_reducible rfl))
                                try simp only [List.getElem_toArray, List.getElem_cons_succ, List.getElem_cons_zero, Act.put, List.setIfInBounds_toArray, List.set_cons_zero, List.set_cons_succ]
                                refine wpAnyH_take (i := 24) (v := ?vv55) rfl (by kernel_rfl) (by kernel_rfl) (by kernel_rfl) (fun _ _ _ h => h) (Or.inl ⟨by rfl, ?hy55⟩) hHeld ?_
                                case hy55 => (intro w hSw; (try dsimp only at hSw); first | (go_simp; done) | (go_simp; with_reducible rfl))
                                try simp only [List.getElem_toArray, List.getElem_cons_succ, List.getElem_cons_zero, Act.put, List.setIfInBounds_toArray, List.set_cons_zero, List.set_cons_succ]
                                refine wpAnyH_take (i := 25) (v := ?vv56) rfl (by kernel_rfl) (by kernel_rfl) (by kernel_rfl) (fun _ _ _ h => h) (Or.inl ⟨by rfl, ?hy56⟩) hHeld ?_
                                case hy56 => (intro w hSw; (try dsimp only at hSw); first | (go_simp; done) | (go_simp; with_reducible rfl))
                                try simp only [List.getElem_toArray, List.getElem_cons_succ, List.getElem_cons_zero, Act.put, List.setIfInBounds_toArray, List.set_cons_zero, List.set_cons_succ]
                                refine wpAnyH_take (i := 26) (v := ?vv57) rfl (by kernel_rfl) (by kernel_rfl) (by kernel_rfl) (fun _ _ _ h => h) (Or.inl ⟨by rfl, ?hy57⟩) hHeld ?_
                                case hy57 => (intro w hSw; (try dsimp only at hSw); first | (go_simp; done) | (go_simp; with_reducible rfl))
                                try simp only [List.getElem_toArray, List.getElem_cons_succ, List.getElem_cons_zero, Act.put, List.setIfInBounds_toArray, List.set_cons_zero, List.set_cons_succ]
                                refine wpAnyH_take (i := 27) (v := ?vv58) rfl (by kernel_rfl) (by kernel_rfl) (by kernel_rfl) (fun _ _ _ h => h) (Or.inl ⟨by rfl, ?hy58⟩) hHeld ?_
                                case hy58 => (intro w hSw; (try dsimp only at hSw); first | (go_simp; done) | (go_simp; with_reducible rfl))
                                try simp only [List.getElem_toArray, List.getElem_cons_succ, List.getElem_cons_zero, Act.put, List.setIfInBounds_toArray, List.set_cons_zero, List.set_cons_succ]
                                refine wpAnyH_take (i := 28) (v := ?vv59) rfl (by kernel_rfl) (by kernel_rfl) (by kernel_rfl) (fun _ _ _ h => h) (Or.inl ⟨by rfl, ?hy59⟩) hHeld ?_
                                case hy59 => (intro w hSw; (try dsimp only at hSw); first | (go_simp; done) | (go_simp; with_reducible rfl))
                                try simp only [List.getElem_toArray, List.getElem_cons_succ, List.getElem_cons_zero, Act.put, List.setIfInBounds_toArray, List.set_cons_zero, List.set_cons_succ]
                                refine wpAnyH_take (i := 29) (v := ?vv60) rfl (by kernel_rfl) (by kernel_rfl) (by kernel_rfl) (fun _ _ _ h => h) (Or.inl ⟨by rfl, ?hy60⟩) hHeld ?_
                                case hy60 => (intro w hSw; (try dsimp only at hSw); first | (go_simp; done) | (go_simp; with_reducible rfl))
                                try simp only [List.getElem_toArray, List.getElem_cons_succ, List.getElem_cons_zero, Act.put, List.setIfInBounds_toArray, List.set_cons_zero, List.set_cons_succ]
                                refine wpAnyH_take (i := 30) (v := ?vv61) rfl (by kernel_rfl) (by kernel_rfl) (by kernel_rfl) (fun _ _ _ h => h) (Or.inl ⟨by rfl, ?hy61⟩) hHeld ?_
                                case hy61 => (intro w hSw; (try dsimp only at hSw); first | (go_simp; done) | (go_simp; with_reducible rfl))
                                try simp only [List.getElem_toArray, List.getElem_cons_succ, List.getElem_cons_zero, Act.put, List.setIfInBounds_toArray, List.set_cons_zero, List.set_cons_succ]
                                refine wpAnyH_take (i := 31) (v := ?vv130) rfl (by kernel_rfl) (by kernel_rfl) (by kernel_rfl) (fun _ _ _ h => h) (Or.inl ⟨by rfl, ?hy130⟩) hHeld ?_
                                case hy130 => (intro w hSw; (try dsimp only at hSw); first | (go_simp; done) | (go_simp; with_reducible rfl))
                                try simp only [List.getElem_toArray, List.getElem_cons_succ, List.getElem_cons_zero, Act.put]
                                refine wpAnyH_done (by kernel_rfl) ?_ _
                                clear hHeld
                                show wpList _ _ _ _ _ _
                                go_wp2
                                go_roundw
                                case rel => exact ⟨t + 1, by omega, by go_num, HM3, hid (HO3.out _), hid (HB3.out _)⟩
                                case measure => simp [intOf]; omega
                              · rw [ho] at cb hcd
                                rw [hc] at co
                                rw [hd] at cc
                                rw [ho, hc, hd, Bool.false_or, Bool.true_and] at h3
                                have HM3 : Hid _ := hid h3
                                clear h3 ho hc hd
                                go_wp2
                                refine wp_region_last (fun w' => w'.cell? ⟨b0, m, none⟩ = some (.slice (some ⟨br, 0, none⟩) (nT + 1) (nT + 1)) ∧ w'.cell? ⟨br, t, none⟩ = some (.bool false) ∧ w'.cell? ⟨bl, t, none⟩ = some (.bool false) ∧ w'.cell? ⟨b0, qn, none⟩ = some (.slice (some ⟨b0 + 1 + qn, 0, none⟩) (nT + 1) (nT + 1)) ∧ w'.cell? ⟨b0 + 1 + qn, t, none⟩ = some (.bool true)) (by kernel_rfl) (by kernel_rfl) ⟨cr, cb, co, cn, cc⟩ (fun hHeld => ?_)
                                simp only [cutLast, idle, lastOf]
                                refine wpAnyH_take (i := 0) (v := ?vv137) rfl (by kernel_rfl) (by kernel_rfl) (by kernel_rfl) (fun _ _ _ h => h) (Or.inl ⟨by rfl, ?hy137⟩) hHeld ?_
                                case hy137 => (intro w hSw; (try dsimp only at hSw); first | (go_simp; done) | (go_simp; with_reducible rfl))
                                try simp only [List.getElem_toArray, List.getElem_cons_zero, Act.put, List.setIfInBounds_toArray, List.set_cons_zero, List.set_cons_succ]
                                refine wpAnyH_take (i := 1) (v := ?vv62) rfl (by kernel_rfl) (by kernel_rfl) (by kernel_rfl) (fun _ _ _ h => h) (Or.inl ⟨by rfl, ?hy62⟩) hHeld ?_
                                case hy62 => (intro w hSw; (try dsimp only at hSw); first | (go_simp; done) | (go_simp; with_reducible rfl))
                                try simp only [List.getElem_toArray, List.getElem_cons_succ, List.getElem_cons_zero, Act.put, List.setIfInBounds_toArray, List.set_cons_zero, List.set_cons_succ]
                                refine wpAnyH_take (i := 2) (v := ?vv63) rfl (by kernel_rfl) (by kernel_rfl) (by kernel_rfl) (fun _ _ _ h => h) (Or.inl ⟨by rfl, ?hy63⟩) hHeld ?_
                                case hy63 => (intro w hSw; (try dsimp only at hSw); first | (go_simp; done) | (go_simp; with_reducible rfl))
                                try simp only [List.getElem_toArray, List.getElem_cons_succ, List.getElem_cons_zero, Act.put, List.setIfInBounds_toArray, List.set_cons_zero, List.set_cons_succ]
                                refine wpAnyH_take (i := 3) (v := ?vv64) rfl (by kernel_rfl) (by kernel_rfl) (by kernel_rfl) (fun _ _ _ h => h) (Or.inl ⟨by rfl, ?hy64⟩) hHeld ?_
                                case hy64 => (intro w hSw; (try dsimp only at hSw); first | (go_simp; done) | (go_simp; with_reducible rfl))
                                try simp only [List.getElem_toArray, List.getElem_cons_succ, List.getElem_cons_zero, Act.put, List.setIfInBounds_toArray, List.set_cons_zero, List.set_cons_succ]
                                refine wpAnyH_take (i := 4) (v := ?vv65) rfl (by kernel_rfl) (by kernel_rfl) (by kernel_rfl) (fun _ _ _ h => h) (Or.inl ⟨by rfl, ?hy65⟩) hHeld ?_
                                case hy65 => (intro w hSw; (try dsimp only at hSw); first | (go_simp; done) | (go_simp; with_reducible rfl))
                                try simp only [List.getElem_toArray, List.getElem_cons_succ, List.getElem_cons_zero, Act.put, List.setIfInBounds_toArray, List.set_cons_zero, List.set_cons_succ]
                                refine wpAnyH_take (i := 5) (v := ?vv66) rfl (by kernel_rfl) (by kernel_rfl) (by kernel_rfl) (fun _ _ _ h => h) (Or.inl ⟨by rfl, ?hy66⟩) hHeld ?_
                                case hy66 => (intro w hSw; (try dsimp only at hSw); first | (go_simp; done) | (go_simp; with_reducible rfl))
                                try simp only [List.getElem_toArray, List.getElem_cons_succ, List.getElem_cons_zero, Act.put, List.setIfInBounds_toArray, List.set_cons_zero, List.set_cons_succ]
                                refine wpAnyH_take (i := 6) (v := ?vv67) rfl (by kernel_rfl) (by kernel_rfl) (by kernel_rfl) (fun _ _ _ h => h) (Or.inl ⟨by rfl, ?hy67⟩) hHeld ?_
                                case hy67 => (intro w hSw; (try dsimp only at hSw); first | (go_simp; done) | (go_simp; with_reducible rfl))
                                try simp only [List.getElem_toArray, List.getElem_cons_succ, List.getElem_cons_zero, Act.put, List.setIfInBounds_toArray, List.set_cons_zero, List.set_cons_succ]
                                refine wpAnyH_take (i := 7) (v := ?vv68) rfl (by kernel_rfl) (by kernel_rfl) (by kernel_rfl) (fun _ _ _ h => h) (Or.inl ⟨by rfl, ?hy68⟩) hHeld ?_
                                case hy68 => (intro w hSw; (try dsimp only at hSw); first | (go_simp; done) | (go_simp; with_reducible rfl))
                                try simp only [List.getElem_toArray, List.getElem_cons_succ, List.getElem_cons_zero, Act.put, List.setIfInBounds_toArray, List.set_cons_zero, List.set_cons_succ]
                                refine wpAnyH_take (i := 8) (v := ?vv69) rfl (by kernel_rfl) (by kernel_rfl) (by kernel_rfl) (fun _ _ _ h => h) (Or.inl ⟨by rfl, ?hy69⟩) hHeld ?_
                                case hy69 => (intro w hSw; (try dsimp only at hSw); first | (go_simp; done) | (go_simp; with_reducible rfl))
                                try simp only [List.getElem_toArray, List.getElem_cons_succ, List.getElem_cons_zero, Act.put, List.setIfInBounds_toArray, List.set_cons_zero, List.set_cons_succ]
                                refine wpAnyH_take (i := 9) (v := ?vv70) rfl (by kernel_rfl) (by kernel_rfl) (by kernel_rfl) (fun _ _ _ h => h) (Or.inl ⟨by rfl, ?hy70⟩) hHeld ?_
                                case hy70 => (intro w hSw; (try dsimp only at hSw); first | (go_simp; done) | (go_simp; with_reducible rfl))
                                try simp only [List.getElem_toArray, List.getElem_cons_succ, List.getElem_cons_zero, Act.put, List.setIfInBounds_toArray, List.set_cons_zero, List.set_cons_succ]
                                refine wpAnyH_take (i := 10) (v := ?vv71) rfl (by kernel_rfl) (by kernel_rfl) (by kernel_rfl) (fun _ _ _ h => h) (Or.inl ⟨by rfl, ?hy71⟩) hHeld ?_
                                case hy71 => (intro w hSw; (try dsimp only at hSw); first | (go_simp; done) | (go_simp; with_reducible rfl))
                                try simp only [List.getElem_toArray, List.getElem_cons_succ, List.getElem_cons_zero, Act.put, List.setIfInBounds_toArray, List.set_cons_zero, List.set_cons_succ]
                                refine wpAnyH_take (i := 11) (v := ?vv72) rfl (by kernel_rfl) (by kernel_rfl) (by kernel_rfl) (fun _ _ _ h => h) (Or.inl ⟨by rfl, ?hy72⟩) hHeld ?_
                                case hy72 => (intro w hSw; (try dsimp only at hSw); first | (go_simp; done) | (go_simp; with_reducible rfl))
                                try simp only [List.getElem_toArray, List.getElem_cons_succ, List.getElem_cons_zero, Act.put, List.setIfInBounds_toArray, List.set_cons_zero, List.set_cons_succ]
                                refine wpAnyH_take (i := 12) (v := ?vv73) rfl (by kernel_rfl) (by kernel_rfl) (by kernel_rfl) (fun _ _ _ h => h) (Or.inl ⟨by rfl, ?hy73⟩) hHeld ?_
                                case hy73 => (intro w hSw; (try dsimp only at hSw); first | (go_simp; done) | (go_simp; with_reducible rfl))
                                try simp only [List.getElem_toArray, List.getElem_cons_succ, List.getElem_cons_zero, Act.put, List.setIfInBounds_toArray, List.set_cons_zero, List.set_cons_succ]
                                refine wpAnyH_take (i := 13) (v := ?vv74) rfl (by kernel_rfl) (by kernel_rfl) (by kernel_rfl) (fun _ _ _ h => h) (Or.inl ⟨by rfl, ?hy74⟩) hHeld ?_
                                case hy74 => (intro w hSw; (try dsimp only at hSw); first | (go_simp; done) | (go_simp; with_reducible rfl))
                                try simp only [List.getElem_toArray, List.getElem_cons_succ, List.getElem_cons_zero, Act.put, List.setIfInBounds_toArray, List.set_cons_zero, List.set_cons_succ]
                                refine wpAnyH_take (i := 14) (v := ?vv75) rfl (by kernel_rfl) (by kernel_rfl) (by kernel_rfl) (fun _ _ _ h => h) (Or.inl ⟨by rfl, ?hy75⟩) hHeld ?_
                                case hy75 => (intro w hSw; (try dsimp only at hSw); first | (go_simp; done) | (go_simp; with_reducible rfl))
                                try simp only [List.getElem_toArray, List.getElem_cons_succ, List.getElem_cons_zero, Act.put, List.setIfInBounds_toArray, List.set_cons_zero, List.set_cons_succ]
                                refine wpAnyH_take (i := 15) (v := ?vv76) rfl (by kernel_rfl) (by kernel_rfl) (by kernel_rfl) (fun _ _ _ h => h) (Or.inl ⟨by rfl, ?hy76⟩) hHeld ?_
                                case hy76 => (intro w hSw; (try dsimp only at hSw); first | (go_simp; done) | (go_simp; with_reducible rfl))
                                try simp only [List.getElem_toArray, List.getElem_cons_succ, List.getElem_cons_zero, Act.put, List.setIfInBounds_toArray, List.set_cons_zero, List.set_cons_succ]
                                refine wpAnyH_take (i := 16) (v := ?vv77) rfl (by kernel_rfl) (by kernel_rfl) (by kernel_rfl) (fun _ _ _ h => h) (Or.inl ⟨by rfl, ?hy77⟩) hHeld ?_
                                case hy77 => (intro w hSw; (try dsimp only at hSw); first | (go_simp; done) | (go_simp; with_reducible rfl))
                                try simp only [List.getElem_toArray, List.getElem_cons_succ, List.getElem_cons_zero, Act.put, List.setIfInBounds_toArray, List.set_cons_zero, List.set_cons_succ]
                                refine wpAnyH_take (i := 17) (v := ?vv78) rfl (by kernel_rfl) (by kernel_rfl) (by kernel_rfl) (fun _ _ _ h => h) (Or.inl ⟨by rfl, ?hy78⟩) hHeld ?_
                                case hy78 => (intro w hSw; (try dsimp only at hSw); first | (go_simp; done) | (go_simp; with_reducible rfl))
                                try simp only [List.getElem_toArray, List.getElem_cons_succ, List.getElem_cons_zero, Act.put, List.setIfInBounds_toArray, List.set_cons_zero, List.set_cons_succ]
                                refine wpAnyH_take (i := 18) (v := ?vv79) rfl (by kernel_rfl) (by kernel_rfl) (by kernel_rfl) (fun _ _ _ h => h) (Or.inl ⟨by rfl, ?hy79⟩) hHeld ?_
                                case hy79 => (intro w hSw; (try dsimp only at hSw); first | (go_simp; done) | (go_simp; with_reducible rfl))
                                try simp only [List.getElem_toArray, List.getElem_cons_succ, List.getElem_cons_zero, Act.put, List.setIfInBounds_toArray, List.set_cons_zero, List.set_cons_succ]
                                refine wpAnyH_take (i := 19) (v := ?vv80) rfl (by kernel_rfl) (by kernel_rfl) (by kernel_rfl) (fun _ _ _ h => h) (Or.inl ⟨by rfl, ?hy80⟩) hHeld ?_
                                case hy80 => (intro w hSw; (try dsimp only at hSw); first | (go_simp; done) | (go_simp; with_reducible rfl))
                                try simp only [List.getElem_toArray, List.getElem_cons_succ, List.getElem_cons_zero, Act.put, List.setIfInBounds_toArray, List.set_cons_zero, List.set_cons_succ]
                                refine wpAnyH_take (i := 20) (v := ?vv81) rfl (by kernel_rfl) (by kernel_rfl) (by kernel_rfl) (fun _ _ _ h => h) (Or.inl ⟨by rfl, ?hy81⟩) hHeld ?_
                                case hy81 => (intro w hSw; (try dsimp only at hSw); first | (go_simp; done) | (go_simp; with_reducible rfl))
                                try simp only [List.getElem_toArray, List.getElem_cons_succ, List.getElem_cons_zero, Act.put, List.setIfInBounds_toArray, List.set_cons_zero, List.set_cons_succ]
                                refine wpAnyH_take (i := 21) (v := ?vv82) rfl (by kernel_rfl) (by kernel_rfl) (by kernel_rfl) (fun _ _ _ h => h) (Or.inl ⟨by rfl, ?hy82⟩) hHeld ?_
                                case hy82 => (intro w hSw; (try dsimp only at hSw); first | (go_simp; done) | (go_simp; with_reducible rfl))
                                try simp only [List.getElem_toArray, List.getElem_cons_succ, List.getElem_cons_zero, Act.put, List.setIfInBounds_toArray, List.set_cons_zero, List.set_cons_succ]
                                refine wpAnyH_take (i := 22) (v := ?vv83) rfl (by kernel_rfl) (by kernel_rfl) (by kernel_rfl) (fun _ _ _ h => h) (Or.inl ⟨by rfl, ?hy83⟩) hHeld ?_
                                case hy83 => (intro w hSw; (try dsimp only at hSw); first | (go_simp; done) | (go_simp; with_reducible rfl))
                                try simp only [List.getElem_toArray, List.getElem_cons_succ, List.getElem_cons_zero, Act.put, List.setIfInBounds_toArray, List.set_cons_zero, List.set_cons_succ]
                                refine wpAnyH_take (i := 23) (v := ?vv84) rfl (by kernel_rfl) (by kernel_rfl) (by kernel_rfl) (fun _ _ _ h => h) (Or.inl ⟨by rfl, ?hy84⟩) hHeld ?_
                                case hy84 => (intro w hSw; (try dsimp only at hSw); first | (go_simp; done) | (go_simp; with_reducible rfl))
                                try simp only [List.getElem_toArray, List.getElem_cons_succ, List.getElem_cons_zero, Act.put, List.setIfInBounds_toArray, List.set_cons_zero, List.set_cons_succ]
                                refine wpAnyH_take (i := 24) (v := ?vv85) rfl (by kernel_rfl) (by kernel_rfl) (by kernel_rfl) (fun _ _ _ h => h) (Or.inl ⟨by rfl, ?hy85⟩) hHeld ?_
                                case hy85 => (intro w hSw; (try dsimp only at hSw); first | (go_simp; done) | (go_simp; with_reducible rfl))
                                try simp only [List.getElem_toArray, List.getElem_cons_succ, List.getElem_cons_zero, Act.put, List.setIfInBounds_toArray, List.set_cons_zero, List.set_cons_succ]
                                refine wpAnyH_take (i := 25) (v := ?vv86) rfl (by kernel_rfl) (by kernel_rfl) (by kernel_rfl) (fun _ _ _ h => h) (Or.inl ⟨by rfl, ?hy86⟩) hHeld ?_
                                case hy86 => (intro w hSw; (try dsimp only at hSw); first | (go_simp; done) | (go_simp; with_reducible rfl))
                                try simp only [List.getElem_toArray, List.getElem_cons_succ, List.getElem_cons_zero, Act.put, List.setIfInBounds_toArray, List.set_cons_zero, List.set_cons_succ]
                                refine wpAnyH_take (i := 26) (v := ?vv87) rfl (by kernel_rfl) (by kernel_rfl) (by kernel_rfl) (fun _ _ _ h => h) (Or.inl ⟨by rfl, ?hy87⟩) hHeld ?_
                                case hy87 => (intro w hSw; (try dsimp only at hSw); first | (go_simp; done) | (go_simp; with_reducible rfl))
                                try simp only [List.getElem_toArray, List.getElem_cons_succ, List.getElem_cons_zero, Act.put, List.setIfInBounds_toArray, List.set_cons_zero, List.set_cons_succ]
                                refine wpAnyH_take (i := 27) (v := ?vv88) rfl (by kernel_rfl) (by kernel_rfl) (by kernel_rfl) (fun _ _ _ h => h) (Or.inl ⟨by rfl, ?hy88⟩) hHeld ?_
                                case hy88 => (intro w hSw; (try dsimp only at hSw); first | (go_simp; done) | (go_simp; with_reducible rfl))
                                try simp only [List.getElem_toArray, List.getElem_cons_succ, List.getElem_cons_zero, Act.put, List.setIfInBounds_toArray, List.set_cons_zero, List.set_cons_succ]
                                refine wpAnyH_take (i := 28) (v := ?vv89) rfl (by kernel_rfl) (by kernel_rfl) (by kernel_rfl) (fun _ _ _ h => h) (Or.inl ⟨by rfl, ?hy89⟩) hHeld ?_
                                case hy89 => (intro w hSw; (try dsimp only at hSw); first | (go_simp; done) | (go_simp; with_reducible rfl))
                                try simp only [List.getElem_toArray, List.getElem_cons_succ, List.getElem_cons_zero, Act.put, List.setIfInBounds_toArray, List.set_cons_zero, List.set_cons_succ]
                                refine wpAnyH_take (i := 29) (v := ?vv90) rfl (by kernel_rfl) (by kernel_rfl) (by kernel_rfl) (fun _ _ _ h => h) (Or.inl ⟨by rfl, ?hy90⟩) hHeld ?_
                                case hy90 => (intro w hSw; (try dsimp only at hSw); first | (go_simp; done) | (go_simp; with_reducible rfl))
                                try simp only [List.getElem_toArray, List.getElem_cons_succ, List.getElem_cons_zero, Act.put, List.setIfInBounds_toArray, List.set_cons_zero, List.set_cons_succ]
                                refine wpAnyH_take (i := 30) (v := ?vv91) rfl (by kernel_rfl) (by kernel_rfl) (by kernel_rfl) (fun _ _ _ h => h) (Or.inl ⟨by rfl, ?hy91⟩) hHeld ?_
                                case hy91 => (intro w hSw; (try dsimp only at hSw); first | (go_simp; done) | (go_simp; with_reducible rfl))
                                try simp only [List.getElem_toArray, List.getElem_cons_succ, List.getElem_cons_zero, Act.put, List.setIfInBounds_toArray, List.set_cons_zero, List.set_cons_succ]
                                refine wpAnyH_take (i := 31) (v := ?vv131) rfl (by kernel_rfl) (by kernel_rfl) (by kernel_rfl) (fun _ _ _ h => h) (Or.inl ⟨by rfl, ?hy131⟩) hHeld ?_
                                case hy131 => (intro w hSw; (try dsimp only at hSw); first | (go_simp; done) | (go_simp; with_reducible rfl))
                                try simp only [List.getElem_toArray, List.getElem_cons_succ, List.getElem_cons_zero, Act.put]
                                refine wpAnyH_done (by kernel_rfl) ?_ _
                                clear hHeld
                                show wpList _ _ _ _ _ _
                                go_wp2
                                go_roundw
                                case rel => exact ⟨t + 1, by omega, by go_num, HM3, hid (HO3.out _), hid (HB3.out _)⟩
                                case measure => simp [intOf]; omega
                          · rw [ho] at cb hcd
                            rw [hc] at co
                            rw [ho, hc, Bool.false_or, Bool.true_or] at h3
                            have HM3 : Hid _ := hid h3
                            clear h3 ho hc cn cc
                            go_wp2
                            refine wp_region_last (fun w' => w'.cell? ⟨b0, m, none⟩ = some (.slice (some ⟨br, 0, none⟩) (nT + 1) (nT + 1)) ∧ w'.cell? ⟨br, t, none⟩ = some (.bool false) ∧ w'.cell? ⟨bl, t, none⟩ = some (.bool true)) (by kernel_rfl) (by kernel_rfl) ⟨cr, cb, co⟩ (fun hHeld => ?_)
                            simp only [cutLast, idle, lastOf]
                            refine wpAnyH_take (i := 0) (v := ?vv138) rfl (by kernel_rfl) (by kernel_rfl) (by kernel_rfl) (fun _ _ _ h => h) (Or.inl ⟨by rfl, ?hy138⟩) hHeld ?_
                            case hy138 => (intro w hSw; (try dsimp only at hSw); first | (go_simp; done) | (go_simp; with_reducible rfl))
                            try simp only [List.getElem_toArray, List.getElem_cons_zero, Act.put, List.setIfInBounds_toArray, List.set_cons_zero, List.set_cons_succ]
                            refine wpAnyH_take (i := 1) (v := ?vv92) rfl (by kernel_rfl) (by kernel_rfl) (by kernel_rfl) (fun _ _ _ h => h) (Or.inl ⟨by rfl, ?hy92⟩) hHeld ?_
                            case hy92 => (intro w hSw; (try dsimp only at hSw); first | (go_simp; done) | (go_simp; with_reducible rfl))
                            try simp only [List.getElem_toArray, List.getElem_cons_succ, List.getElem_cons_zero, Act.put, List.setIfInBounds_toArray, List.set_cons_zero, List.set_cons_succ]
                            refine wpAnyH_take (i := 2) (v := ?vv93) rfl (by kernel_rfl) (by kernel_rfl) (by kernel_rfl) (fun _ _ _ h => h) (Or.inl ⟨by rfl, ?hy93⟩) hHeld ?_
                            case hy93 => (intro w hSw; (try dsimp only at hSw); first | (go_simp; done) | (go_simp; with_reducible rfl))
                            try simp only [List.getElem_toArray, List.getElem_cons_succ, List.getElem_cons_zero, Act.put, List.setIfInBounds_toArray, List.set_cons_zero, List.set_cons_succ]
                            refine wpAnyH_take (i := 3) (v := ?vv94) rfl (by kernel_rfl) (by kernel_rfl) (by kernel_rfl) (fun _ _ _ h => h) (Or.inl ⟨by rfl, ?hy94⟩) hHeld ?_
                            case hy94 => (intro w hSw; (try dsimp only at hSw); first | (go_simp; done) | (go_simp; with_reducible rfl))
                            try simp only [List.getElem_toArray, List.getElem_cons_succ, List.getElem_cons_zero, Act.put, List.setIfInBounds_toArray, List.set_cons_zero, List.set_cons_succ]
                            refine wpAnyH_take (i := 4) (v := ?vv95) rfl (by kernel_rfl) (by kernel_rfl) (by kernel_rfl) (fun _ _ _ h => h) (Or.inl ⟨by rfl, ?hy95⟩) hHeld ?_
                            case hy95 => (intro w hSw; (try dsimp only at hSw); first | (go_simp; done) | (go_simp; with_reducible rfl))
                            try simp only [List.getElem_toArray, List.getElem_cons_succ, List.getElem_cons_zero, Act.put, List.setIfInBounds_toArray, List.set_cons_zero, List.set_cons_succ]
                            refine wpAnyH_take (i := 5) (v := ?vv96) rfl (by kernel_rfl) (by kernel_rfl) (by kernel_rfl) (fun _ _ _ h => h) (Or.inl ⟨by rfl, ?hy96⟩) hHeld ?_
                            case hy96 => (intro w hSw; (try dsimp only at hSw); first | (go_simp; done) | (go_simp; with_reducible rfl))
                            try simp only [List.getElem_toArray, List.getElem_cons_succ, List.getElem_cons_zero, Act.put, List.setIfInBounds_toArray, List.set_cons_zero, List.set_cons_succ]
                            refine wpAnyH_take (i := 6) (v := ?vv97) rfl (by kernel_rfl) (by kernel_rfl) (by kernel_rfl) (fun _ _ _ h => h) (Or.inl ⟨by rfl, ?hy97⟩) hHeld ?_
                            case hy97 => (intro w hSw; (try dsimp only at hSw); first | (go_simp; done) | (go_simp; with_reducible rfl))
                            try simp only [List.getElem_toArray, List.getElem_cons_succ, List.getElem_cons_zero, Act.put, List.setIfInBounds_toArray, List.set_cons_zero, List.set_cons_succ]
                            refine wpAnyH_take (i := 7) (v := ?vv98) rfl (by kernel_rfl) (by kernel_rfl) (by kernel_rfl) (fun _ _ _ h => h) (Or.inl ⟨by rfl, ?hy98⟩) hHeld ?_
                            case hy98 => (intro w hSw; (try dsimp only at hSw); first | (go_simp; done) | (go_simp; with_reducible rfl))
                            try simp only [List.getElem_toArray, List.getElem_cons_succ, List.getElem_cons_zero, Act.put, List.setIfInBounds_toArray, List.set_cons_zero, List.set_cons_succ]
                            refine wpAnyH_take (i := 8) (v := ?vv99) rfl (by kernel_rfl) (by kernel_rfl) (by kernel_rfl) (fun _ _ _ h => h) (Or.inl ⟨by rfl, ?hy99⟩) hHeld ?_
                            case hy99 => (intro w hSw; (try dsimp only at hSw); first | (go_simp; done) | (go_simp; with_reducible rfl))
                            try simp only [List.getElem_toArray, List.getElem_cons_succ, List.getElem_cons_zero, Act.put, List.setIfInBounds_toArray, List.set_cons_zero, List.set_cons_succ]
                            refine wpAnyH_take (i := 9) (v := ?vv100) rfl (by kernel_rfl) (by kernel_rfl) (by kernel_rfl) (fun _ _ _ h => h) (Or.inl ⟨by rfl, ?hy100⟩) hHeld ?_
                            case hy100 => (intro w hSw; (try dsimp only at hSw); first | (go_simp; done) | (go_simp; with_reducible rfl))
                            try simp only [List.getElem_toArray, List.getElem_cons_succ, List.getElem_cons_zero, Act.put, List.setIfInBounds_toArray, List.set_cons_zero, List.set_cons_succ]
                            refine wpAnyH_take (i := 10) (v := ?vv101) rfl (by kernel_rfl) (by kernel_rfl) (by kernel_rfl) (fun _ _ _ h => h) (Or.inl ⟨by rfl, ?hy101⟩) hHeld ?_
                            case hy101 => (intro w hSw; (try dsimp only at hSw); first | (go_simp; done) | (go_simp; with_reducible rfl))
                            try simp only [List.getElem_toArray, List.getElem_cons_succ, List.getElem_cons_zero, Act.put, List.setIfInBounds_toArray, List.set_cons_zero, List.set_cons_succ]
                            refine wpAnyH_take (i := 11) (v := ?vv102) rfl (by kernel_rfl) (by kernel_rfl) (by kernel_rfl) (fun _ _ _ h => h) (Or.inl ⟨by rfl, ?hy102⟩) hHeld ?_
                            case hy102 => (intro w hSw; (try dsimp only at hSw); first | (go_simp; done) | (go_simp; with_reducible rfl))
                            try simp only [List.getElem_toArray, List.getElem_cons_succ, List.getElem_cons_zero, Act.put, List.setIfInBounds_toArray, List.set_cons_zero, List.set_cons_succ]
                            refine wpAnyH_take (i := 12) (v := ?vv103) rfl (by kernel_rfl) (by kernel_rfl) (by kernel_rfl) (fun _ _ _ h => h) (Or.inl ⟨by rfl, ?hy103⟩) hHeld ?_
                            case hy103 => (intro w hSw; (try dsimp only at hSw); first | (go_simp; done) | (go_simp; with_reducible rfl))
                            try simp only [List.getElem_toArray, List.getElem_cons_succ, List.getElem_cons_zero, Act.put, List.setIfInBounds_toArray, List.set_cons_zero, List.set_cons_succ]
                            refine wpAnyH_take (i := 13) (v := ?vv104) rfl (by kernel_rfl) (by kernel_rfl) (by kernel_rfl) (fun _ _ _ h => h) (Or.inl ⟨by rfl, ?hy104⟩) hHeld ?_
                            case hy104 => (intro w hSw; (try dsimp only at hSw); first | (go_simp; done) | (go_simp; with_reducible rfl))
                            try simp only [List.getElem_toArray, List.getElem_cons_succ, List.getElem_cons_zero, Act.put, List.setIfInBounds_toArray, List.set_cons_zero, List.set_cons_succ]
                            refine wpAnyH_take (i := 14) (v := ?vv105) rfl (by kernel_rfl) (by kernel_rfl) (by kernel_rfl) (fun _ _ _ h => h) (Or.inl ⟨by rfl, ?hy105⟩) hHeld ?_
                            case hy105 => (intro w hSw; (try dsimp only at hSw); first | (go_simp; done) | (go_simp; with_reducible rfl))
                            try simp only [List.getElem_toArray, List.getElem_cons_succ, List.getElem_cons_zero, Act.put, List.setIfInBounds_toArray, List.set_cons_zero, List.set_cons_succ]
                            refine wpAnyH_take (i := 15) (v := ?vv106) rfl (by kernel_rfl) (by kernel_rfl) (by kernel_rfl) (fun _ _ _ h => h) (Or.inl ⟨by rfl, ?hy106⟩) hHeld ?_
                            case hy106 => (intro w hSw; (try dsimp only at hSw); first | (go_simp; done) | (go_simp; with_reducible rfl))
                            try simp only [List.getElem_toArray, List.getElem_cons_succ, List.getElem_cons_zero, Act.put, List.setIfInBounds_toArray, List.set_cons_zero, List.set_cons_succ]
                            refine wpAnyH_take (i := 16) (v := ?vv107) rfl (by kernel_rfl) (by kernel_rfl) (by kernel_rfl) (fun _ _ _ h => h) (Or.inl ⟨by rfl, ?hy107⟩) hHeld ?_
                            case hy107 => (intro w hSw; (try dsimp only at hSw); first | (go_simp; done) | (go_simp; with_reducible rfl))
                            try simp only [List.getElem_toArray, List.getElem_cons_succ, List.getElem_cons_zero, Act.put, List.setIfInBounds_toArray, List.set_cons_zero, List.set_cons_succ]
                            refine wpAnyH_take (i := 17) (v := ?vv108) rfl (by kernel_rfl) (by kernel_rfl) (by kernel_rfl) (fun _ _ _ h => h) (Or.inl ⟨by rfl, ?hy108⟩) hHeld ?_
                            case hy108 => (intro w hSw; (try dsimp only at hSw); first | (go_simp; done) | (go_simp; with_reducible rfl))
                            try simp only [List.getElem_toArray, List.getElem_cons_succ, List.getElem_cons_zero, Act.put, List.setIfInBounds_toArray, List.set_cons_zero, List.set_cons_succ]
                            refine wpAnyH_take (i := 18) (v := ?vv109) rfl (by kernel_rfl) (by kernel_rfl) (by kernel_rfl) (fun _ _ _ h => h) (Or.inl ⟨by rfl, ?hy109⟩) hHeld ?_
                            case hy109 => (intro w hSw; (try dsimp only at hSw); first | (go_simp; done) | (go_simp; with_reducible rfl))
                            try simp only [List.getElem_toArray, List.getElem_cons_succ, List.getElem_cons_zero, Act.put, List.setIfInBounds_toArray, List.set_cons_zero, List.set_cons_succ]
                            refine wpAnyH_take (i := 19) (v := undef) rfl (by kernel_rfl) (by kernel_rfl) (by kernel_rfl) (fun _ _ _ h => h) (Or.inr ⟨by rfl, rfl⟩) hHeld ?_
                            try simp only [List.getElem_toArray, List.getElem_cons_succ, List.getElem_cons_zero, Act.put, List.setIfInBounds_toArray, List.set_cons_zero, List.set_cons_succ]
                            refine wpAnyH_take (i := 20) (v := undef) rfl (by kernel_rfl) (by kernel_rfl) (by kernel_rfl) (fun _ _ _ h => h) (Or.inr ⟨by rfl, rfl⟩) hHeld ?_
                            try simp only [List.getElem_toArray, List.getElem_cons_succ, List.getElem_cons_zero, Act.put, List.setIfInBounds_toArray, List.set_cons_zero, List.set_cons_succ]
                            refine wpAnyH_take (i := 21) (v := undef) rfl (by kernel_rfl) (by kernel_rfl) (by kernel_rfl) (fun _ _ _ h => h) (Or.inr ⟨by rfl, rfl⟩) hHeld ?_
                            try simp only [List.getElem_toArray, List.getElem_cons_succ, List.getElem_cons_zero, Act.put, List.setIfInBounds_toArray, List.set_cons_zero, List.set_cons_succ]
                            refine wpAnyH_take (i := 22) (v := undef) rfl (by kernel_rfl) (by kernel_rfl) (by kernel_rfl) (fun _ _ _ h => h) (Or.inr ⟨by rfl, rfl⟩) hHeld ?_
                            try simp only [List.getElem_toArray, List.getElem_cons_succ, List.getElem_cons_zero, Act.put, List.setIfInBounds_toArray, List.set_cons_zero, List.set_cons_succ]
                            refine wpAnyH_take (i := 23) (v := undef) rfl (by kernel_rfl) (by kernel_rfl) (by kernel_rfl) (fun _ _ _ h => h) (Or.inr ⟨by rfl, rfl⟩) hHeld ?_
                            try simp only [List.getElem_toArray, List.getElem_cons_succ, List.getElem_cons_zero, Act.put, List.setIfInBounds_toArray, List.set_cons_zero, List.set_cons_succ]
                            refine wpAnyH_take (i := 24) (v := undef) rfl (by kernel_rfl) (by kernel_rfl) (by kernel_rfl) (fun _ _ _ h => h) (Or.inr ⟨by rfl, rfl⟩) hHeld ?_
                            try simp only [List.getElem_toArray, List.getElem_cons_succ, List.getElem_cons_zero, Act.put, List.setIfInBounds_toArray, List.set_cons_zero, List.set_cons_succ]
                            refine wpAnyH_take (i := 25) (v := undef) rfl (by kernel_rfl) (by kernel_rfl) (by kernel_rfl) (fun _ _ _ h => h) (Or.inr ⟨by rfl, rfl⟩) hHeld ?_
                            try simp only [List.getElem_toArray, List.getElem_cons_succ, List.getElem_cons_zero, Act.put, List.setIfInBounds_toArray, List.set_cons_zero, List.set_cons_succ]
                            refine wpAnyH_take (i := 26) (v := undef) rfl (by kernel_rfl) (by kernel_rfl) (by kernel_rfl) (fun _ _ _ h => h) (Or.inr ⟨by rfl, rfl⟩) hHeld ?_
                            try simp only [List.getElem_toArray, List.getElem_cons_succ, List.getElem_cons_zero, Act.put, List.setIfInBounds_toArray, List.set_cons_zero, List.set_cons_succ]
                            refine wpAnyH_take (i := 27) (v := undef) rfl (by kernel_rfl) (by kernel_rfl) (by kernel_rfl) (fun _ _ _ h => h) (Or.inr ⟨by rfl, rfl⟩) hHeld ?_
                            try simp only [List.getElem_toArray, List.getElem_cons_succ, List.getElem_cons_zero, Act.put, List.setIfInBounds_toArray, List.set_cons_zero, List.set_cons_succ]
                            refine wpAnyH_take (i := 28) (v := undef) rfl (by kernel_rfl) (by kernel_rfl) (by kernel_rfl) (fun _ _ _ h => h) (Or.inr ⟨by rfl, rfl⟩) hHeld ?_
                            try simp only [List.getElem_toArray, List.getElem_cons_succ, List.getElem_cons_zero, Act.put, List.setIfInBounds_toArray, List.set_cons_zero, List.set_cons_succ]
                            refine wpAnyH_take (i := 29) (v := ?vv110) rfl (by kernel_rfl) (by kernel_rfl) (by kernel_rfl) (fun _ _ _ h => h) (Or.inl ⟨by rfl, ?hy110⟩) hHeld ?_
                            case hy110 => (intro w hSw; (try dsimp only at hSw); first | (go_simp; done) | (go_simp; with_reducible rfl))
                            try simp only [List.getElem_toArray, List.getElem_cons_succ, List.getElem_cons_zero, Act.put, List.setIfInBounds_toArray, List.set_cons_zero, List.set_cons_succ]
                            refine wpAnyH_take (i := 30) (v := ?vv111) rfl (by kernel_rfl) (by kernel_rfl) (by kernel_rfl) (fun _ _ _ h => h) (Or.inl ⟨by rfl, ?hy111⟩) hHeld ?_
                            case hy111 => (intro w hSw; (try dsimp only at hSw); first | (go_simp; done) | (go_simp; with_reducible rfl))
                            try simp only [List.getElem_toArray, List.getElem_cons_succ, List.getElem_cons_zero, Act.put, List.setIfInBounds_toArray, List.set_cons_zero, List.set_cons_succ]
                            refine wpAnyH_take (i := 31) (v := ?vv132) rfl (by kernel_rfl) (by kernel_rfl) (by kernel_rfl) (fun _ _ _ h => h) (Or.inl ⟨by rfl, ?hy132⟩) hHeld ?_
                            case hy132 => (intro w hSw; (try dsimp only at hSw); first | (go_simp; done) | (go_simp; with_reducible rfl))
                            try simp only [List.getElem_toArray, List.getElem_cons_succ, List.getElem_cons_zero, Act.put]
                            refine wpAnyH_done (by kernel_rfl) ?_ _
                            clear hHeld
                            show wpList _ _ _ _ _ _
                            go_wp2
                            go_roundw
                            case rel => exact ⟨t + 1, by omega, by go_num, HM3, hid (HO3.out _), hid (HB3.out _)⟩
                            case measure => simp [intOf]; omega
                        · rw [ho] at cb hcd
                          rw [ho, Bool.true_or, Bool.true_or] at h3
                          have HM3 : Hid _ := hid h3
                          clear h3 ho co cn cc
                          go_wp2
                          refine wp_region_last (fun w' => w'.cell? ⟨b0, m, none⟩ = some (.slice (some ⟨br, 0, none⟩) (nT + 1) (nT + 1)) ∧ w'.cell? ⟨br, t, none⟩ = some (.bool true)) (by kernel_rfl) (by kernel_rfl) ⟨cr, cb⟩ (fun hHeld => ?_)
                          simp only [cutLast, idle, lastOf]
                          refine wpAnyH_take (i := 0) (v := ?vv139) rfl (by kernel_rfl) (by kernel_rfl) (by kernel_rfl) (fun _ _ _ h => h) (Or.inl ⟨by rfl, ?hy139⟩) hHeld ?_
                          case hy139 => (intro w hSw; (try dsimp only at hSw); first | (go_simp; done) | (go_simp; with_reducible rfl))
                          try simp only [List.getElem_toArray, List.getElem_cons_zero, Act.put, List.setIfInBounds_toArray, List.set_cons_zero, List.set_cons_succ]
                          refine wpAnyH_take (i := 1) (v := ?vv112) rfl (by kernel_rfl) (by kernel_rfl) (by kernel_rfl) (fun _ _ _ h => h) (Or.inl ⟨by rfl, ?hy112⟩) hHeld ?_
                          case hy112 => (intro w hSw; (try dsimp only at hSw); first | (go_simp; done) | (go_simp; with_reducible rfl))
                          try simp only [List.getElem_toArray, List.getElem_cons_succ, List.getElem_cons_zero, Act.put, List.setIfInBounds_toArray, List.set_cons_zero, List.set_cons_succ]
                          refine wpAnyH_take (i := 2) (v := ?vv113) rfl (by kernel_rfl) (by kernel_rfl) (by kernel_rfl) (fun _ _ _ h => h) (Or.inl ⟨by rfl, ?hy113⟩) hHeld ?_
                          case hy113 => (intro w hSw; (try dsimp only at hSw); first | (go_simp; done) | (go_simp; with_reducible rfl))
                          try simp only [List.getElem_toArray, List.getElem_cons_succ, List.getElem_cons_zero, Act.put, List.setIfInBounds_toArray, List.set_cons_zero, List.set_cons_succ]
                          refine wpAnyH_take (i := 3) (v := ?vv114) rfl (by kernel_rfl) (by kernel_rfl) (by kernel_rfl) (fun _ _ _ h => h) (Or.inl ⟨by rfl, ?hy114⟩) hHeld ?_
                          case hy114 => (intro w hSw; (try dsimp only at hSw); first | (go_simp; done) | (go_simp; with_reducible rfl))
                          try simp only [List.getElem_toArray, List.getElem_cons_succ, List.getElem_cons_zero, Act.put, List.setIfInBounds_toArray, List.set_cons_zero, List.set_cons_succ]
                          refine wpAnyH_take (i := 4) (v := ?vv115) rfl (by kernel_rfl) (by kernel_rfl) (by kernel_rfl) (fun _ _ _ h => h) (Or.inl ⟨by rfl, ?hy115⟩) hHeld ?_
                          case hy115 => (intro w hSw; (try dsimp only at hSw); first | (go_simp; done) | (go_simp; with_reducible rfl))
                          try simp only [List.getElem_toArray, List.getElem_cons_succ, List.getElem_cons_zero, Act.put, List.setIfInBounds_toArray, List.set_cons_zero, List.set_cons_succ]
                          refine wpAnyH_take (i := 5) (v := ?vv116) rfl (by kernel_rfl) (by kernel_rfl) (by kernel_rfl) (fun _ _ _ h => h) (Or.inl ⟨by rfl, ?hy116⟩) hHeld ?_
                          case hy116 => (intro w hSw; (try dsimp only at hSw); first | (go_simp; done) | (go_simp; with_reducible rfl))
                          try simp only [List.getElem_toArray, List.getElem_cons_succ, List.getElem_cons_zero, Act.put, List.setIfInBounds_toArray, List.set_cons_zero, List.set_cons_succ]
                          refine wpAnyH_take (i := 6) (v := ?vv117) rfl (by kernel_rfl) (by kernel_rfl) (by kernel_rfl) (fun _ _ _ h => h) (Or.inl ⟨by rfl, ?hy117⟩) hHeld ?_
                          case hy117 => (intro w hSw; (try dsimp only at hSw); first | (go_simp; done) | (go_simp; with_reducible rfl))
                          try simp only [List.getElem_toArray, List.getElem_cons_succ, List.getElem_cons_zero, Act.put, List.setIfInBounds_toArray, List.set_cons_zero, List.set_cons_succ]
                          refine wpAnyH_take (i := 7) (v := ?vv118) rfl (by kernel_rfl) (by kernel_rfl) (by kernel_rfl) (fun _ _ _ h => h) (Or.inl ⟨by rfl, ?hy118⟩) hHeld ?_
                          case hy118 => (intro w hSw; (try dsimp only at hSw); first | (go_simp; done) | (go_simp; with_reducible rfl))
                          try simp only [List.getElem_toArray, List.getElem_cons_succ, List.getElem_cons_zero, Act.put, List.setIfInBounds_toArray, List.set_cons_zero, List.set_cons_succ]
                          refine wpAnyH_take (i := 8) (v := ?vv119) rfl (by kernel_rfl) (by kernel_rfl) (by kernel_rfl) (fun _ _ _ h => h) (Or.inl ⟨by rfl, ?hy119⟩) hHeld ?_
                          case hy119 => (intro w hSw; (try dsimp only at hSw); first | (go_simp; done) | (go_simp; with_reducible rfl))
                          try simp only [List.getElem_toArray, List.getElem_cons_succ, List.getElem_cons_zero, Act.put, List.setIfInBounds_toArray, List.set_cons_zero, List.set_cons_succ]
                          refine wpAnyH_take (i := 9) (v := ?vv120) rfl (by kernel_rfl) (by kernel_rfl) (by kernel_rfl) (fun _ _ _ h => h) (Or.inl ⟨by rfl, ?hy120⟩) hHeld ?_
                          case hy120 => (intro w hSw; (try dsimp only at hSw); first | (go_simp; done) | (go_simp; with_reducible rfl))
                          try simp only [List.getElem_toArray, List.getElem_cons_succ, List.getElem_cons_zero, Act.put, List.setIfInBounds_toArray, List.set_cons_zero, List.set_cons_succ]
                          refine wpAnyH_take (i := 10) (v := ?vv121) rfl (by kernel_rfl) (by kernel_rfl) (by kernel_rfl) (fun _ _ _ h => h) (Or.inl ⟨by rfl, ?hy121⟩) hHeld ?_
                          case hy121 => (intro w hSw; (try dsimp only at hSw); first | (go_simp; done) | (go_simp; with_reducible rfl))
                          try simp only [List.getElem_toArray, List.getElem_cons_succ, List.getElem_cons_zero, Act.put, List.setIfInBounds_toArray, List.set_cons_zero, List.set_cons_succ]
                          refine wpAnyH_take (i := 11) (v := ?vv122) rfl (by kernel_rfl) (by kernel_rfl) (by kernel_rfl) (fun _ _ _ h => h) (Or.inl ⟨by rfl, ?hy122⟩) hHeld ?_
                          case hy122 => (intro w hSw; (try dsimp only at hSw); first | (go_simp; done) | (go_simp; with_reducible rfl))
                          try simp only [List.getElem_toArray, List.getElem_cons_succ, List.getElem_cons_zero, Act.put, List.setIfInBounds_toArray, List.set_cons_zero, List.set_cons_succ]
                          refine wpAnyH_take (i := 12) (v := ?vv123) rfl (by kernel_rfl) (by kernel_rfl) (by kernel_rfl) (fun _ _ _ h => h) (Or.inl ⟨by rfl, ?hy123⟩) hHeld ?_
                          case hy123 => (intro w hSw; (try dsimp only at hSw); first | (go_simp; done) | (go_simp; with_reducible rfl))
                          try simp only [List.getElem_toArray, List.getElem_cons_succ, List.getElem_cons_zero, Act.put, List.setIfInBounds_toArray, List.set_cons_zero, List.set_cons_succ]
                          refine wpAnyH_take (i := 13) (v := undef) rfl (by kernel_rfl) (by kernel_rfl) (by kernel_rfl) (fun _ _ _ h => h) (Or.inr ⟨by rfl, rfl⟩) hHeld ?_
                          try simp only [List.getElem_toArray, List.getElem_cons_succ, List.getElem_cons_zero, Act.put, List.setIfInBounds_toArray, List.set_cons_zero, List.set_cons_succ]
                          refine wpAnyH_take (i := 14) (v := undef) rfl (by kernel_rfl) (by kernel_rfl) (by kernel_rfl) (fun _ _ _ h => h) (Or.inr ⟨by rfl, rfl⟩) hHeld ?_
                          try simp only [List.getElem_toArray, List.getElem_cons_succ, List.getElem_cons_zero, Act.put, List.setIfInBounds_toArray, List.set_cons_zero, List.set_cons_succ]
                          refine wpAnyH_take (i := 15) (v := undef) rfl (by kernel_rfl) (by kernel_rfl) (by kernel_rfl) (fun _ _ _ h => h) (Or.inr ⟨by rfl, rfl⟩) hHeld ?_
                          try simp only [List.getElem_toArray, List.getElem_cons_succ, List.getElem_cons_zero, Act.put, List.setIfInBounds_toArray, List.set_cons_zero, List.set_cons_succ]
                          refine wpAnyH_take (i := 16) (v := undef) rfl (by kernel_rfl) (by kernel_rfl) (by kernel_rfl) (fun _ _ _ h => h) (Or.inr ⟨by rfl, rfl⟩) hHeld ?_
                          try simp only [List.getElem_toArray, List.getElem_cons_succ, List.getElem_cons_zero, Act.put, List.setIfInBounds_toArray, List.set_cons_zero, List.set_cons_succ]
                          refine wpAnyH_take (i := 17) (v := ?vv124) rfl (by kernel_rfl) (by kernel_rfl) (by kernel_rfl) (fun _ _ _ h => h) (Or.inl ⟨by rfl, ?hy124⟩) hHeld ?_
                          case hy124 => (intro w hSw; (try dsimp only at hSw); first | (go_simp; done) | (go_simp; with_reducible rfl))
                          try simp only [List.getElem_toArray, List.getElem_cons_succ, List.getElem_cons_zero, Act.put, List.setIfInBounds_toArray, List.set_cons_zero, List.set_cons_succ]
                          refine wpAnyH_take (i := 18) (v := ?vv125) rfl (by kernel_rfl) (by kernel_rfl) (by kernel_rfl) (fun _ _ _ h => h) (Or.inl ⟨by rfl, ?hy125⟩) hHeld ?_
                          case hy125 => (intro w hSw; (try dsimp only at hSw); first | (go_simp; done) | (go_simp; with_reducible rfl))
                          try simp only [List.getElem_toArray, List.getElem_cons_succ, List.getElem_cons_zero, Act.put, List.setIfInBounds_toArray, List.set_cons_zero, List.set_cons_succ]
                          refine wpAnyH_take (i := 19) (v := undef) rfl (by kernel_rfl) (by kernel_rfl) (by kernel_rfl) (fun _ _ _ h => h) (Or.inr ⟨by rfl, rfl⟩) hHeld ?_
                          try simp only [List.getElem_toArray, List.getElem_cons_succ, List.getElem_cons_zero, Act.put, List.setIfInBounds_toArray, List.set_cons_zero, List.set_cons_succ]
                          refine wpAnyH_take (i := 20) (v := undef) rfl (by kernel_rfl) (by kernel_rfl) (by kernel_rfl) (fun _ _ _ h => h) (Or.inr ⟨by rfl, rfl⟩) hHeld ?_
                          try simp only [List.getElem_toArray, List.getElem_cons_succ, List.getElem_cons_zero, Act.put, List.setIfInBounds_toArray, List.set_cons_zero, List.set_cons_succ]
                          refine wpAnyH_take (i := 21) (v := undef) rfl (by kernel_rfl) (by kernel_rfl) (by kernel_rfl) (fun _ _ _ h => h) (Or.inr ⟨by rfl, rfl⟩) hHeld ?_
                          try simp only [List.getElem_toArray, List.getElem_cons_succ, List.getElem_cons_zero, Act.put, List.setIfInBounds_toArray, List.set_cons_zero, List.set_cons_succ]
                          refine wpAnyH_take (i := 22) (v := undef) rfl (by kernel_rfl) (by kernel_rfl) (by kernel_rfl) (fun _ _ _ h => h) (Or.inr ⟨by rfl, rfl⟩) hHeld ?_
                          try simp only [List.getElem_toArray, List.getElem_cons_succ, List.getElem_cons_zero, Act.put, List.setIfInBounds_toArray, List.set_cons_zero, List.set_cons_succ]
                          refine wpAnyH_take (i := 23) (v := undef) rfl (by kernel_rfl) (by kernel_rfl) (by kernel_rfl) (fun _ _ _ h => h) (Or.inr ⟨by rfl, rfl⟩) hHeld ?_
                          try simp only [List.getElem_toArray, List.getElem_cons_succ, List.getElem_cons_zero, Act.put, List.setIfInBounds_toArray, List.set_cons_zero, List.set_cons_succ]
                          refine wpAnyH_take (i := 24) (v := undef) rfl (by kernel_rfl) (by kernel_rfl) (by kernel_rfl) (fun _ _ _ h => h) (Or.inr ⟨by rfl, rfl⟩) hHeld ?_
                          try simp only [List.getElem_toArray, List.getElem_cons_succ, List.getElem_cons_zero, Act.put, List.setIfInBounds_toArray, List.set_cons_zero, List.set_cons_succ]
                          refine wpAnyH_take (i := 25) (v := undef) rfl (by kernel_rfl) (by kernel_rfl) (by kernel_rfl) (fun _ _ _ h => h) (Or.inr ⟨by rfl, rfl⟩) hHeld ?_
                          try simp only [List.getElem_toArray, List.getElem_cons_succ, List.getElem_cons_zero, Act.put, List.setIfInBounds_toArray, List.set_cons_zero, List.set_cons_succ]
                          refine wpAnyH_take (i := 26) (v := undef) rfl (by kernel_rfl) (by kernel_rfl) (by kernel_rfl) (fun _ _ _ h => h) (Or.inr ⟨by rfl, rfl⟩) hHeld ?_
                          try simp only [List.getElem_toArray, List.getElem_cons_succ, List.getElem_cons_zero, Act.put, List.setIfInBounds_toArray, List.set_cons_zero, List.set_cons_succ]
                          refine wpAnyH_take (i := 27) (v := undef) rfl (by kernel_rfl) (by kernel_rfl) (by kernel_rfl) (fun _ _ _ h => h) (Or.inr ⟨by rfl, rfl⟩) hHeld ?_
                          try simp only [List.getElem_toArray, List.getElem_cons_succ, List.getElem_cons_zero, Act.put, List.setIfInBounds_toArray, List.set_cons_zero, List.set_cons_succ]
                          refine wpAnyH_take (i := 28) (v := undef) rfl (by kernel_rfl) (by kernel_rfl) (by kernel_rfl) (fun _ _ _ h => h) (Or.inr ⟨by rfl, rfl⟩) hHeld ?_
                          try simp only [List.getElem_toArray, List.getElem_cons_succ, List.getElem_cons_zero, Act.put, List.setIfInBounds_toArray, List.set_cons_zero, List.set_cons_succ]
                          refine wpAnyH_take (i := 29) (v := ?vv126) rfl (by kernel_rfl) (by kernel_rfl) (by kernel_rfl) (fun _ _ _ h => h) (Or.inl ⟨by rfl, ?hy126⟩) hHeld ?_
                          case hy126 => (intro w hSw; (try dsimp only at hSw); first | (go_simp; done) | (go_simp; with_reducible rfl))
                          try simp only [List.getElem_toArray, List.getElem_cons_succ, List.getElem_cons_zero, Act.put, List.setIfInBounds_toArray, List.set_cons_zero, List.set_cons_succ]
                          refine wpAnyH_take (i := 30) (v := ?vv127) rfl (by kernel_rfl) (by kernel_rfl) (by kernel_rfl) (fun _ _ _ h => h) (Or.inl ⟨by rfl, ?hy127⟩) hHeld ?_
                          case hy127 => (intro w hSw; (try dsimp only at hSw); first | (go_simp; done) | (go_simp; with_reducible rfl))
                          try simp only [List.getElem_toArray, List.getElem_cons_succ, List.getElem_cons_zero, Act.put, List.setIfInBounds_toArray, List.set_cons_zero, List.set_cons_succ]
                          refine wpAnyH_take (i := 31) (v := ?vv133) rfl (by kernel_rfl) (by kernel_rfl) (by kernel_rfl) (fun _ _ _ h => h) (Or.inl ⟨by rfl, ?hy133⟩) hHeld ?_
                          case hy133 => (intro w hSw; (try dsimp only at hSw); first | (go_simp; done) | (go_simp; with_reducible rfl))
                          try simp only [List.getElem_toArray, List.getElem_cons_succ, List.getElem_cons_zero, Act.put]
                          refine wpAnyH_done (by kernel_rfl) ?_ _
                          clear hHeld
                          show wpList _ _ _ _ _ _
                          go_wp2
                          go_roundw
                          case rel => exact ⟨t + 1, by omega, by go_num, HM3, hid (HO3.out _), hid (HB3.out _)⟩
                          case measure => simp [intOf]; omega
                      · have hti : ¬ (t : Int) < (nT : Int) + 1 := by omega
                        have HM5 : Hid (Mat W3 b0 N (f.set m (orT (mAt f m) l thr (mAt f qn)))) := hid (by
                          have h1 := hM.out
                          have hrow := HMh.out.2 m hmN
                          rw [show t = (mAt f m).length by rw [hrow, ← H2.out]; omega] at h1
                          unfold rowUpto at h1
                          rw [upto_orT] at h1
                          exact h1)
                        clear hmN hqN
                        go_wp2
                        go_roundw
                        case rel => exact ⟨kp + 1, _, by omega, by go_num, HS, HM5, hbr⟩
                        case measure => simp [intOf]; omega
                · have HS : Hid (iter (tailRound N H (bAt E)) (mx - k) ((N.rules.drop (j + 1)).foldl (fun f r => tailB N H (bAt E) r.1 r.2 f) f) = tailsN N H (bAt E)) := hid (by
                    have h1 := hit.out
                    rw [List.drop_eq_nil_of_le (by have := HNp.out; omega)] at h1
                    exact h1)
                  go_wp2
                  go_roundw
                  case rel => exact ⟨j + 1, f, by omega, by go_num, HS, hM, hbr⟩
                  case measure => simp [intOf]; omega
            · have HS : Hid (iter (tailRound N H (bAt E)) (mx + 1 - (k + 1)) f = tailsN N H (bAt E)) := hid (by
                have h1 := hit.out
                rw [List.drop_eq_nil_of_le (by have := H3.out; omega)] at h1
                rw [show mx + 1 - (k + 1) = mx - k by omega]
                exact h1)
              clear hX
              go_wp2
              go_roundw
              case rel => exact ⟨k + 1, f, by omega, by go_num, HS, hM, hbr⟩
              case measure => simp [intOf]; omega
        · have HS : Hid (f = tailsN N H (bAt E)) := hid (by
            have h1 := hit.out
            rw [show mx + 1 - k = 0 by omega] at h1
            exact h1)
          have hdk : decide ((k : Int) ≤ (mx : Int)) = false := decide_eq_false (by omega)
          go_wp2
          go_quiet (fail)
          go_wp2
          go_ret
          have hbd := below_draws W nq
          exact ⟨rfl, by rw [← HS.out]; exact hM.out.below hbd, hbr.out.trans (hbd.mono hsz)⟩

end Go.Proofs.YtjjggdcnpndgjaaGreatDoor
