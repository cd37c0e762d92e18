/- (*Grammar).Clashes, walked. -/
import Derived.Test.YtjjggdcnpndgjaaGreatDoorJ18
import Derived.Deep.DeepCutAuto
namespace Go.Proofs.YtjjggdcnpndgjaaGreatDoor
open Go.RowKit

theorem rn_same {G : Gr} {x y : ByteArray} {a b : Nat} (hx : idxB G.names x = a) (hy : idxB G.names y = b) : (x.toList == y.toList) = decide (a = b) := by
  obtain ⟨_, h2⟩ := idxB_nth hx
  obtain ⟨_, h4⟩ := idxB_nth hy
  rw [beq_iff_eq] at h2 h4
  by_cases e : a = b
  · subst e; rw [h2, h4]; simp
  · rw [decide_eq_false e, beq_eq_false_iff_ne]
    intro e2
    have h5 : idxB G.names x = idxB G.names y := by unfold idxB; rw [e2]
    rw [hx, hy] at h5
    exact e (by omega)

theorem box4 (w : World) (a b c d : Value) (t : Nat) : Below w.heap.size w (w.alloc (.cells #[a, b, c, d] t)) := (Below.refl _ _).alloc (Nat.le_refl _) _

theorem box_cell (w : World) (cs : Array Value) (t j : Nat) : (w.alloc (.cells cs t)).cell? ⟨w.heap.size, j, none⟩ = cs[j]? := block_cell (heap_alloc_new w _)

theorem pair_cells {w w1 : World} (a b c d : Value) (t : Nat) (hb : Below (w.heap.size + 1) (w.alloc (.cells #[a, b, c, d] t)) w1) :
    w1.cell? ⟨w.heap.size, 0, none⟩ = some a ∧ w1.cell? ⟨w.heap.size, 1, none⟩ = some b ∧ w1.cell? ⟨w.heap.size, 2, none⟩ = some c ∧ w1.cell? ⟨w.heap.size, 3, none⟩ = some d ∧ w.heap.size < w1.heap.size := by
  refine ⟨(hb.cell (by exact Nat.lt_succ_self _)).trans (box_cell w _ _ 0), (hb.cell (by exact Nat.lt_succ_self _)).trans (box_cell w _ _ 1), (hb.cell (by exact Nat.lt_succ_self _)).trans (box_cell w _ _ 2), (hb.cell (by exact Nat.lt_succ_self _)).trans (box_cell w _ _ 3), ?_⟩
  have := hb.size
  rw [World.size_alloc] at this
  omega

theorem below_box {w w1 : World} {o : Obj} (hb : Below (w.heap.size + 1) (w.alloc o) w1) : Below w.heap.size w w1 := ((Below.refl _ _).alloc (Nat.le_refl _) _).trans (hb.mono (Nat.le_succ _))

set_option maxHeartbeats 16000000 in
set_option maxRecDepth 100000 in
theorem clashes_any (G : Gr) (N : NG) (hR : Rep G N) (ho : Once G.names) (w : World) (B gb : Nat) (hG : GrAt w B gb G) (pn pt : ByteArray) (pr po : Int) :
    Calls Tryz.prog 50 #[.pointer (some ⟨gb, 0, none⟩), .agg #[.string pn, .int .i64 pr, .int .i64 po, .string pt]] w fun e w' =>
      ∃ a b, e = .returned (.tuple #[.bool a, .bool b]) ∧ (a = true ↔ ∃ x y z, HitT G N pn pr po pt x y z) ∧ (b = true ↔ ∃ x y z, HitA G N pn x y z) ∧ Below w.heap.size w w' := by
  have hpR := hR.posR
  have hrle := hR.leR
  have htle := hR.leT
  have hb0 : Below w.heap.size w (w.alloc (.cells #[.string pn, .int .i64 pr, .int .i64 po, .string pt] 27)) := box4 w _ _ _ _ _
  have CV : Hid (Calls Tryz.prog 83 #[.pointer (some ⟨gb, 0, none⟩)] (w.alloc (.cells #[.string pn, .int .i64 pr, .int .i64 po, .string pt] 27)) fun e w' => ∃ gv cv, e = .returned (.slice (some ⟨gv, 0, none⟩) N.rules.length cv) ∧ N.rules.length ≤ cv ∧ gv < w'.heap.size ∧
      (∀ i, i < N.rules.length → ∃ gi ci, w'.cell? ⟨gv, i, none⟩ = some (.slice (some ⟨gi, 0, none⟩) (N.nT + 1) ci) ∧ N.nT + 1 ≤ ci ∧ gi < w'.heap.size ∧ ∀ t, t < N.nT + 1 → w'.cell? ⟨gi, t, none⟩ = some (.bool (bAt (mAt (votesN N) i) t))) ∧ Below (w.heap.size + 1) (w.alloc (.cells #[.string pn, .int .i64 pr, .int .i64 po, .string pt] 27)) w') := hid (by
    refine (votes_any G N hR _ B gb (hG.below hb0)).mono ?_
    rintro e w' ⟨v, pvs, rfl, hv, hb⟩
    rw [World.size_alloc] at hb
    obtain ⟨gv, cv, rfl, h1, h2, h3⟩ := hv.cells hpR
    exact ⟨gv, cv, rfl, h1, h2, h3, hb⟩)
  have HGR : Hid (Rep G N ∧ Once G.names ∧ GrAt w B gb G) := hid ⟨hR, ho, hG⟩
  obtain ⟨nR, hn3⟩ : ∃ n, n = N.rules.length := ⟨_, rfl⟩
  obtain ⟨nT, hn2⟩ : ∃ n, n = N.nT := ⟨_, rfl⟩
  rw [← hn3] at CV hrle hpR
  rw [← hn2] at CV htle
  have H3 : Hid (nR = N.rules.length) := hid hn3
  have H2 : Hid (nT = N.nT) := hid hn2
  obtain ⟨nI, hnI⟩ : ∃ n, n = idxB G.names pn := ⟨_, rfl⟩
  have HNI : Hid (nI = idxB G.names pn) := hid hnI
  clear hR ho hG hn3 hn2 hb0 hnI
  go_enter Tryz.func50, Tryz.ntmps50
  go_wp2_with (go_at_call 83; refine CV.out.mono ?_; rintro e w1 ⟨gv, cv, rfl, hcv, hgv, hvt, hb1⟩; have HV : Hid _ := hid hvt; obtain ⟨p0, p1, p2, p3, hlw⟩ := pair_cells _ _ _ _ _ hb1; have HB1 : Hid (Below w.heap.size w w1) := hid (below_box hb1); clear hvt hb1 CV)
  obtain ⟨adT, capT, gN, capN, gR, capR, hX⟩ := ctx_of HGR.out.1 (HGR.out.2.2.below HB1.out)
  have hgb := hX.hgb
  have hgN := hX.hgN
  have hgR := hX.hgR
  have c0 := hX.c0
  have c2 := hX.c2
  have c3 := hX.c3
  have lN := hX.lN
  have lR := hX.lR
  have lT := hX.lT
  rw [← H2.out] at c0 lT
  rw [← H3.out] at c3 lR
  have CI : Hid (∀ m, Calls Tryz.prog 84 #[.slice (some ⟨gN, 0, none⟩) N.nN capN, .string pn] (w1.drewN m) fun e w' => e = .returned (.int .i64 nI) ∧ w' = w1.drewN m) := hid fun m => by
    rw [HNI.out]
    exact (hX.below (below_draws w1 m)).index pn
  have CJ : Hid (∀ x m, Calls Tryz.prog 84 #[.slice (some ⟨gN, 0, none⟩) N.nN capN, .string x] (w1.drewN m) fun e w' => e = .returned (.int .i64 (idxB G.names x)) ∧ w' = w1.drewN m) := hid fun x m => (hX.below (below_draws w1 m)).index x
  have CF : Hid (∀ n m, n < N.nN → Calls Tryz.prog 85 #[.pointer (some ⟨gb, 0, none⟩), .int .i64 (n : Nat)] (w1.drewN m) fun e w' => e = .returned (.int .i64 (firstN N n)) ∧ ∃ q, w' = w1.drewN q) := hid fun n m hn => by
    refine (first_any G N HGR.out.1 HGR.out.2.1 (w1.drewN m) B gb ((HGR.out.2.2.below HB1.out).below (below_draws w1 m)) n hn).mono ?_
    rintro e w' ⟨h1, q, h2⟩
    exact ⟨h1, _, h2.trans (World.drewN_drewN ..)⟩
  have hnle := HGR.out.1.leN
  have HX : Hid _ := hid hX
  obtain ⟨nN, hn1⟩ : ∃ n, n = N.nN := ⟨_, rfl⟩
  rw [← hn1] at c2 lN CI CJ CF hnle
  have H1 : Hid (nN = N.nN) := hid hn1
  have HLT : Hid (∀ x y z, HitT G N pn pr po pt x y z → x < y ∧ y < nR ∧ z < nT + 1) := hid fun x y z h => ⟨h.1.1, by rw [H3.out]; exact h.1.2.1, by rw [H2.out]; have := h.1.2.2.1; omega⟩
  have HLA : Hid (∀ x y z, HitA G N pn x y z → x < y ∧ y < nR ∧ z < nT + 1) := hid fun x y z h => ⟨h.1.1, by rw [H3.out]; exact h.1.2.1, by rw [H2.out]; have := h.1.2.2.1; omega⟩
  clear hX hn1
  go_wp2
  go_quiet ((go_at_call 84; exact (CI.out _).mono fun _ _ h => ⟨h.1, _, h.2⟩))
  go_wp2
  go_loopw [8, 9, 10] (fun a b i wr => ∃ (j q : Nat) (x y : Bool), j ≤ nR ∧ a = .bool x ∧ b = .bool y ∧ i = .int .i64 j ∧ wr = w1.drewN q ∧ Hid (Got (S1 j) (HitT G N pn pr po pt) x) ∧ Hid (Got (S1 j) (HitA G N pn) y)) (fun _ _ i _ => nR - (intOf i).toNat)
  case atStart => exact ⟨0, nq, false, false, Nat.zero_le _, rfl, rfl, rfl, by first | rfl | exact World.drewN_drewN .. | (rw [World.drewN_drewN]; exact World.drewN_drewN ..), hid Got.start, hid Got.start⟩
  case round =>
    obtain ⟨i, q1, x1, y1, hi, rfl, rfl, rfl, rfl, hT1, hA1⟩ := hrel
    by_cases hlti : i < nR
    · obtain ⟨r, hr⟩ : ∃ r, N.rules[i]? = some r := ⟨_, List.getElem?_eq_getElem (by rw [← H3.out]; exact hlti)⟩
      obtain ⟨rn, _, _, _, d0, _, _, hix, _⟩ := HX.out.rule i r hr
      have hm := HGR.out.1.ok.lt r (List.mem_of_getElem? hr)
      have hrn : rnAt N i = r.1 := by unfold rnAt; rw [hr]; rfl
      obtain ⟨m, hm1⟩ : ∃ m, m = rnAt N i := ⟨_, rfl⟩
      have HM : Hid (m = rnAt N i) := hid hm1
      rw [← hrn, ← hm1] at hix hm
      have HIx : Hid (idxB G.names rn = (m : Int)) := hid hix
      have CJi : Hid (∀ q, Calls Tryz.prog 84 #[.slice (some ⟨gN, 0, none⟩) nN capN, .string rn] (w1.drewN q) fun e w' => e = .returned (.int .i64 m) ∧ w' = w1.drewN q) := hid fun q => by
        have := CJ.out rn q
        rwa [hix] at this
      have CFi : Hid (∀ q, Calls Tryz.prog 85 #[.pointer (some ⟨gb, 0, none⟩), .int .i64 m] (w1.drewN q) fun e w' => e = .returned (.int .i64 (firstN N m)) ∧ ∃ q, w' = w1.drewN q) := hid fun q => CF.out m q (by rw [H1.out]; exact hm)
      have hfl := firstN_le N m
      rw [← H3.out] at hfl
      obtain ⟨fr, hfr⟩ : ∃ fr, fr = firstN N m := ⟨_, rfl⟩
      rw [← hfr] at CFi hfl
      have HFr : Hid (fr = firstN N m) := hid hfr
      obtain ⟨gi, ci, v0, hci, hgi, hvi⟩ := HV.out i hlti
      have HVi : Hid _ := hid hvi
      have HT2 : Hid (Got (S2 i (i + 1)) (HitT G N pn pr po pt) x1) := hid (hT1.out.s12 fun x y z h => (HLT.out x y z h).1)
      have HA2 : Hid (Got (S2 i (i + 1)) (HitA G N pn) y1) := hid (hA1.out.s12 fun x y z h => (HLA.out x y z h).1)
      clear hr hix hm hrn hm1 hvi hfr
      go_wp2
      go_loopw [8, 9, 11] (fun a b i2 wr => ∃ (j q : Nat) (x y : Bool), i + 1 ≤ j ∧ j ≤ nR ∧ a = .bool x ∧ b = .bool y ∧ i2 = .int .i64 j ∧ wr = w1.drewN q ∧ Hid (Got (S2 i j) (HitT G N pn pr po pt) x) ∧ Hid (Got (S2 i j) (HitA G N pn) y)) (fun _ _ i _ => nR - (intOf i).toNat)
      case atStart => exact ⟨i + 1, q1, x1, y1, Nat.le_refl _, by omega, rfl, rfl, by go_num, rfl, HT2, HA2⟩
      case round =>
        clear HT2 HA2
        obtain ⟨k, q2, x2, y2, hk1, hk, rfl, rfl, rfl, rfl, hT2, hA2⟩ := hrel
        by_cases hltk : k < nR
        · obtain ⟨s, hs⟩ : ∃ s, N.rules[k]? = some s := ⟨_, List.getElem?_eq_getElem (by rw [← H3.out]; exact hltk)⟩
          obtain ⟨sn, _, _, _, e0, _, _, hsx, _⟩ := HX.out.rule k s hs
          have hsn : rnAt N k = s.1 := by unfold rnAt; rw [hs]; rfl
          rw [← hsn] at hsx
          have hne := rn_same HIx.out hsx
          obtain ⟨gk, ck, u0, hck, hgk, hvk⟩ := HV.out k hltk
          have HVk : Hid _ := hid hvk
          clear hs hsn hsx hvk
          by_cases hmk : m = rnAt N k
          · have hb : (rn.toList == sn.toList) = true := by rw [hne, decide_eq_true hmk]
            have HMK : Hid (rnAt N i = rnAt N k) := hid (by rw [← HM.out]; exact hmk)
            have HT3 : Hid (Got (S3 i k 0) (HitT G N pn pr po pt) x2) := hid hT2.out.s23
            have HA3 : Hid (Got (S3 i k 0) (HitA G N pn) y2) := hid hA2.out.s23
            clear hne hmk
            go_wp2
            go_quiet ((go_at_call 84; exact (CJi.out _).mono fun _ _ h => ⟨h.1, _, h.2⟩))
            go_wp2
            go_quiet (fail)
            go_wp2
            go_loopw [8, 9, 13] (fun a b i3 wr => ∃ (t q : Nat) (x y : Bool), t ≤ nT + 1 ∧ a = .bool x ∧ b = .bool y ∧ i3 = .int .i64 t ∧ wr = w1.drewN q ∧ Hid (Got (S3 i k t) (HitT G N pn pr po pt) x) ∧ Hid (Got (S3 i k t) (HitA G N pn) y)) (fun _ _ i _ => nT + 1 - (intOf i).toNat)
            case atStart => exact ⟨0, _, x2, y2, Nat.zero_le _, rfl, rfl, rfl, by first | rfl | exact World.drewN_drewN .. | (rw [World.drewN_drewN]; exact World.drewN_drewN ..), HT3, HA3⟩
            case round =>
              clear HT3 HA3 hT2 hA2
              obtain ⟨t, q3, x3, y3, ht, rfl, rfl, rfl, rfl, hT3, hA3⟩ := hrel
              by_cases hltt : t < nT + 1
              · have v1 := HVi.out t hltt
                have u1 := HVk.out t hltt
                have hdt : decide ((t : Int) ≤ (nT : Int)) = true := decide_eq_true (by omega)
                obtain ⟨va, hva⟩ : ∃ b, b = bAt (mAt (votesN N) i) t := ⟨_, rfl⟩
                obtain ⟨vb, hvb⟩ : ∃ b, b = bAt (mAt (votesN N) k) t := ⟨_, rfl⟩
                rw [← hva] at v1
                rw [← hvb] at u1
                cases va with
                | false =>
                  have hno : ¬ Clash3 N i k t := fun h => by rw [h.2.2.2.2.1] at hva; cases hva
                  have HT4 : Hid (Got (S3 i k (t + 1)) (HitT G N pn pr po pt) x3) := hid (hT3.out.no fun h => hno h.1)
                  have HA4 : Hid (Got (S3 i k (t + 1)) (HitA G N pn) y3) := hid (hA3.out.no fun h => hno h.1)
                  clear hva hvb hno
                  go_wp2
                  go_roundw
                  case rel => exact ⟨t + 1, q3, x3, y3, by omega, rfl, rfl, by go_num, rfl, HT4, HA4⟩
                  case measure => simp [intOf]; omega
                | true => cases vb with
                  | false =>
                    have hno : ¬ Clash3 N i k t := fun h => by rw [h.2.2.2.2.2] at hvb; cases hvb
                    have HT4 : Hid (Got (S3 i k (t + 1)) (HitT G N pn pr po pt) x3) := hid (hT3.out.no fun h => hno h.1)
                    have HA4 : Hid (Got (S3 i k (t + 1)) (HitA G N pn) y3) := hid (hA3.out.no fun h => hno h.1)
                    clear hva hvb hno
                    go_wp2
                    go_roundw
                    case rel => exact ⟨t + 1, q3, x3, y3, by omega, rfl, rfl, by go_num, rfl, HT4, HA4⟩
                    case measure => simp [intOf]; omega
                  | true =>
                    have HC3 : Hid (Clash3 N i k t) := hid ⟨by omega, by rw [← H3.out]; exact hltk, by rw [← H2.out]; omega, HMK.out, hva.symm, hvb.symm⟩
                    clear hva hvb
                    have key : (∃ y4, Got (S3 i k (t + 1)) (HitA G N pn) y4 ∧ ((y3 = true ∧ y4 = true) ∨ (y3 = false ∧ nI < 0 ∧ y4 = true) ∨ (y3 = false ∧ ¬ nI < 0 ∧ (m : Int) < nI ∧ y4 = true) ∨ (y3 = false ∧ ¬ nI < 0 ∧ ¬ (m : Int) < nI ∧ y4 = false))) := by
                      cases y3 with
                      | true => exact ⟨true, hA3.out.all, .inl ⟨rfl, rfl⟩⟩
                      | false =>
                        by_cases h1 : nI < 0
                        · exact ⟨true, Got.yes ⟨HC3.out, .inl (by rw [← HNI.out]; exact h1)⟩, .inr (.inl ⟨rfl, h1, rfl⟩)⟩
                        · by_cases h2 : (m : Int) < nI
                          · exact ⟨true, Got.yes ⟨HC3.out, .inr (by rw [← HNI.out, ← HM.out]; exact h2)⟩, .inr (.inr (.inl ⟨rfl, h1, h2, rfl⟩))⟩
                          · exact ⟨false, hA3.out.no (fun h => by
                              rcases h.2 with h3 | h3
                              · exact h1 (by rw [HNI.out]; exact h3)
                              · exact h2 (by rw [HNI.out, HM.out]; exact h3)), .inr (.inr (.inr ⟨rfl, h1, h2, rfl⟩))⟩
                    obtain ⟨y4, hy4, hcase⟩ := key
                    have HA4 : Hid _ := hid hy4
                    have HW : Hid (∃ c, c = tokE G N t ∧ ((t < nT ∧ ∃ gT, adT = some ⟨gT, 0, none⟩ ∧ gT < w1.heap.size ∧ w1.cell? ⟨gT, t * 3, none⟩ = some (.string c)) ∨ (¬ t < nT ∧ c = ByteArray.empty))) := hid (by
                      by_cases htt : t < nT
                      · obtain ⟨gT, e1, e2, e3, _⟩ := HX.out.toks t (by rw [← H2.out]; exact htt)
                        exact ⟨tokW G.toks t, by unfold tokE; rw [if_pos (by rw [← H2.out]; exact htt)], .inl ⟨htt, gT, e1, e2, e3⟩⟩
                      · exact ⟨ByteArray.empty, by unfold tokE; rw [if_neg (by rw [← H2.out]; exact htt)], .inr ⟨htt, rfl⟩⟩)
                    obtain ⟨c, hc, htk⟩ := HW.out
                    have HTok : Hid (((m : Int) = nI ∧ pr = (i : Int) - fr ∧ po = (k : Int) - fr ∧ (pt.toList == c.toList) = true → HitT G N pn pr po pt i k t) ∧ (HitT G N pn pr po pt i k t → (m : Int) = nI ∧ pr = (i : Int) - fr ∧ po = (k : Int) - fr ∧ (pt.toList == c.toList) = true)) := hid (by
                      rw [hc, HM.out, HNI.out, HFr.out, HM.out]
                      exact ⟨fun h => ⟨HC3.out, h⟩, fun h => h.2⟩)
                    have HTk : Hid _ := hid htk
                    clear hy4 HW hc htk
                    go_upto_region 17 with fail
                    go_cut [9] (fun s9 wx => s9 = .bool y4 ∧ wx = w1.drewN q3)
                    case first =>
                      rcases hcase with ⟨rfl, rfl⟩ | ⟨rfl, h1, rfl⟩ | ⟨rfl, h1, h2, rfl⟩ | ⟨rfl, h1, h2, rfl⟩
                      all_goals
                        go_wp2
                        go_meet
                        exact ⟨rfl, rfl⟩
                    case rest =>
                      obtain ⟨rfl, rfl⟩ := hcut
                      clear hcase
                      go_upto_if 118 with fail
                      go_cut [14] (fun s14 wx => s14 = .string c ∧ wx = w1.drewN q3)
                      case first =>
                        rcases HTk.out with ⟨htt, gT, rfl, hgT, ct⟩ | ⟨htt, rfl⟩
                        all_goals
                          go_wp2
                          go_meet
                          exact ⟨rfl, rfl⟩
                      case rest =>
                        obtain ⟨rfl, rfl⟩ := hcut
                        obtain ⟨k1, k2⟩ := HTok.out
                        have key2 : (∃ x4, Got (S3 i k (t + 1)) (HitT G N pn pr po pt) x4 ∧ ((((m : Int) == nI) = false ∧ x4 = x3) ∨ (((m : Int) == nI) = true ∧ (pr == (i : Int) - fr) = false ∧ x4 = x3) ∨ (((m : Int) == nI) = true ∧ (pr == (i : Int) - fr) = true ∧ (po == (k : Int) - fr) = false ∧ x4 = x3) ∨
                            (((m : Int) == nI) = true ∧ (pr == (i : Int) - fr) = true ∧ (po == (k : Int) - fr) = true ∧ (pt.toList == c.toList) = false ∧ x4 = x3) ∨ (((m : Int) == nI) = true ∧ (pr == (i : Int) - fr) = true ∧ (po == (k : Int) - fr) = true ∧ (pt.toList == c.toList) = true ∧ x4 = true))) := by
                          cases b1 : ((m : Int) == nI) with
                          | false => exact ⟨x3, hT3.out.no (fun h => by rw [beq_iff_eq.2 (k2 h).1] at b1; cases b1), .inl ⟨rfl, rfl⟩⟩
                          | true => cases b2 : (pr == (i : Int) - fr) with
                            | false => exact ⟨x3, hT3.out.no (fun h => by rw [beq_iff_eq.2 (k2 h).2.1] at b2; cases b2), .inr (.inl ⟨rfl, rfl, rfl⟩)⟩
                            | true => cases b3 : (po == (k : Int) - fr) with
                              | false => exact ⟨x3, hT3.out.no (fun h => by rw [beq_iff_eq.2 (k2 h).2.2.1] at b3; cases b3), .inr (.inr (.inl ⟨rfl, rfl, rfl, rfl⟩))⟩
                              | true => cases b4 : (pt.toList == c.toList) with
                                | false => exact ⟨x3, hT3.out.no (fun h => by rw [(k2 h).2.2.2] at b4; cases b4), .inr (.inr (.inr (.inl ⟨rfl, rfl, rfl, rfl, rfl⟩)))⟩
                                | true => exact ⟨true, Got.yes (k1 ⟨beq_iff_eq.1 b1, beq_iff_eq.1 b2, beq_iff_eq.1 b3, b4⟩), .inr (.inr (.inr (.inr ⟨rfl, rfl, rfl, rfl, rfl⟩)))⟩
                        obtain ⟨x4, hx4, hcase2⟩ := key2
                        have HT4 : Hid _ := hid hx4
                        clear hx4 k1 k2 HTok
                        rcases hcase2 with ⟨g1, rfl⟩ | ⟨g1, g2, rfl⟩ | ⟨g1, g2, g3, rfl⟩ | ⟨g1, g2, g3, g4, rfl⟩ | ⟨g1, g2, g3, g4, rfl⟩
                        all_goals
                          go_wp2_with (go_at_call 85; refine (CFi.out _).mono ?_; rintro e w5 ⟨rfl, q5, rfl⟩)
                          go_roundw
                        all_goals first
                          | exact ⟨t + 1, _, _, _, by omega, rfl, rfl, by go_num, rfl, HT4, HA4⟩
                          | (simp [intOf]; omega)
              · obtain rfl : t = nT + 1 := by omega
                have hdt : decide (((nT + 1 : Nat) : Int) ≤ (nT : Int)) = false := decide_eq_false (by omega)
                have HT4 : Hid (Got (S2 i (k + 1)) (HitT G N pn pr po pt) x3) := hid (hT3.out.s32 fun x y z h => (HLT.out x y z h).2.2)
                have HA4 : Hid (Got (S2 i (k + 1)) (HitA G N pn) y3) := hid (hA3.out.s32 fun x y z h => (HLA.out x y z h).2.2)
                go_wp2
                go_roundw
                case rel => exact ⟨k + 1, q3, x3, y3, by omega, by omega, rfl, rfl, by go_num, rfl, HT4, HA4⟩
                case measure => simp [intOf]; omega
          · have hb : (rn.toList == sn.toList) = false := by rw [hne, decide_eq_false hmk]
            have HT3 : Hid (Got (S2 i (k + 1)) (HitT G N pn pr po pt) x2) := hid (hT2.out.skip fun z h => hmk (by rw [HM.out]; exact h.1.2.2.2.1))
            have HA3 : Hid (Got (S2 i (k + 1)) (HitA G N pn) y2) := hid (hA2.out.skip fun z h => hmk (by rw [HM.out]; exact h.1.2.2.2.1))
            clear hne
            go_wp2
            go_quiet ((go_at_call 84; exact (CJi.out _).mono fun _ _ h => ⟨h.1, _, h.2⟩))
            go_wp2
            go_quiet (fail)
            go_wp2
            go_roundw
            case rel => exact ⟨k + 1, _, x2, y2, by omega, by omega, rfl, rfl, by go_num, by first | rfl | exact World.drewN_drewN .. | (rw [World.drewN_drewN]; exact World.drewN_drewN ..), HT3, HA3⟩
            case measure => simp [intOf]; omega
        · obtain rfl : k = nR := by omega
          have HT3 : Hid (Got (S1 (i + 1)) (HitT G N pn pr po pt) x2) := hid (hT2.out.s21 fun x y z h => (HLT.out x y z h).2.1)
          have HA3 : Hid (Got (S1 (i + 1)) (HitA G N pn) y2) := hid (hA2.out.s21 fun x y z h => (HLA.out x y z h).2.1)
          go_wp2
          go_roundw
          case rel => exact ⟨i + 1, q2, x2, y2, by omega, rfl, rfl, by go_num, rfl, HT3, HA3⟩
          case measure => simp [intOf]; omega
    · obtain rfl : i = nR := by omega
      have HT3 : Hid (x1 = true ↔ ∃ x y z, HitT G N pn pr po pt x y z) := hid (hT1.out.done fun x y z h => by have := HLT.out x y z h; omega)
      have HA3 : Hid (y1 = true ↔ ∃ x y z, HitA G N pn x y z) := hid (hA1.out.done fun x y z h => by have := HLA.out x y z h; omega)
      go_wp2
      go_ret2
      exact ⟨x1, y1, rfl, HT3.out, HA3.out, HB1.out.trans ((below_draws w1 _).mono HB1.out.size)⟩

end Go.Proofs.YtjjggdcnpndgjaaGreatDoor
