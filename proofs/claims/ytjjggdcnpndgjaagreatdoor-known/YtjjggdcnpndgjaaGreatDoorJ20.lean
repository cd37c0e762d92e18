/- darnkeep.sameRow of two rows of the same words. darnkeep.Known, walked over contracts of build and of Facts. -/
import Derived.Test.YtjjggdcnpndgjaaGreatDoorJ17
import Derived.Test.YtjjggdcnpndgjaaGreatDoorJK4
import Derived.Test.YtjjggdcnpndgjaaGreatDoorJ19
namespace Go.Proofs.YtjjggdcnpndgjaaGreatDoor
open Go.RowKit Go.Shelf

set_option maxHeartbeats 1000000 in
set_option maxRecDepth 100000 in
theorem ksamerow_any (w : World) (v1 v2 : Value) (l : List ByteArray) (B1 B2 : Nat) (h1 : OwnS w B1 v1 l) (h2 : OwnS w B2 v2 l) (hn : l.length ≤ 21) :
    Calls Tryz.prog 32 #[v1, v2] w fun e w' => e = .returned (.bool true) ∧ ∃ q, w' = w.drewN q := by
  obtain ⟨a1, c1, rfl, hc1, hg1⟩ := h1.shape
  obtain ⟨a2, c2, rfl, hc2, hg2⟩ := h2.shape
  obtain ⟨n, hN⟩ : ∃ n, n = l.length := ⟨_, rfl⟩
  rw [← hN] at hn hc1 hc2 hg1 hg2 ⊢
  have HN : Hid (n = l.length) := hid hN
  have HG1 : Hid _ := hid hg1
  have HG2 : Hid _ := hid hg2
  clear hg1 hg2 hN h1 h2
  have hd : ((n : Int) == (n : Int)) = true := by simp
  go_enter Tryz.func32, Tryz.ntmps32
  go_wp2
  go_loopw [5] (fun i wr => ∃ j q : Nat, j ≤ n ∧ i = .int .i64 j ∧ wr = w.drewN q) (fun i _ => n - (intOf i).toNat)
  case atStart => exact ⟨0, 0, Nat.zero_le _, rfl, rfl⟩
  case round =>
    obtain ⟨j, q, hj, rfl, rfl⟩ := hrel
    by_cases hlt : j < n
    · obtain ⟨s, hs⟩ : ∃ s, l[j]? = some s := ⟨_, List.getElem?_eq_getElem (by rw [← HN.out]; exact hlt)⟩
      obtain ⟨g1, rfl, k1⟩ := HG1.out (by omega)
      obtain ⟨g2, rfl, k2⟩ := HG2.out (by omega)
      have p1 := k1 j s hs
      have p2 := k2 j s hs
      clear k1 k2 hs
      go_wp2
      go_quiet (fail)
      go_wp2
      go_roundw
      case rel => exact ⟨j + 1, _, by omega, by go_num, by first | rfl | exact World.drewN_drewN ..⟩
      case measure => simp [intOf]; omega
    · go_wp2
      go_ret
      exact ⟨rfl, _, rfl⟩

end Go.Proofs.YtjjggdcnpndgjaaGreatDoor

namespace Go.Proofs.YtjjggdcnpndgjaaGreatDoor
open Go.RowKit Go.Shelf

theorem facts_len (m : Mk) : (factsB (grM m) (ngM m) m.rules.length).length = m.rules.length := by unfold factsB; simp
theorem facts_at {m : Mk} {n : Nat} (hn : n < m.rules.length) : (factsB (grM m) (ngM m) m.rules.length)[n]? = some (factOf (grM m) (ngM m) n) := by
  unfold factsB
  rw [List.getElem?_map, List.getElem?_range hn]
  rfl
theorem listB_len {tws : List ByteArray} (on : List Bool) (h : tws.length ≤ 20) : (listB tws on).length ≤ 21 := by
  unfold listB
  have h1 := List.length_filter_le (fun t => bAt on t) (List.range tws.length)
  rw [List.length_range] at h1
  rw [List.length_append, List.length_map]
  split
  · simp; omega
  · simp; omega
theorem follow_len {m : Mk} (h : m.Good) (n : Nat) : (factOf (grM m) (ngM m) n).follow.length ≤ 21 := listB_len _ (by rw [tws_text h]; have := h.t6; simp; omega)
theorem cheap_len {m : Mk} (h : m.Good) : (cheapN (ngM m)).length = m.rules.length :=
  (cheap_rounds (ngM_ok h) (fun r hr => by
    obtain ⟨rs, h1, h2⟩ := mem_ngM.1 hr
    obtain ⟨k, ps, _, e, _⟩ := h.beg (mk_mem h1).2 h2
    exact ⟨k, ps, e⟩) (fun n hn => by have := least_small h hn; omega) _).1

set_option linter.unusedSimpArgs false in
set_option maxHeartbeats 4000000 in
set_option maxRecDepth 100000 in
theorem known_of (v : Value) (w : World)
    (hB : Calls Tryz.prog 27 #[v] w fun e w' => ∃ b m, Mk.Good m ∧ e = .returned (.pointer (some ⟨b, 0, none⟩)) ∧ MkV w' w'.heap.size b m ∧ Below w.heap.size w w')
    (hF : ∀ m, Mk.Good m → ∀ W, Below w.heap.size w W → Calls Tryz.prog 28 #[.string (textM m)] W fun e w' => ∃ fv ps, e = .returned (.tuple #[fv, .int .i64 0]) ∧ FcV w' W.heap.size fv (factsB (grM m) (ngM m) m.rules.length) ps ∧ Below W.heap.size W w') :
    Calls Tryz.prog 10 #[v] w fun e w' => e = .returned (.bool true) ∧ Below w.heap.size w w' := by
  obtain ⟨i0, hi, hz0, hz1, hz2⟩ := info_parts Tryz.info9
  have HB : Hid _ := hid hB
  have HF : Hid _ := hid hF
  clear hB hF
  go_enter Tryz.func10, Tryz.ntmps10
  go_wp2_with (go_at_call 27; refine HB.out.mono ?_; rintro e w1 ⟨b, m, hg, rfl, hM, hb1⟩; have HG : Hid _ := hid hg; have HM : Hid _ := hid hM; have HB1 : Hid _ := hid hb1; clear hg hM hb1 HB)
  obtain ⟨gR, cR, gP, cP, gD, cD, gS, cS, hC⟩ := mkc_of HM.out
  have HC : Hid _ := hid hC
  clear hC
  have hN4 := HG.out.n4
  have hN1 := HG.out.n1
  have hdn : ((m.rules.length : Int) == (m.rules.length : Int)) = true := by simp
  go_wp2_with (first
    | (go_at_call 29; refine (text_any m HG.out w1 b HM.out).mono ?_; rintro e w2 ⟨rfl, hb2⟩; have HB2 : Hid _ := hid hb2; clear hb2)
    | (go_at_call 28; refine (HF.out m HG.out _ (HB1.out.trans (HB2.out.mono HB1.out.size))).mono ?_; rintro e w3 ⟨fv, ps, rfl, hf3, hb3⟩; have HF3 : Hid _ := hid hf3; have HB3 : Hid _ := hid hb3; obtain ⟨aF, cF, rfl, hcF, hgF⟩ := hf3.shape; rw [facts_len] at hcF hgF; have HGF : Hid _ := hid hgF; clear hb3 hf3 hgF HF; rw [facts_len])
    | (go_at_call 30; refine (cheapest_any m HG.out w3 b ((HM.out.below (HB2.out.trans (HB3.out.mono HB2.out.size))).up (Nat.le_trans HB2.out.size HB3.out.size))).mono ?_; rintro e w4 ⟨rfl, ho4, hb4⟩; have HO4 : Hid _ := hid ho4; have HB4 : Hid _ := hid hb4; have c0 := (HC.out _ (HB2.out.trans ((HB3.out.trans (HB4.out.mono HB3.out.size)).mono HB2.out.size))).c0; have lR := (HC.out _ (HB2.out.trans ((HB3.out.trans (HB4.out.mono HB3.out.size)).mono HB2.out.size))).lR; clear ho4 hb4))
  have hB14 : Below w1.heap.size w1 w4 := HB2.out.trans ((HB3.out.trans (HB4.out.mono HB3.out.size)).mono HB2.out.size)
  have HB14 : Hid _ := hid hB14
  have hl34 : w3.heap.size < w4.heap.size := (HO4.out.lt _ rfl).2
  have HC4 : Hid (∀ n, n < m.rules.length → w4.cell? ⟨w3.heap.size, n, none⟩ = some (.int .i64 (lAt (leastsN (ngM m)) n))) := hid fun n hn => by
    have h1 := (own_cellN HO4.out (cheap_len HG.out) hn).1
    rw [h1, cheap_text HG.out hn]
  obtain ⟨gF, hgF, hlF, hcells⟩ := HGF.out hN1
  subst hgF
  have HFc : Hid (∀ W, Below w4.heap.size w4 W → ∀ n rs, m.rules[n]? = some rs → ∃ p1 p2 fl d1 d2, W.cell? ⟨gF, n * 5, none⟩ = some (.string (namB n)) ∧ W.cell? ⟨gF, n * 5 + 1, none⟩ = some (.bool false) ∧ W.cell? ⟨gF, n * 5 + 2, none⟩ = some p1 ∧ W.cell? ⟨gF, n * 5 + 3, none⟩ = some p2 ∧ W.cell? ⟨gF, n * 5 + 4, none⟩ = some (.int .i64 (lAt (leastsN (ngM m)) n)) ∧ OwnS W d1 p1 ((List.range rs.length).map letB) ∧ OwnS W d2 p2 fl ∧ (n = 0 → ∃ l, fl = l ++ [ByteArray.empty]) ∧ fl.length ≤ 21) := hid fun W hb n rs hrs => by
    have hb3 : Below w3.heap.size w3 W := HB4.out.trans (hb.mono HB4.out.size)
    obtain ⟨p, hp, h0, h1, h2, h3, h4⟩ := hcells n _ (facts_at (m := m) (mk_mem hrs).1)
    obtain ⟨f0, f1, f2, f3, f4⟩ := facts_text HG.out hrs
    rw [f0] at h0
    rw [f1] at h1
    rw [f3] at h4
    obtain ⟨o1, o2⟩ := (HF3.out.below hb3).wds n _ p (facts_at (m := m) (mk_mem hrs).1) hp
    rw [f2] at o1
    exact ⟨p.1, p.2, _, _, _, (hb3.cell (by exact hlF)).trans h0, (hb3.cell (by exact hlF)).trans h1, (hb3.cell (by exact hlF)).trans h2, (hb3.cell (by exact hlF)).trans h3, (hb3.cell (by exact hlF)).trans h4, o1, o2, f4, follow_len HG.out n⟩
  have HCm : Hid (∀ W, Below w4.heap.size w4 W → MkC W w1.heap.size b m gR cR gP cP gD cD gS cS) := hid fun W hb => HC.out W (hB14.trans (hb.mono hB14.size))
  have hT6 := HG.out.t6
  clear hB14 hcells c0 lR hdn
  go_loopw [7] (fun i wr => ∃ k : Nat, k ≤ m.rules.length ∧ i = .int .i64 k ∧ Hid (Below w4.heap.size w4 wr)) (fun i _ => m.rules.length - (intOf i).toNat)
  case atStart => exact ⟨0, Nat.zero_le _, rfl, hid (Below.refl _ _)⟩
  case round =>
    obtain ⟨k, hk, rfl, hbr⟩ := hrel
    obtain ⟨W, hW⟩ : ∃ W, W = wr := ⟨_, rfl⟩
    subst hW
    by_cases hlt : k < m.rules.length
    · obtain ⟨rs, hrs⟩ : ∃ rs, m.rules[k]? = some rs := ⟨_, List.getElem?_eq_getElem hlt⟩
      have hcr := (HG.out.c1 rs (mk_mem hrs).2).2
      have HRS : Hid (m.rules[k]? = some rs) := hid hrs
      obtain ⟨nR, hnR⟩ : ∃ n, n = rs.length := ⟨_, rfl⟩
      have HNR : Hid (nR = rs.length) := hid hnR
      rw [← hnR] at hcr
      have hnr6 : nR ≤ 6 := by omega
      clear hrs hnR hcr
      go_wp2
      go_loopw [8, 9] (fun u i wr => ∃ q : Nat, q ≤ nR ∧ i = .int .i64 q ∧ Hid (OwnS wr w4.heap.size u ((List.range q).map letB)) ∧ Hid (Below w4.heap.size w4 wr)) (fun _ i _ => nR - (intOf i).toNat)
      case atStart => exact ⟨0, Nat.zero_le _, rfl, hid (World.ownsRow_nil _ _ _ _), hbr⟩
      case round =>
        clear hbr
        obtain ⟨q, hq, rfl, hown, hbr⟩ := hrel
        obtain ⟨W, hW⟩ : ∃ W, W = wr := ⟨_, rfl⟩
        subst hW
        have hX := HCm.out _ hbr.out
        have c0 := hX.c0
        have lR := hX.lR
        obtain ⟨gn, cn, d0, hcn, _⟩ := hX.rules k rs HRS.out
        rw [← HNR.out] at d0 hcn
        have hsz := hbr.out.size
        by_cases hlq : q < nR
        · have hon : W.ownsRow w4.heap.size 9 1 u8 ((List.range q).map letB).length (strs ((List.range q).map letB)) := hown.out
          have hlen : ((List.range q).map letB).length ≤ 6 := by simp; omega
          have HL : Hid ((List.range (q + 1)).map letB = (List.range q).map letB ++ [letB q]) := hid (by rw [List.range_succ, List.map_append]; rfl)
          obtain ⟨L, hL⟩ : ∃ L, L = (List.range q).map letB := ⟨_, rfl⟩
          rw [← hL] at hon hlen HL
          have CN : Hid (∀ W, Calls Tryz.prog 31 #[.int .i64 q] W fun e w' => e = .returned (.string (letB q)) ∧ W = w') := hid fun W => letter_any q (by omega) W
          clear hX hown hL
          go_wp2_with (first
            | (go_at_call 31; refine (CN.out _).mono ?_; rintro e w' ⟨rfl, rfl⟩)
            | (at_builtin; refine wpList_append_own _ rfl _ _ 39 rfl w4.heap.size 9 i0 (.string ByteArray.empty) 1 16 Tryz.underlying39 hi hz0 hz1 hz2 rfl (by decide) _ _ _ rfl (hon.alloc _) ⟨W.heap.size, 0, none⟩ 1 1 [.string (letB q)] rfl rfl (cell_one_new _ _ _) ?c2 ?c3 ?c4 ?c5 ?_))
          case c2 => intro u hu; simp at hu; subst hu; rfl
          case c3 => unfold maxLen; omega
          case c4 => omega
          case c5 => simp; omega
          intro v' w5 hown' hgrow _
          have HO1 : Hid (OwnS w5 w4.heap.size v' ((List.range (q + 1)).map letB)) := hid (by
            rw [HL.out]; unfold OwnS; rw [List.length_append]; unfold strs at hown' ⊢; rw [List.map_append]; exact hown')
          have HBn : Hid (Below w4.heap.size w4 w5) := hid ((hbr.out.alloc hsz (Obj.cells #[.string (letB q)] 9)).grown hgrow (by simp; omega) (fun g hg => (hon.lt g hg).1))
          clear hown' hgrow hon
          go_wp2
          go_roundw
          case rel => exact ⟨q + 1, by omega, by go_num, HO1, HBn⟩
          case measure => simp [intOf]; omega
        · obtain ⟨p1, p2, fl, e1, e2, x0, x1, x2, x3, x4, o1, o2, h0, hfl⟩ := HFc.out W hbr.out k rs HRS.out
          have hqe : (List.range q).map letB = (List.range rs.length).map letB := by rw [show q = rs.length by rw [← HNR.out]; omega]
          have hrl : ((List.range rs.length).map letB).length ≤ 21 := by simp; rw [← HNR.out]; omega
          have ou : OwnS W w4.heap.size u8 ((List.range rs.length).map letB) := by rw [← hqe]; exact hown.out
          have x5 := (hbr.out.cell (p := ⟨w3.heap.size, k, none⟩) hl34).trans (HC4.out k hlt)
          obtain ⟨L, hL⟩ : ∃ L, L = lAt (leastsN (ngM m)) k := ⟨_, rfl⟩
          rw [← hL] at x4 x5
          obtain ⟨s1, t1, hs1⟩ := own_slice o1
          obtain ⟨m1, hm1⟩ : ∃ n, ((List.range rs.length).map letB).length = n := ⟨_, rfl⟩
          have CS : Hid (∀ W', W' = W → Calls Tryz.prog 32 #[p1, u8] W' fun e w' => e = .returned (.bool true) ∧ ∃ q, w' = W.drewN q) := hid fun W' h => by
            subst h
            exact ksamerow_any _ p1 u8 _ _ _ o1 ou hrl
          rw [hs1, hm1] at x2 CS
          have hdL : ((L : Int) == (L : Int)) = true := by simp
          have hgl : gF < W.heap.size := by have := hbr.out.size; omega
          have hwl : w3.heap.size < W.heap.size := by have := hbr.out.size; omega
          clear hX hown ou o1 o2 h0 hfl hqe hrl hs1 hm1 hL x3
          go_wp2_with (go_at_call 32; refine (CS.out _ rfl).mono ?_; rintro e w' ⟨rfl, qq, rfl⟩)
          have hbd : Below W.heap.size W (W.drewN qq).drew := (below_draws W qq).drew
          refine wp_region_held_drew (S := fun w' => w'.cell? ⟨gF, k * 5, none⟩ = some (.string (namB k)) ∧ w'.cell? ⟨gF, k * 5 + 1, none⟩ = some (.bool false) ∧ w'.cell? ⟨gF, k * 5 + 4, none⟩ = some (.int .i64 L) ∧ w'.cell? ⟨w3.heap.size, k, none⟩ = some (.int .i64 L) ∧ Below w4.heap.size w4 w') (by kernel_rfl) ⟨(hbd.cell (by exact hgl)).trans x0, (hbd.cell (by exact hgl)).trans x1, (hbd.cell (by exact hgl)).trans x4, (hbd.cell (by exact hwl)).trans x5, hbr.out.trans (hbd.mono hsz)⟩ (fun hHeld => ?_)
          refine tkA 0 ?vv103 rfl ?hy103 hHeld ?_
          case hy103 => (intro w hSw; (try dsimp only at hSw); first | (go_simp; done) | (go_simp; with_reducible rfl))
          try simp only [zA, zC, Act.put, zD, zE, zF]
          refine tkA 1 ?vv44 rfl ?hy44 hHeld ?_
          case hy44 => (intro w hSw; (try dsimp only at hSw); first | (go_simp; done) | (go_simp; with_reducible rfl))
          try simp only [zA, zB, zC, Act.put, zD, zE, zF]
          refine tkA 2 ?vv45 rfl ?hy45 hHeld ?_
          case hy45 => (intro w hSw; (try dsimp only at hSw); first | (go_simp; done) | (go_simp; with_reducible rfl))
          try simp only [zA, zB, zC, Act.put, zD, zE, zF]
          refine tkA 3 ?vv46 rfl ?hy46 hHeld ?_
          case hy46 => (intro w hSw; (try dsimp only at hSw); first | (go_simp; done) | (go_simp; with_reducible rfl))
          try simp only [zA, zB, zC, Act.put, zD, zE, zF]
          refine tkA 4 ?vv47 rfl ?hy47 hHeld ?_
          case hy47 => (intro w hSw; (try dsimp only at hSw); first | (go_simp; done) | (go_simp; with_reducible rfl))
          try simp only [zA, zB, zC, Act.put, zD, zE, zF]
          refine tkA 5 ?vv48 rfl ?hy48 hHeld ?_
          case hy48 => (intro w hSw; (try dsimp only at hSw); first | (go_simp; done) | (go_simp; with_reducible rfl))
          try simp only [zA, zB, zC, Act.put, zD, zE, zF]
          refine tkA 6 ?vv49 rfl ?hy49 hHeld ?_
          case hy49 => (intro w hSw; (try dsimp only at hSw); first | (go_simp; done) | (go_simp; with_reducible rfl))
          try simp only [zA, zB, zC, Act.put, zD, zE, zF]
          refine tkA 7 ?vv50 rfl ?hy50 hHeld ?_
          case hy50 => (intro w hSw; (try dsimp only at hSw); first | (go_simp; done) | (go_simp; with_reducible rfl))
          try simp only [zA, zB, zC, Act.put, zD, zE, zF]
          refine tkA 8 ?vv51 rfl ?hy51 hHeld ?_
          case hy51 => (intro w hSw; (try dsimp only at hSw); first | (go_simp; done) | (go_simp; with_reducible rfl))
          try simp only [zA, zB, zC, Act.put, zD, zE, zF]
          refine wpAnyH_ready (rs := [9]) (by kernel_rfl) (by simp) ?_
          refine AllReadyH.cons rfl (fun K hK => ?_) AllReadyH.nil
          try simp only [zA, zB, zC]
          go_simp; refine (kname_any k (by omega) _).mono ?_; rintro e w' ⟨rfl, rfl⟩; try dsimp only
          refine hK.out _ _ ?_ (fun hHeld => ?_)
          · exact hHeld
          clear hK K
          try simp only [zA, zB, zC, Act.put, zD, zE, zF]
          refine tkA 10 ?vv52 rfl ?hy52 hHeld ?_
          case hy52 => (intro w hSw; (try dsimp only at hSw); first | (go_simp; done) | (go_simp; with_reducible rfl))
          try simp only [zA, zB, zC, Act.put, zD, zE, zF]
          refine tkA 11 ?vv53 rfl ?hy53 hHeld ?_
          case hy53 => (intro w hSw; (try dsimp only at hSw); first | (go_simp; done) | (go_simp; with_reducible rfl))
          try simp only [zA, zB, zC, Act.put, zD, zE, zF]
          refine tkA 12 ?vv54 rfl ?hy54 hHeld ?_
          case hy54 => (intro w hSw; (try dsimp only at hSw); first | (go_simp; done) | (go_simp; with_reducible rfl))
          try simp only [zA, zB, zC, Act.put, zD, zE, zF]
          refine tkA 13 ?vv55 rfl ?hy55 hHeld ?_
          case hy55 => (intro w hSw; (try dsimp only at hSw); first | (go_simp; done) | (go_simp; with_reducible rfl))
          try simp only [zA, zB, zC, Act.put, zD, zE, zF]
          refine tkA 14 ?vv56 rfl ?hy56 hHeld ?_
          case hy56 => (intro w hSw; (try dsimp only at hSw); first | (go_simp; done) | (go_simp; with_reducible rfl))
          try simp only [zA, zB, zC, Act.put, zD, zE, zF]
          refine tkA 15 ?vv57 rfl ?hy57 hHeld ?_
          case hy57 => (intro w hSw; (try dsimp only at hSw); first | (go_simp; done) | (go_simp; with_reducible rfl))
          try simp only [zA, zB, zC, Act.put, zD, zE, zF]
          refine tkA 16 ?vv58 rfl ?hy58 hHeld ?_
          case hy58 => (intro w hSw; (try dsimp only at hSw); first | (go_simp; done) | (go_simp; with_reducible rfl))
          try simp only [zA, zB, zC, Act.put, zD, zE, zF]
          refine tkA 17 ?vv59 rfl ?hy59 hHeld ?_
          case hy59 => (intro w hSw; (try dsimp only at hSw); first | (go_simp; done) | (go_simp; with_reducible rfl))
          try simp only [zA, zB, zC, Act.put, zD, zE, zF]
          refine tkA 18 ?vv60 rfl ?hy60 hHeld ?_
          case hy60 => (intro w hSw; (try dsimp only at hSw); first | (go_simp; done) | (go_simp; with_reducible rfl))
          try simp only [zA, zB, zC, Act.put, zD, zE, zF]
          refine tkA 19 ?vv61 rfl ?hy61 hHeld ?_
          case hy61 => (intro w hSw; (try dsimp only at hSw); first | (go_simp; done) | (go_simp; with_reducible rfl))
          try simp only [zA, zB, zC, Act.put, zD, zE, zF]
          refine tkA 20 ?vv62 rfl ?hy62 hHeld ?_
          case hy62 => (intro w hSw; (try dsimp only at hSw); first | (go_simp; done) | (go_simp; with_reducible rfl))
          try simp only [zA, zB, zC, Act.put, zD, zE, zF]
          refine tkA 21 ?vv63 rfl ?hy63 hHeld ?_
          case hy63 => (intro w hSw; (try dsimp only at hSw); first | (go_simp; done) | (go_simp; with_reducible rfl))
          try simp only [zA, zB, zC, Act.put, zD, zE, zF]
          refine tkA 22 ?vv64 rfl ?hy64 hHeld ?_
          case hy64 => (intro w hSw; (try dsimp only at hSw); first | (go_simp; done) | (go_simp; with_reducible rfl))
          try simp only [zA, zB, zC, Act.put, zD, zE, zF]
          refine tkA 23 ?vv65 rfl ?hy65 hHeld ?_
          case hy65 => (intro w hSw; (try dsimp only at hSw); first | (go_simp; done) | (go_simp; with_reducible rfl))
          try simp only [zA, zB, zC, Act.put, zD, zE, zF]
          refine tkA 24 ?vv66 rfl ?hy66 hHeld ?_
          case hy66 => (intro w hSw; (try dsimp only at hSw); first | (go_simp; done) | (go_simp; with_reducible rfl))
          try simp only [zA, zB, zC, Act.put, zD, zE, zF]
          refine tkA 25 ?vv67 rfl ?hy67 hHeld ?_
          case hy67 => (intro w hSw; (try dsimp only at hSw); first | (go_simp; done) | (go_simp; with_reducible rfl))
          try simp only [zA, zB, zC, Act.put, zD, zE, zF]
          refine tkA 26 ?vv68 rfl ?hy68 hHeld ?_
          case hy68 => (intro w hSw; (try dsimp only at hSw); first | (go_simp; done) | (go_simp; with_reducible rfl))
          try simp only [zA, zB, zC, Act.put, zD, zE, zF]
          refine tkA 27 ?vv69 rfl ?hy69 hHeld ?_
          case hy69 => (intro w hSw; (try dsimp only at hSw); first | (go_simp; done) | (go_simp; with_reducible rfl))
          try simp only [zA, zB, zC, Act.put, zD, zE, zF]
          refine tkA 28 ?vv70 rfl ?hy70 hHeld ?_
          case hy70 => (intro w hSw; (try dsimp only at hSw); first | (go_simp; done) | (go_simp; with_reducible rfl))
          try simp only [zA, zB, zC, Act.put, zD, zE, zF]
          refine tkA 29 ?vv71 rfl ?hy71 hHeld ?_
          case hy71 => (intro w hSw; (try dsimp only at hSw); first | (go_simp; done) | (go_simp; with_reducible rfl))
          try simp only [zA, zB, zC, Act.put, zD, zE, zF]
          refine tkA 30 ?vv72 rfl ?hy72 hHeld ?_
          case hy72 => (intro w hSw; (try dsimp only at hSw); first | (go_simp; done) | (go_simp; with_reducible rfl))
          try simp only [zA, zB, zC, Act.put, zD, zE, zF]
          refine wpAnyH_done (by kernel_rfl) ?_ _
          have HBE : Hid _ := hid hHeld.2.2.2.2
          clear hHeld x0 x1 x2 x4 x5 hbd CS
          obtain ⟨p1, p2, fl, e1, e2, _, _, _, x3, _, _, o2, h0, hfl⟩ := HFc.out _ HBE.out k rs HRS.out
          obtain ⟨a2, cp2, hp2, hc2, hg2⟩ := o2.shape
          obtain ⟨n2, hn2⟩ : ∃ n, n = fl.length := ⟨_, rfl⟩
          rw [← hn2] at hp2 hc2 hg2 hfl
          subst hp2
          by_cases hk0 : k = 0
          · obtain ⟨l, hl⟩ := h0 hk0
            have hn2l : n2 = l.length + 1 := by rw [hn2, hl]; simp
            obtain ⟨g2, rfl, hce⟩ := hg2 (by omega)
            have y0 := hce l.length ByteArray.empty (by rw [hl]; simp)
            obtain ⟨z, hz⟩ : ∃ z, z = l.length := ⟨_, rfl⟩
            rw [← hz] at y0 hn2l
            subst hn2l
            have hz1 : ¬ (z + 1 = 0) := by omega
            have hz2 : (((z + 1 : Nat) : Int) == 0) = false := by rw [beq_eq_false_iff_ne]; omega
            have hki : ((k : Int) == 0) = true := by rw [beq_iff_eq]; omega
            have HK0 : Hid (k = 0) := hid hk0
            clear o2 h0 hce hl hz hn2 hg2 hk0
            go_wp2
            have hwz : IntKind.i64.wrap (z : Int) = (z : Int) := by rw [IntKind.wrap_i64]; omega
            have hz3 : 0 ≤ (z : Int) := by omega
            have hz4 : (z : Int) < (z : Int) + 1 := by omega
            refine wp_region_held_drew (S := fun w' => w'.cell? ⟨gF, k * 5 + 3, none⟩ = some (.slice (some ⟨g2, 0, none⟩) (z + 1) cp2) ∧ w'.cell? ⟨g2, z, none⟩ = some (.string ByteArray.empty) ∧ Below w4.heap.size w4 w') (by kernel_rfl) ⟨x3, y0, HBE.out.drew⟩ (fun hHeld => ?_)
            refine tkA 0 ?vv104 rfl ?hy104 hHeld ?_
            case hy104 => (intro w hSw; (try dsimp only at hSw); first | (go_simp; done) | (go_simp; with_reducible rfl))
            try simp only [zA, zC, Act.put, zD, zE, zF]
            refine tkA 1 ?vv73 rfl ?hy73 hHeld ?_
            case hy73 => (intro w hSw; (try dsimp only at hSw); first | (go_simp; done) | (go_simp; with_reducible rfl))
            try simp only [zA, zB, zC, Act.put, zD, zE, zF]
            refine tkA 2 ?vv74 rfl ?hy74 hHeld ?_
            case hy74 => (intro w hSw; (try dsimp only at hSw); first | (go_simp; done) | (go_simp; with_reducible rfl))
            try simp only [zA, zB, zC, Act.put, zD, zE, zF]
            refine tkA 3 ?vv75 rfl ?hy75 hHeld ?_
            case hy75 => (intro w hSw; (try dsimp only at hSw); first | (go_simp; done) | (go_simp; with_reducible rfl))
            try simp only [zA, zB, zC, Act.put, zD, zE, zF]
            refine tkA 4 ?vv76 rfl ?hy76 hHeld ?_
            case hy76 => (intro w hSw; (try dsimp only at hSw); first | (go_simp; done) | (go_simp; with_reducible rfl))
            try simp only [zA, zB, zC, Act.put, zD, zE, zF]
            refine tkA 5 ?vv77 rfl ?hy77 hHeld ?_
            case hy77 => (intro w hSw; (try dsimp only at hSw); first | (go_simp; done) | (go_simp; with_reducible rfl))
            try simp only [zA, zB, zC, Act.put, zD, zE, zF]
            refine tkA 6 ?vv78 rfl ?hy78 hHeld ?_
            case hy78 => (intro w hSw; (try dsimp only at hSw); first | (go_simp; done) | (go_simp; with_reducible rfl))
            try simp only [zA, zB, zC, Act.put, zD, zE, zF]
            refine tkA 7 ?vv79 rfl ?hy79 hHeld ?_
            case hy79 => (intro w hSw; (try dsimp only at hSw); first | (go_simp; done) | (go_simp; with_reducible rfl))
            try simp only [zA, zB, zC, Act.put, zD, zE, zF]
            refine tkA 8 ?vv80 rfl ?hy80 hHeld ?_
            case hy80 => (intro w hSw; (try dsimp only at hSw); first | (go_simp; done) | (go_simp; with_reducible rfl))
            try simp only [zA, zB, zC, Act.put, zD, zE, zF]
            refine tkA 9 ?vv81 rfl ?hy81 hHeld ?_
            case hy81 => (intro w hSw; (try dsimp only at hSw); first | (go_simp; done) | (go_simp; with_reducible rfl))
            try simp only [zA, zB, zC, Act.put, zD, zE, zF]
            refine tkA 10 ?vv82 rfl ?hy82 hHeld ?_
            case hy82 => (intro w hSw; (try dsimp only at hSw); first | (go_simp; done) | (go_simp; with_reducible rfl))
            try simp only [zA, zB, zC, Act.put, zD, zE, zF]
            refine tkA 11 ?vv83 rfl ?hy83 hHeld ?_
            case hy83 => (intro w hSw; (try dsimp only at hSw); first | (go_simp; done) | (go_simp; with_reducible rfl))
            try simp only [zA, zB, zC, Act.put, zD, zE, zF]
            refine tkA 12 ?vv84 rfl ?hy84 hHeld ?_
            case hy84 => (intro w hSw; (try dsimp only at hSw); first | (go_simp; done) | (go_simp; with_reducible rfl))
            try simp only [zA, zB, zC, Act.put, zD, zE, zF]
            refine tkA 13 ?vv85 rfl ?hy85 hHeld ?_
            case hy85 => (intro w hSw; (try dsimp only at hSw); first | (go_simp; done) | (go_simp; with_reducible rfl))
            try simp only [zA, zB, zC, Act.put, zD, zE, zF]
            refine tkA 14 ?vv86 rfl ?hy86 hHeld ?_
            case hy86 => (intro w hSw; (try dsimp only at hSw); first | (go_simp; done) | (go_simp; with_reducible rfl))
            try simp only [zA, zB, zC, Act.put, zD, zE, zF]
            refine tkA 15 ?vv87 rfl ?hy87 hHeld ?_
            case hy87 => (intro w hSw; (try dsimp only at hSw); first | (go_simp; done) | (go_simp; with_reducible rfl))
            try simp only [zA, zB, zC, Act.put, zD, zE, zF]
            refine tkA 16 ?vv88 rfl ?hy88 hHeld ?_
            case hy88 => (intro w hSw; (try dsimp only at hSw); first | (go_simp; done) | (go_simp; with_reducible rfl))
            try simp only [zA, zB, zC, Act.put, zD, zE, zF]
            refine tkA 17 ?vv89 rfl ?hy89 hHeld ?_
            case hy89 => (intro w hSw; (try dsimp only at hSw); first | (go_simp; done) | (go_simp; with_reducible rfl))
            try simp only [zA, zB, zC, Act.put, zD, zE, zF]
            refine tkA 18 ?vv90 rfl ?hy90 hHeld ?_
            case hy90 => (intro w hSw; (try dsimp only at hSw); first | (go_simp; done) | (go_simp; with_reducible rfl))
            try simp only [zA, zB, zC, Act.put, zD, zE, zF]
            refine tkA 19 ?vv91 rfl ?hy91 hHeld ?_
            case hy91 => (intro w hSw; (try dsimp only at hSw); first | (go_simp; done) | (go_simp; with_reducible rfl))
            try simp only [zA, zB, zC, Act.put, zD, zE, zF]
            refine tkA 20 ?vv92 rfl ?hy92 hHeld ?_
            case hy92 => (intro w hSw; (try dsimp only at hSw); first | (go_simp; done) | (go_simp; with_reducible rfl))
            try simp only [zA, zB, zC, Act.put, zD, zE, zF]
            refine tkA 21 ?vv93 rfl ?hy93 hHeld ?_
            case hy93 => (intro w hSw; (try dsimp only at hSw); first | (go_simp; done) | (go_simp; with_reducible rfl))
            try simp only [zA, zB, zC, Act.put, zD, zE, zF]
            refine tkA 22 ?vv94 rfl ?hy94 hHeld ?_
            case hy94 => (intro w hSw; (try dsimp only at hSw); first | (go_simp; done) | (go_simp; with_reducible rfl))
            try simp only [zA, zB, zC, Act.put, zD, zE, zF]
            refine tkA 23 ?vv95 rfl ?hy95 hHeld ?_
            case hy95 => (intro w hSw; (try dsimp only at hSw); first | (go_simp; done) | (go_simp; with_reducible rfl))
            try simp only [zA, zB, zC, Act.put, zD, zE, zF]
            refine tkA 24 ?vv96 rfl ?hy96 hHeld ?_
            case hy96 => (intro w hSw; (try dsimp only at hSw); first | (go_simp; done) | (go_simp; with_reducible rfl))
            try simp only [zA, zB, zC, Act.put, zD, zE, zF]
            refine tkA 25 ?vv97 rfl ?hy97 hHeld ?_
            case hy97 => (intro w hSw; (try dsimp only at hSw); first | (go_simp; done) | (go_simp; with_reducible rfl))
            try simp only [zA, zB, zC, Act.put, zD, zE, zF]
            refine tkA 26 ?vv98 rfl ?hy98 hHeld ?_
            case hy98 => (intro w hSw; (try dsimp only at hSw); first | (go_simp; done) | (go_simp; with_reducible rfl))
            try simp only [zA, zB, zC, Act.put, zD, zE, zF]
            refine tkA 27 ?vv99 rfl ?hy99 hHeld ?_
            case hy99 => (intro w hSw; (try dsimp only at hSw); first | (go_simp; done) | (go_simp; with_reducible rfl))
            try simp only [zA, zB, zC, Act.put, zD, zE, zF]
            refine wpAnyH_done (by kernel_rfl) ?_ _
            have HBE2 : Hid _ := hid hHeld.2.2
            clear hHeld
            go_wp2
            go_roundw
            case rel => exact ⟨k + 1, by omega, by go_num, HBE2⟩
            case measure => simp [intOf]; omega
          · have hki : ((k : Int) == 0) = false := by rw [beq_eq_false_iff_ne]; omega
            clear o2 h0 hn2 hg2
            go_wp2
            refine wp_region_held_drew (S := fun w' => Below w4.heap.size w4 w') (by kernel_rfl) HBE.out.drew (fun hHeld => ?_)
            refine tkA 0 ?vv105 rfl ?hy105 hHeld ?_
            case hy105 => (intro w hSw; (try dsimp only at hSw); first | (go_simp; done) | (go_simp; with_reducible rfl))
            try simp only [zA, zC, Act.put, zD, zE, zF]
            refine tkA 1 ?vv100 rfl ?hy100 hHeld ?_
            case hy100 => (intro w hSw; (try dsimp only at hSw); first | (go_simp; done) | (go_simp; with_reducible rfl))
            try simp only [zA, zB, zC, Act.put, zD, zE, zF]
            refine tkA 2 ?vv101 rfl ?hy101 hHeld ?_
            case hy101 => (intro w hSw; (try dsimp only at hSw); first | (go_simp; done) | (go_simp; with_reducible rfl))
            try simp only [zA, zB, zC, Act.put, zD, zE, zF]
            refine wpAnyH_take (i := 3) (v := undef) rfl (by kernel_rfl) (by kernel_rfl) (by kernel_rfl) (fun _ _ _ h => h) (Or.inr ⟨by rfl, rfl⟩) hHeld ?_
            try simp only [zA, zB, zC, Act.put, zD, zE, zF]
            refine wpAnyH_take (i := 4) (v := undef) rfl (by kernel_rfl) (by kernel_rfl) (by kernel_rfl) (fun _ _ _ h => h) (Or.inr ⟨by rfl, rfl⟩) hHeld ?_
            try simp only [zA, zB, zC, Act.put, zD, zE, zF]
            refine wpAnyH_take (i := 5) (v := undef) rfl (by kernel_rfl) (by kernel_rfl) (by kernel_rfl) (fun _ _ _ h => h) (Or.inr ⟨by rfl, rfl⟩) hHeld ?_
            try simp only [zA, zB, zC, Act.put, zD, zE, zF]
            refine wpAnyH_take (i := 6) (v := undef) rfl (by kernel_rfl) (by kernel_rfl) (by kernel_rfl) (fun _ _ _ h => h) (Or.inr ⟨by rfl, rfl⟩) hHeld ?_
            try simp only [zA, zB, zC, Act.put, zD, zE, zF]
            refine wpAnyH_take (i := 7) (v := undef) rfl (by kernel_rfl) (by kernel_rfl) (by kernel_rfl) (fun _ _ _ h => h) (Or.inr ⟨by rfl, rfl⟩) hHeld ?_
            try simp only [zA, zB, zC, Act.put, zD, zE, zF]
            refine wpAnyH_take (i := 8) (v := undef) rfl (by kernel_rfl) (by kernel_rfl) (by kernel_rfl) (fun _ _ _ h => h) (Or.inr ⟨by rfl, rfl⟩) hHeld ?_
            try simp only [zA, zB, zC, Act.put, zD, zE, zF]
            refine wpAnyH_take (i := 9) (v := undef) rfl (by kernel_rfl) (by kernel_rfl) (by kernel_rfl) (fun _ _ _ h => h) (Or.inr ⟨by rfl, rfl⟩) hHeld ?_
            try simp only [zA, zB, zC, Act.put, zD, zE, zF]
            refine wpAnyH_take (i := 10) (v := undef) rfl (by kernel_rfl) (by kernel_rfl) (by kernel_rfl) (fun _ _ _ h => h) (Or.inr ⟨by rfl, rfl⟩) hHeld ?_
            try simp only [zA, zB, zC, Act.put, zD, zE, zF]
            refine wpAnyH_take (i := 11) (v := undef) rfl (by kernel_rfl) (by kernel_rfl) (by kernel_rfl) (fun _ _ _ h => h) (Or.inr ⟨by rfl, rfl⟩) hHeld ?_
            try simp only [zA, zB, zC, Act.put, zD, zE, zF]
            refine wpAnyH_take (i := 12) (v := undef) rfl (by kernel_rfl) (by kernel_rfl) (by kernel_rfl) (fun _ _ _ h => h) (Or.inr ⟨by rfl, rfl⟩) hHeld ?_
            try simp only [zA, zB, zC, Act.put, zD, zE, zF]
            refine wpAnyH_take (i := 13) (v := undef) rfl (by kernel_rfl) (by kernel_rfl) (by kernel_rfl) (fun _ _ _ h => h) (Or.inr ⟨by rfl, rfl⟩) hHeld ?_
            try simp only [zA, zB, zC, Act.put, zD, zE, zF]
            refine wpAnyH_take (i := 14) (v := undef) rfl (by kernel_rfl) (by kernel_rfl) (by kernel_rfl) (fun _ _ _ h => h) (Or.inr ⟨by rfl, rfl⟩) hHeld ?_
            try simp only [zA, zB, zC, Act.put, zD, zE, zF]
            refine wpAnyH_take (i := 15) (v := undef) rfl (by kernel_rfl) (by kernel_rfl) (by kernel_rfl) (fun _ _ _ h => h) (Or.inr ⟨by rfl, rfl⟩) hHeld ?_
            try simp only [zA, zB, zC, Act.put, zD, zE, zF]
            refine wpAnyH_take (i := 16) (v := undef) rfl (by kernel_rfl) (by kernel_rfl) (by kernel_rfl) (fun _ _ _ h => h) (Or.inr ⟨by rfl, rfl⟩) hHeld ?_
            try simp only [zA, zB, zC, Act.put, zD, zE, zF]
            refine wpAnyH_take (i := 17) (v := undef) rfl (by kernel_rfl) (by kernel_rfl) (by kernel_rfl) (fun _ _ _ h => h) (Or.inr ⟨by rfl, rfl⟩) hHeld ?_
            try simp only [zA, zB, zC, Act.put, zD, zE, zF]
            refine wpAnyH_take (i := 18) (v := undef) rfl (by kernel_rfl) (by kernel_rfl) (by kernel_rfl) (fun _ _ _ h => h) (Or.inr ⟨by rfl, rfl⟩) hHeld ?_
            try simp only [zA, zB, zC, Act.put, zD, zE, zF]
            refine wpAnyH_take (i := 19) (v := undef) rfl (by kernel_rfl) (by kernel_rfl) (by kernel_rfl) (fun _ _ _ h => h) (Or.inr ⟨by rfl, rfl⟩) hHeld ?_
            try simp only [zA, zB, zC, Act.put, zD, zE, zF]
            refine wpAnyH_take (i := 20) (v := undef) rfl (by kernel_rfl) (by kernel_rfl) (by kernel_rfl) (fun _ _ _ h => h) (Or.inr ⟨by rfl, rfl⟩) hHeld ?_
            try simp only [zA, zB, zC, Act.put, zD, zE, zF]
            refine wpAnyH_take (i := 21) (v := undef) rfl (by kernel_rfl) (by kernel_rfl) (by kernel_rfl) (fun _ _ _ h => h) (Or.inr ⟨by rfl, rfl⟩) hHeld ?_
            try simp only [zA, zB, zC, Act.put, zD, zE, zF]
            refine wpAnyH_take (i := 22) (v := undef) rfl (by kernel_rfl) (by kernel_rfl) (by kernel_rfl) (fun _ _ _ h => h) (Or.inr ⟨by rfl, rfl⟩) hHeld ?_
            try simp only [zA, zB, zC, Act.put, zD, zE, zF]
            refine wpAnyH_take (i := 23) (v := undef) rfl (by kernel_rfl) (by kernel_rfl) (by kernel_rfl) (fun _ _ _ h => h) (Or.inr ⟨by rfl, rfl⟩) hHeld ?_
            try simp only [zA, zB, zC, Act.put, zD, zE, zF]
            refine wpAnyH_take (i := 24) (v := undef) rfl (by kernel_rfl) (by kernel_rfl) (by kernel_rfl) (fun _ _ _ h => h) (Or.inr ⟨by rfl, rfl⟩) hHeld ?_
            try simp only [zA, zB, zC, Act.put, zD, zE, zF]
            refine wpAnyH_take (i := 25) (v := undef) rfl (by kernel_rfl) (by kernel_rfl) (by kernel_rfl) (fun _ _ _ h => h) (Or.inr ⟨by rfl, rfl⟩) hHeld ?_
            try simp only [zA, zB, zC, Act.put, zD, zE, zF]
            refine wpAnyH_take (i := 26) (v := undef) rfl (by kernel_rfl) (by kernel_rfl) (by kernel_rfl) (fun _ _ _ h => h) (Or.inr ⟨by rfl, rfl⟩) hHeld ?_
            try simp only [zA, zB, zC, Act.put, zD, zE, zF]
            refine tkA 27 ?vv102 rfl ?hy102 hHeld ?_
            case hy102 => (intro w hSw; (try dsimp only at hSw); first | (go_simp; done) | (go_simp; with_reducible rfl))
            try simp only [zA, zB, zC, Act.put, zD, zE, zF]
            refine wpAnyH_done (by kernel_rfl) ?_ _
            have HBE2 : Hid _ := hid hHeld
            clear hHeld
            go_wp2
            go_roundw
            case rel => exact ⟨k + 1, by omega, by go_num, HBE2⟩
            case measure => simp [intOf]; omega
    · go_wp2
      go_ret
      exact ⟨rfl, HB1.out.trans ((HB14.out.trans (hbr.out.mono HB14.out.size)).mono HB1.out.size)⟩

end Go.Proofs.YtjjggdcnpndgjaaGreatDoor
