/- (*Table).measure: the nodes of the trees of the empty row. -/
import Derived.Test.YtjjggdcnpndgjaaGreatDoorJPfil2
namespace Go.Proofs.YtjjggdcnpndgjaaGreatDoor
open Go.RowKit Go.Shelf

attribute [local go_sem] Oper.semAt_some

set_option maxHeartbeats 4000000 in
set_option maxRecDepth 100000 in
theorem measure_any (w : World) (n₀ tb kb : Nat) (N : NG) (tws : List ByteArray) (pg : List Nm) (adT : Option Addr) (capT gN capN : Nat) (k : List Fa) (R : Nat → Nat → Int) (E : Nat → Nat) (h : FcM w n₀ tb kb N tws pg adT capT gN capN k) (hv : TbV w tb adT N.nT capT gN N.nN capN kb R E) (hfh : ∀ n, fhAt k n < 2 ^ 21)
    (htb : n₀ ≤ tb) (hE : ∀ m, m < 20 → E m ≤ 939524097) (hlen : ∀ r ∈ N.rules, r.2.length ≤ 8 ∧ PsOk N r.2) :
    Calls Tryz.prog 82 #[.pointer (some ⟨tb, 0, none⟩)] w fun e w' => e = .returned (.tuple #[]) ∧ Keeps w w' [tb] ∧ ∃ E', (∀ m, m < 20 → E' m ≤ 939524097) ∧ ((∀ r ∈ N.rules, nulB (emP k) r.2 = false) → E' = E) ∧ TbV w' tb adT N.nT capT gN N.nN capN kb R E' := by
  have H : Hid _ := hid h
  have HV0 : Hid _ := hid hv
  have HE0 : Hid _ := hid hE
  have HL : Hid _ := hid hlen
  have HF : Hid (∀ n, fhAt k n < 2 ^ 21) := hid hfh
  have hN20 := h.gr.leN
  have hT20 := h.gr.leT
  have hlN := h.gr.lN
  have hln := h.ln
  have htw := hv.lt
  have f1 := h.f1
  have hnk : tb ≠ kb := h.ne
  clear h hv hlen hfh hE
  obtain ⟨nN, hnN⟩ : ∃ x, x = N.nN := ⟨_, rfl⟩
  rw [← hnN] at f1 HV0 hN20 hlN ⊢
  have HNN : Hid (nN = N.nN) := hid hnN
  clear hnN
  refine (callsIn_wide (n := 4)).1 ?_
  refine callsIn_of_wp_marks Tryz.func82 rfl trivial ?_ rfl
  simp only [Tryz.ntmps82, List.size_toArray, List.length_cons, List.length_nil, Nat.reduceAdd, Nat.reduceSub, Array.replicate_succ, Array.replicate_zero, List.push_toArray, List.append_toArray, List.nil_append, List.cons_append]
  refine wpIn_seq ?_
  gi_wp2
  obtain ⟨W1, hW1⟩ : ∃ W1, w.alloc (.cells #[.pointer (some ⟨tb, 0, none⟩)] 107) = W1 := ⟨_, rfl⟩
  rw [hW1]
  have HK1 : Hid (Keeps w W1 []) := hid (by rw [← hW1]; exact (Keeps.refl w []).alloc _)
  have hb0 : W1.heap[w.heap.size]? = some (.cells #[.pointer (some ⟨tb, 0, none⟩)] 107 (0, 0)) := by rw [← hW1]; exact World.alloc_heap_new w _
  have c0 : W1.cell? ⟨w.heap.size, 0, none⟩ = some (.pointer (some ⟨tb, 0, none⟩)) := block_cell hb0
  have c1 : W1.cell? ⟨tb, 1, none⟩ = some (.slice (some ⟨gN, 0, none⟩) nN capN) := (HK1.out.cell (by exact htw) (by simp)).trans f1
  have HB : Hid _ := hid hb0
  clear hb0 hW1 f1
  gi_wp2
  refine wpIn_loop_ghost (fun g a W => ∃ (u : Nat → Value) (Ds : List Nat) (i : Nat) (E1 : Nat → Nat),
      a = { tmps := #[.pointer (some ⟨tb, 0, none⟩), .pointer (some ⟨w.heap.size, 0, none⟩), u 2, u 3, u 4, u 5, u 6, u 7, u 8, .slice (some ⟨gN, 0, none⟩) nN capN, .int .i64 nN, .int .i64 i, u 12, u 13, u 14, u 15, u 16, u 17, u 18, u 19, u 20, u 21, u 22, u 23, u 24, u 25, u 26, u 27, u 28, u 29, u 30, u 31, u 32, u 33, u 34], defers := marks Ds } ∧
      g = nN - i ∧ i ≤ nN ∧ TbV W tb adT N.nT capT gN nN capN kb R E1 ∧ Keeps w W [tb] ∧ W.heap[w.heap.size]? = some (.cells #[.pointer (some ⟨tb, 0, none⟩)] 107 (0, 0)) ∧ Marked w Ds W ∧ (∀ m, m < 20 → E1 m ≤ 939524097) ∧ ((∀ r ∈ N.rules, nulB (emP k) r.2 = false) → E1 = E)) nN ?start ?round
  case start =>
    exact ⟨ofArr #[undef, undef, _, _, _, _, _, _, _, undef, undef, undef, _, _, _, _, _, _, _, _, _, _, _, _, _, _, _, _, _, _, _, _, _, _, _] #[], [], 0, E, rfl, rfl, Nat.zero_le _, HV0.out.keeps HK1.out (by simp), HK1.out.mono (fun q hq => by cases hq), HB.out, ⟨List.nodup_nil, fun D hD => by cases hD⟩, HE0.out, fun _ => rfl⟩
  case round =>
    rintro g a W ⟨u, Ds, i, E1, rfl, rfl, hi, hvW, hW, bx0, hM, hEb, hEs⟩
    have HVW : Hid _ := hid hvW
    have HW : Hid (Keeps w W [tb]) := hid hW
    have HM : Hid (Marked w Ds W) := hid hM
    have HBX : Hid _ := hid bx0
    have HEB : Hid _ := hid (And.intro hEb hEs)
    have hl0 := lt_of_block bx0
    have htW : tb < W.heap.size := by omega
    clear HB HK1 c1 c0 hEb hEs hM hW HE0
    by_cases hlt : i < nN
    · have c0 : W.cell? ⟨w.heap.size, 0, none⟩ = some (.pointer (some ⟨tb, 0, none⟩)) := block_cell bx0
      obtain ⟨cT0, cT1, _⟩ := hvW.heads
      clear bx0 hvW
      gi_wp2_with (refine ⟨trivial, ?_⟩; gi_at_call 130; refine (rules_in Fence.wide 3 trivial rfl _ _ _ _ _ _ _).mono ?_; rintro e W2 ⟨rfl, rfl⟩)
      obtain ⟨W0, hW0⟩ : ∃ W0, W.alloc (.cells #[.slice adT N.nT capT, .slice (some ⟨gN, 0, none⟩) nN capN] 135) = W0 := ⟨_, rfl⟩
      rw [hW0]
      have hs0 : W.heap.size < W0.heap.size := by rw [← hW0, World.size_alloc]; omega
      have hbox : W0.cell? ⟨W.heap.size, 1, none⟩ = some (.slice (some ⟨gN, 0, none⟩) N.nN capN) := by rw [← hW0, ← HNN.out]; exact box_at W _ _ 1
      have HKW : Hid (Keeps W W0 []) := hid (by rw [← hW0]; exact (Keeps.refl W []).alloc _)
      have HK0 : Hid (Keeps w W0 [tb]) := hid (HW.out.trans (HKW.out.mono (fun q hq => by cases hq)))
      have HM0 : Hid (Marked w Ds W0) := hid (HM.out.keeps HKW.out (fun q hq => by cases hq))
      have HB0 : Hid _ := hid ((HKW.out.block _ hl0 (by simp)).trans HBX.out)
      have HV1 : Hid _ := hid (HVW.out.keeps HKW.out (by simp))
      have hszw : w.heap.size < W0.heap.size := by omega
      clear hW0 c0 cT0 cT1
      refine wpIn_rangeFunc_ownG (F := Fence.wide) rfl (by omega) (gf := 183) (lb := #[.pointer (some ⟨W.heap.size, 0, none⟩)]) rfl trivial (enters_of Tryz.func183 (by kernel_rfl) rfl)
        (rules_stops Fence.wide 3 trivial rfl (by omega) W.heap.size n₀ N tws pg adT capT gN capN w W0 H.out.gr (HK0.out.below hln (fun q h => by have := List.mem_singleton.1 h; omega)) hln hs0 hbox) belowK_t (belowK_b (by omega)) (Below.refl _ _) (fun _ => rfl)
        (fun (pre : List (RI N w n₀)) V => ∃ E3, TbV V tb adT N.nT capT gN nN capN kb R E3 ∧ Keeps W0 V [tb] ∧ (∀ m, m < 20 → E3 m ≤ 939524097) ∧ ((∀ r ∈ N.rules, nulB (emP k) r.2 = false) → E3 = E)) (fun _ _ _ => False)
        ?own (fun _ _ _ _ _ hs _ _ => hs) ⟨E1, HV1.out, Keeps.refl _ _, HEB.out⟩
        (fun x => { tmps := #[.pointer (some ⟨tb, 0, none⟩), .pointer (some ⟨w.heap.size, 0, none⟩), .int .i64 (x.1.1.1 : Int), x.1.2, u 4, u 5, u 6, u 7, u 8, .slice (some ⟨gN, 0, none⟩) nN capN, .int .i64 nN, .int .i64 i, .bool true, .pointer (some ⟨tb, 0, none⟩), .pointer (some ⟨tb, 0, none⟩), .pointer (some ⟨tb, 0, none⟩), .pointer (some ⟨tb, 0, none⟩), .agg #[.slice adT N.nT capT, .slice (some ⟨gN, 0, none⟩) nN capN], .func (.func 183) #[] #[.pointer (some ⟨W.heap.size, 0, none⟩)], .int .i64 (x.1.1.1 : Int), x.1.2, u 21, u 22, u 23, u 24, u 25, u 26, u 27, u 28, u 29, u 30, u 31, u 32, u 33, u 34], defers := [] }) ?assign ?body ?done ?stop
      case assign =>
        intro l x V K hK
        simp only [encR]
        gi_wp2
        exact hK
      case own =>
        rintro pre A B row ⟨E3, h1, h2, h3⟩ hg hrw
        have hk : Keeps A B row.toList := (Keeps.refl A row.toList).grown hg (fun q e => .inl (by rw [e]; simp))
        exact ⟨E3, h1.keeps hk (fun hm => by obtain ⟨o, ho, hc⟩ := (hrw tb (by simpa using hm)).2; obtain ⟨c, e, f, hx⟩ := h1.kind; rw [hx] at ho; cases ho; cases hc), h2.grown hg (fun q e => .inr (hrw q e).1), h3⟩
      case stop =>
        rintro D c pre V _ _ h _
        exact h.elim
      case done =>
        rintro D ys V hD hys ⟨E3, h1, h2, h3, h4⟩ hd
        have HE1 : Hid _ := hid h1
        have HE2 : Hid (Keeps w V [tb]) := hid (HK0.out.trans h2)
        have HE3 : Hid _ := hid (And.intro h3 h4)
        have HE4 : Hid (Marked w (D :: Ds) V) := hid (HM0.out.cons (HM0.out.keeps h2 (fun q hq => by have := List.mem_singleton.1 hq; subst this; exact HV1.out.kind)) (by omega) hD hd)
        have HE5 : Hid _ := hid ((h2.block _ hszw (by simp; omega)).trans HB0.out)
        clear h1 h2 h3 h4 hd
        gi_wp2
        exact ⟨nN - (i + 1), by omega, ofArr #[undef, undef, _, _, _, _, _, _, _, undef, undef, undef, _, _, _, _, _, _, _, _, _, _, _, _, _, _, _, _, _, _, _, _, _, _, _] #[], D :: Ds, i + 1, E3, rfl, rfl, by omega, HE1.out, HE2.out, HE5.out, HE4.out, HE3.out⟩
      case body =>
        rintro l pre ⟨⟨⟨rn, rp⟩, pv⟩, hx1, hx2⟩ V ⟨E3, h1, h2, h3, h4⟩ _
        simp only at hx1 hx2 ⊢
        have hmx : Tryz.prog.follows .mixedOrders = true := by kernel_rfl
        obtain ⟨hl8, hpk⟩ := HL.out _ hx1
        simp only at hl8 hpk
        have hrn : rn < nN := by rw [HNN.out]; exact H.out.gr.ok.lt _ hx1
        have hrn20 : rn < 20 := by omega
        have hrn3 : (rn : Int) < 20 := by omega
        have hkwV : Keeps w V [tb] := HK0.out.trans h2
        have hszV := h2.size
        have cB : V.cell? ⟨w.heap.size, 0, none⟩ = some (.pointer (some ⟨tb, 0, none⟩)) := block_cell ((h2.block _ hszw (by simp; omega)).trans HB0.out)
        have XV : FcM V n₀ tb kb N tws pg adT capT gN capN k := H.out.tab (S := [tb]) (fun q hq => by have := List.mem_singleton.1 hq; exact ⟨by omega, by omega⟩) hkwV (R := R) (E := E3) (by rw [← HNN.out]; exact h1)
        have hpV : PartsV V n₀ pv rp := hx2.below (hkwV.below hln (fun q h => by have := List.mem_singleton.1 h; omega))
        have HCE := hid (empties_any V n₀ tb kb N tws pg adT capT gN capN k XV HF.out pv rp hpV hpk hl8)
        have HCN := hid (fun V2 (hb2 : Below V.heap.size V V2) => emptyNodes_any V2.drew n₀ tb N hT20 (by rw [← HNN.out]; exact hN20) (by show n₀ ≤ V2.heap.size; have := hb2.size; omega) (by show tb < V2.heap.size; have := hb2.size; omega)
          (fun m hm => ⟨E3 m, h3 m hm, (hb2.cell (p := ⟨tb, 423 + m, none⟩) (by show tb < V.heap.size; omega)).trans (h1.empty hm)⟩) pv rp (hpV.below ((hb2.mono (by omega)).trans ⟨rfl, rfl, rfl, Nat.le_refl _, fun _ _ => rfl⟩)) hpk hl8)
        have HTV : Hid _ := hid h1
        have HK2 : Hid _ := hid h2
        have HE3 : Hid _ := hid (And.intro h3 h4)
        have HX1 : Hid ((rn, rp) ∈ N.rules) := hid hx1
        have hl0V : w.heap.size < V.heap.size := by omega
        have htV : tb < V.heap.size := by omega
        clear h1 h2 h3 h4 hkwV XV hpV hpk
        by_cases hnu : nulB (emP k) rp = true
        · rw [hnu] at HCE
          gi_wp2_with (refine ⟨trivial, ?_⟩; gi_at_call 131; refine (CallsIn.inRound l ((callsIn_wide (n := 1)).2 HCE.out)).mono ?_; rintro e V2 ⟨rfl, hb2⟩; have HB2 : Hid _ := hid hb2; have hs2 := hb2.size; replace cB := (hb2.cell (p := ⟨w.heap.size, 0, none⟩) (by exact hl0V)).trans cB; clear hb2)
          have hl0V2 : w.heap.size < V2.heap.size := by omega
          refine wpIn_region_round (S := fun w' => (w'.cell? ⟨w.heap.size, 0, none⟩ = some (.pointer (some ⟨tb, 0, none⟩))) ∧ Keeps V2 w' [tb]) hmx (by kernel_rfl) (by rintro ⟨_, _, h⟩; exact h) ⟨cB, (Keeps.refl _ _).drew⟩ (fun hHeld => ?_)
          refine tkA 0 ?vv7 rfl ?hy7 hHeld ?_
          case hy7 => (intro w hSw; (try dsimp only at hSw); first | (go_simp; done) | (go_simp; with_reducible rfl))
          try simp only [zA, zC, Act.put, zD, zE, zF]
          refine tkA 1 ?vv1 rfl ?hy1 hHeld ?_
          case hy1 => (intro w hSw; (try dsimp only at hSw); first | (go_simp; done) | (go_simp; with_reducible rfl))
          try simp only [zA, zB, zC, Act.put, zD, zE, zF]
          refine tkA 2 ?vv2 rfl ?hy2 hHeld ?_
          case hy2 => (intro w hSw; (try dsimp only at hSw); first | (go_simp; done) | (go_simp; with_reducible rfl))
          try simp only [zA, zB, zC, Act.put, zD, zE, zF]
          refine tkA 3 ?vv3 rfl ?hy3 hHeld ?_
          case hy3 => (intro w hSw; (try dsimp only at hSw); first | (go_simp; done) | (go_simp; with_reducible rfl))
          try simp only [zA, zB, zC, Act.put, zD, zE, zF]
          refine tkA 5 ?vv4 rfl ?hy4 hHeld ?_
          case hy4 => (intro w hSw; (try dsimp only at hSw); first | (go_simp; done) | (go_simp; with_reducible rfl))
          try simp only [zA, zB, zC, Act.put, zD, zE, zF]
          refine tkA 6 ?vv5 rfl ?hy5 hHeld ?_
          case hy5 => (intro w hSw; (try dsimp only at hSw); first | (go_simp; done) | (go_simp; with_reducible rfl))
          try simp only [zA, zB, zC, Act.put, zD, zE, zF]
          refine wpAnyH_ready (rs := [4]) (by kernel_rfl) (by simp) ?_
          refine AllReadyH.cons rfl (fun K hK => ?_) AllReadyH.nil
          try simp only [zA, zB, zC]
          rw [if_pos (by rfl)]; go_simp; refine (HCN.out V2 HB2.out).mono ?_; rintro e w5 ⟨⟨x, hx, rfl⟩, hb5⟩; try dsimp only
          refine hK.out _ _ ?_ (fun hHeld => ?_)
          · exact ⟨(hb5.cell (by exact hl0V2)).trans hHeld.1, hHeld.2.trans (Keeps.of_below hb5 _)⟩
          clear hK K
          try simp only [zA, zB, zC, Act.put, zD, zE, zF]
          have hk5 : Keeps V w5 [] := (Keeps.of_below HB2.out []).trans ((Keeps.refl V2 []).drew.trans (Keeps.of_below hb5 []))
          have hv5 := HTV.out.keeps hk5 (by simp)
          have e0 := hv5.empty hrn20
          have e1 := hv5.free (423 + rn)
          have HV6 : Hid _ := hid (hv5.putE hrn20 x)
          have hk6 : Keeps V (w5.setCell ⟨tb, 423 + rn, none⟩ (.int .i64 (x : Int))) [tb] := (hk5.mono (fun q hq => by cases hq)).setCell (by simp) _
          have HK6 : Hid _ := hid hk6
          have hs5 := hk5.size
          clear hb5 hk5 hv5 hk6 HCN HCE
          refine tkA 7 ?vv6 rfl ?hy6 hHeld ?_
          case hy6 => (intro w hSw; (try dsimp only at hSw); first | (go_simp; done) | (go_simp; with_reducible rfl))
          try simp only [zA, zB, zC, Act.put, zD, zE, zF]
          refine wpAnyH_ready (rs := [8]) (by kernel_rfl) (by simp) ?_
          refine AllReadyH.cons rfl (fun K hK => ?_) AllReadyH.nil
          try simp only [zA, zB, zC]
          rw [if_pos (by rfl)]; go_simp
          refine hK.out _ _ ?_ (fun hHeld => ?_)
          · exact ⟨(World.cell?_setCell_other _ _ _ _ (fun e => by injection e with e _ _; omega)).trans hHeld.1, hHeld.2.setCell (by simp) _⟩
          clear hK K
          try simp only [Act.put, zD, zE, zF]
          refine wpAnyH_done (by kernel_rfl) ?_ _
          clear hHeld
          gi_wp2
          refine ⟨KeepsFrom.of_keeps (S := [tb]) HK6.out (fun q h => by have := List.mem_singleton.1 h; omega), HK6.out.below (by omega) (fun q h => by have := List.mem_singleton.1 h; omega), _, HV6.out, HK2.out.trans HK6.out, fun m hm => ?_, fun hall => ?_⟩
          · by_cases e : m = rn
            · simp only [if_pos e]; exact hx
            · simp only [if_neg e]; exact HE3.out.1 m hm
          · have h9 := hall _ HX1.out
            simp only at h9
            rw [hnu] at h9; cases h9
        · have hnu0 : nulB (emP k) rp = false := by simpa using hnu
          rw [hnu0] at HCE
          gi_wp2_with (refine ⟨trivial, ?_⟩; gi_at_call 131; refine (CallsIn.inRound l ((callsIn_wide (n := 1)).2 HCE.out)).mono ?_; rintro e V2 ⟨rfl, hb2⟩; have HB2 : Hid _ := hid hb2; clear hb2)
          have hk5 : Keeps V V2 [] := Keeps.of_below HB2.out []
          exact ⟨KeepsFrom.of_keeps (S := []) hk5 (fun q h => by cases h), hk5.below (by omega) (fun q h => by cases h), E3, HTV.out.keeps hk5 (by simp), HK2.out.trans (hk5.mono (fun q h => by cases h)), HE3.out⟩
    · have hnn : i = nN := by omega
      subst hnn
      clear bx0 hvW
      gi_wp2
      refine leaves_marks w.heap.size (fun w' => Keeps w w' [tb] ∧ TbV w' tb adT N.nT capT gN i capN kb R E1) ?_ ?_ Ds _ ⟨HW.out, HVW.out⟩ HM.out.1 (fun D' hD' => HM.out.2 D' hD')
      · rintro w' D' ⟨h1, h2⟩ hD' hd'
        have hg' := grownBy_putObj' w' D' (.deferred none)
        have hk' : Keeps w' (w'.putObj D' (.deferred none)) [D'] := (Keeps.refl w' [D']).grown hg' (fun q e => .inl (by cases e; simp))
        exact ⟨h1.grown hg' (fun q e => by cases e; exact .inr hD'), h2.keeps hk' (fun hm => by obtain ⟨cs, e, f, hx⟩ := h2.kind; have := List.mem_singleton.1 hm; subst this; rw [hd'] at hx; cases hx)⟩
      · rintro w' ⟨h1, h2⟩
        exact ⟨_, results_none rfl _ _ _, rfl, h1, E1, HEB.out.1, HEB.out.2, h2⟩

end Go.Proofs.YtjjggdcnpndgjaaGreatDoor
