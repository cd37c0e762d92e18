/- source.built, walked. -/
import Derived.Test.YtjjggdcnpndgjaaGreatDoorJ16
import Derived.Test.YtjjggdcnpndgjaaGreatDoorJ8
import Derived.Deep.RegionWith
namespace Go.Proofs.YtjjggdcnpndgjaaGreatDoor
open Go.RowKit Go.Shelf Go.WideMaps Go.Maps

theorem Tryz.infoB268 : (Tryz.prog.info? 268).map (fun i => (i.zero, i.size, i.bytes)) = some (some (.agg #[.string ByteArray.empty, .int .i64 0, .int .i64 0, .slice none 0 0]), 4, 56) := by kernel_rfl
theorem Tryz.infoB219 : (Tryz.prog.info? 219).map (fun i => (i.zero, i.size, i.bytes)) = some (some (.agg #[.string ByteArray.empty, .slice none 0 0]), 2, 40) := by kernel_rfl
theorem Tryz.infoB228 : (Tryz.prog.info? 228).map (fun i => (i.zero, i.size, i.bytes)) = some (some (.slice none 0 0), 1, 24) := by kernel_rfl
theorem Tryz.infoB235 : (Tryz.prog.info? 235).map (fun i => (i.zero, i.size, i.bytes)) = some (some (.agg #[.bool false, .int .i64 0]), 2, 16) := by kernel_rfl

theorem numB_len {l : List ByteArray} {i : Nat} (h : numB (nth l i) = true) : i < l.length := by
  rcases Nat.lt_or_ge i l.length with h1 | h1
  · exact h1
  · unfold nth at h
    rw [List.getD_eq_getElem?_getD, List.getElem?_eq_none h1] at h
    exact absurd h (by decide +kernel)

theorem row_cells {w : World} {B : Nat} {p : Value} {r : List ByteArray} (h : w.ownsRow B 9 1 p r.length (r.map Value.string)) : ∃ a c, p = .slice a r.length c ∧ r.length ≤ c ∧ (0 < r.length → ∃ g, a = some ⟨g, 0, none⟩ ∧ g < w.heap.size ∧ ∀ i u, r[i]? = some u → w.cell? ⟨g, i, none⟩ = some (.string u)) := by
  obtain ⟨a, c, rfl⟩ := own_slice h
  refine ⟨a, c, rfl, ?_, fun h0 => ?_⟩
  · rcases h.2 with ⟨h1, h2⟩ | ⟨g, cap, cur, h1, _, hg, hnc, _⟩
    · injection h1 with _ _ h1; omega
    · injection h1 with _ _ h1; omega
  · obtain ⟨g, cap, hs, _, hlt, _⟩ := owned_shape h h0
    injection hs with e1 _ e3
    subst e1; subst e3
    refine ⟨g, rfl, hlt, fun i u hu => ?_⟩
    rw [h.cellAt i (by have := (List.getElem?_eq_some_iff.1 hu).1; omega), List.getElem?_map, hu]; rfl

set_option linter.unusedSimpArgs false in
set_option maxHeartbeats 8000000 in
set_option maxRecDepth 100000 in
theorem built_any (P : List Ln) (G : Gr) (hg : GOk P G) (hok : LinesOk P) (W : World) (hG : Glob W) (B : Nat) (v : Value) (pv : List Value) (hV : LnV W B v P pv) :
    Calls Tryz.prog 152 #[v] W fun e w' => ∃ adT capT gN capN, e = .returned (.agg #[.slice adT (ngL P).nT capT, .slice (some ⟨gN, 0, none⟩) (ngL P).nN capN]) ∧ (∀ W'', (∀ q, W.heap.size ≤ q → q < w'.heap.size → W''.heap[q]? = w'.heap[q]?) → PGr W'' w'.heap.size (ngL P) (twsL P) (pgL (codeL P) P) adT capT gN capN) ∧ Below W.heap.size W w' := by
  obtain ⟨iT, hiT, hzT0, hzT1, hzT2⟩ := info_parts Tryz.infoB268
  obtain ⟨iN, hiN, hzN0, hzN1, hzN2⟩ := info_parts Tryz.infoB219
  obtain ⟨iR, hiR, hzR0, hzR1, hzR2⟩ := info_parts Tryz.infoB228
  obtain ⟨iP, hiP, hzP0, hzP1, hzP2⟩ := info_parts Tryz.infoB235
  rcases hV.form with ⟨rfl, hnil⟩ | ⟨g, cap, rfl, hnc, hgl⟩
  · exfalso; subst hnil; have := hg.pos; simp [namLs] at this
  obtain ⟨n, hN⟩ : ∃ n, n = P.length := ⟨_, rfl⟩
  have hn := hok.len
  rw [← hN] at hn hnc hV ⊢
  have HN : Hid (n = P.length) := hid hN
  have HV : Hid _ := hid hV
  have HOK : Hid _ := hid hok
  have HGK : Hid _ := hid hg
  have HG : Hid _ := hid hG
  obtain ⟨f, hf⟩ : ∃ f, f = codeL P := ⟨_, rfl⟩
  have HF : Hid (f = codeL P) := hid hf
  have HPOS : Hid (∀ s, 0 ≤ f s) := hid (by rw [hf]; exact hg.g.code.pos)
  have CN : Hid (Calls Tryz.prog 199 #[.slice (some ⟨g, 0, none⟩) n cap] (W.alloc (.cells #[.slice none 0 0, .slice none 0 0] 135)) fun e w' => e = .returned (.map (some (W.heap.size + 1))) ∧ NumV w' (W.heap.size + 1) P.length f ∧ Below (W.heap.size + 1) (W.alloc (.cells #[.slice none 0 0, .slice none 0 0] 135)) w') := hid (by
    have h1 := numbered_any _ P pv B (W.alloc (.cells #[.slice none 0 0, .slice none 0 0] 135)) (hV.below ((Below.refl _ _).alloc (Nat.le_refl _) _)) hok
    rw [World.size_alloc] at h1
    rw [hf]
    exact h1)
  clear hN hV hok hg hG hf
  go_enter Tryz.func152, Tryz.ntmps152
  go_wp2_with (go_at_call 199; refine CN.out.mono ?_; rintro e w1 ⟨rfl, hm1, hb1⟩; have HM1 : Hid _ := hid hm1; have HZ1 : Hid (w1.heap[W.heap.size]? = some (.cells #[.slice none 0 0, .slice none 0 0] 135 (0, 0))) := hid ((hb1.block W.heap.size (by omega)).trans (World.alloc_heap_new W _)); have HB1 : Hid (Below W.heap.size W w1) := hid ((bal (Below.refl _ _)).trans (hb1.mono (by omega))); clear hm1 hb1 CN)
  have HBt0 : Hid (BtV w1 W.heap.size W.heap.size (tkL (P.take 0)).length (tkCells (tkL (P.take 0))) (pgL f (P.take 0)) (.slice none 0 0) (.slice none 0 0) []) := hid ⟨HZ1.out, Nat.le_refl _, World.ownsRow_nil _ _ _ _, World.ownsRow_nil _ _ _ _, rfl, fun i nm p h => by simp [pgL, namLs] at h⟩
  go_loopw [20] (fun i wr => ∃ (k : Nat) (vT vN : Value) (pvN : List Value), k ≤ n ∧ i = .int .i64 k ∧ Hid (BtV wr W.heap.size W.heap.size (tkL (P.take k)).length (tkCells (tkL (P.take k))) (pgL f (P.take k)) vT vN pvN) ∧ Hid (NumV wr (W.heap.size + 1) P.length f) ∧ Hid (Below W.heap.size W wr)) (fun i _ => n - (intOf i).toNat)
  case atStart => exact ⟨0, _, _, _, Nat.zero_le _, rfl, HBt0, HM1, HB1⟩
  case round =>
    clear HBt0 HM1 HZ1 HB1
    obtain ⟨k, vT, vN, pvN, hk, rfl, hBt, hNu, hbr⟩ := hrel
    have hsz := hbr.out.size
    by_cases hlt : k < n
    · obtain ⟨x, hx⟩ : ∃ x, P[k]? = some x := ⟨_, List.getElem?_eq_getElem (by have := HN.out; omega)⟩
      have hxok := HOK.out.ok x (List.mem_of_getElem? hx)
      have hx2 := HOK.out.sh x (List.mem_of_getElem? hx)
      have hgs := HOK.out.gsz x (List.mem_of_getElem? hx)
      obtain ⟨p, hp, hWV, k0, k1, k2⟩ := (HV.out.below hbr.out).at hx
      have hl3 : 3 ≤ x.2.2.length := hxok.1
      have hl4 : x.2.2.length ≤ 4001 := hxok.2
      obtain ⟨gw, q, qc, csw, rfl, hqc, hbw, c1, c2⟩ := words_cells hWV hl3
      have hgw := lt_of_block hbw
      have HWV : Hid _ := hid hWV
      have HX : Hid _ := hid hx
      have HTN := tkL_next hx
      have HPN := pgL_next f hx
      obtain ⟨at_, sh, l⟩ := x
      simp only at k0 k1 k2 hx2 hgs c1 c2 hl3 hl4 HTN HPN
      have hgr : g < wr.heap.size := Nat.lt_of_lt_of_le hgl hsz
      have HBl : Hid (Below wr.heap.size wr (wr.alloc (.cells #[.int .i64 at_, .int .i64 sh, .slice (some ⟨gw, 1, none⟩) (q + 2) qc] 325))) := hid ((Below.refl _ _).alloc (Nat.le_refl _) _)
      clear hp hxok hWV hx
      have hshape : sh = 0 ∨ sh = 1 ∨ sh = 2 := by omega
      clear hx2
      rcases hshape with rfl | rfl | rfl
      · rw [if_pos rfl] at HTN
        rw [if_neg (by omega)] at HPN
        have HTN : Hid _ := hid HTN
        have HPN : Hid _ := hid HPN
        have hmem : (at_, 0, l) ∈ tokLs P := List.mem_filter.2 ⟨List.mem_of_getElem? HX.out, rfl⟩
        have hnum : numB (nth l 2) = true := HGK.out.num _ hmem
        have hnum3 : numB (nth l 3) = true := HGK.out.num3 _ hmem
        have hval := numB_val hnum
        have hval3 := numB_val hnum3
        have hs2 := (num_size hnum).1
        have hs3 := (num_size hnum3).1
        obtain ⟨hq1, c3⟩ := words_third HWV.out (numB_len hnum3)
        have HNM : Hid _ := hid hnum
        have HNM3 : Hid _ := hid hnum3
        have hs1 : (nth l 1).size ≤ 4000 := by simpa [givesB] using hgs
        have CC : Hid (∀ w', Below wr.heap.size wr w' → Calls Tryz.prog 200 #[.string (nth l 2)] w' fun e w'' => e = .returned (.tuple #[.int .i64 (valD (nth l 2).data.toList), .bool true]) ∧ Below w'.heap.size w' w'') := hid fun w' hb => by
          refine (pcost_any (nth l 2) w' (HG.out.below (hbr.out.trans (hb.mono hsz)) HG.out.size) (by omega)).mono ?_
          rintro e w'' ⟨⟨m, rfl, hm⟩, hb'⟩
          rw [hm HNM.out, HNM.out]
          exact ⟨rfl, hb'⟩
        have CD : Hid (∀ w', Below wr.heap.size wr w' → Calls Tryz.prog 200 #[.string (nth l 3)] w' fun e w'' => e = .returned (.tuple #[.int .i64 (valD (nth l 3).data.toList), .bool true]) ∧ Below w'.heap.size w' w'') := hid fun w' hb => by
          refine (pcost_any (nth l 3) w' (HG.out.below (hbr.out.trans (hb.mono hsz)) HG.out.size) (by omega)).mono ?_
          rintro e w'' ⟨⟨m, rfl, hm⟩, hb'⟩
          rw [hm HNM3.out, HNM3.out]
          exact ⟨rfl, hb'⟩
        obtain ⟨nv, hnv⟩ : ∃ nv, valD (nth l 2).data.toList = nv := ⟨_, rfl⟩
        obtain ⟨nd, hnd⟩ : ∃ nd, valD (nth l 3).data.toList = nd := ⟨_, rfl⟩
        rw [hnv] at CC hval
        rw [hnd] at CD hval3
        have HNV : Hid _ := hid hnv
        have HND : Hid _ := hid hnd
        have hTl := tkL_len P k
        have hqa : (1 : Int) < (q : Int) + 2 := by omega
        have hqb : (2 : Int) < (q : Int) + 2 := by omega
        clear hnv hnd hgs hnum hnum3 hmem
        go_wp2_with (first
          | (go_at_call_of 200 (Value.string (nth l 2)); refine (CC.out _ HBl.out).mono ?_; rintro e w5 ⟨rfl, hb5⟩; have HB5 : Hid (Below wr.heap.size wr w5) := hid (HBl.out.trans (hb5.mono HBl.out.size)); have L5 := (hb5.block wr.heap.size (by simp)).trans (World.alloc_heap_new wr _); have d5 : w5.cell? ⟨wr.heap.size, 2, none⟩ = some (.slice (some ⟨gw, 1, none⟩) (q + 2) qc) := (hb5.cell (by simp)).trans (box_at wr _ _ 2); have c5 := (HB5.out.cell (p := ⟨gw, 3, none⟩) (by exact hgw)).trans c3; have hlw5 : wr.heap.size < w5.heap.size := (by (have := hb5.size; rw [World.size_alloc] at this; omega)); clear hb5)
          | (go_at_call_of 200 (Value.string (nth l 3)); refine (CD.out _ HB5.out).mono ?_; rintro e w2 ⟨rfl, hb2⟩; have HB2 : Hid (Below wr.heap.size wr w2) := hid (HB5.out.trans (hb2.mono HB5.out.size)); have L2 := (hb2.block wr.heap.size hlw5).trans L5; have W2 := (HB2.out.block gw hgw).trans hbw; have d2 : w2.cell? ⟨wr.heap.size, 2, none⟩ = some (.slice (some ⟨gw, 1, none⟩) (q + 2) qc) := (hb2.cell (by exact hlw5)).trans d5; have c1' := (HB2.out.cell (p := ⟨gw, 1, none⟩) (by exact hgw)).trans c1; have hlw : wr.heap.size < w2.heap.size := Nat.lt_of_lt_of_le hlw5 hb2.size))
        have hBt2 := hBt.out.below HB2.out
        have HBt2 : Hid _ := hid hBt2
        have hT := hBt2.toks
        have b0 := hBt2.cells.1
        have hfr0 := hBt2.cells.2.2.1
        have hbl : W.heap.size < w2.heap.size := lt_of_block hBt2.blk
        have hgw2 : gw < w2.heap.size := by omega
        have hW2 : W.heap.size ≤ w2.heap.size := by omega
        have fB : some W.heap.size ≠ vT.ownBlock := fun e => own_not_block hT hBt2.blk (by decide) e.symm
        clear hBt2 k0 k1 k2 c1 c2 c3 CC CD hb2 L5 d5 c5 hlw5
        have hq0 : (0 : Int) < (q : Int) + 2 := by omega
        refine wp_region_last (fun w' => w'.cell? ⟨W.heap.size, 0, none⟩ = some vT ∧ w'.cell? ⟨wr.heap.size, 2, none⟩ = some (.slice (some ⟨gw, 1, none⟩) (q + 2) qc) ∧ w'.cell? ⟨gw, 1, none⟩ = some (.string (nth l 1))) (by kernel_rfl) (by kernel_rfl) ⟨b0, d2, c1'⟩ (fun hHeld => ?_)
        simp only [cutLast, idle, lastOf]
        refine tkA 0 ?vv32 rfl ?hy32 hHeld ?_
        case hy32 => (intro w hSw; (try dsimp only at hSw); first | (go_simp; done) | (go_simp; with_reducible rfl))
        try simp only [zA, zC, Act.put, zD, zE, zF]
        refine tkA 1 ?vv22 rfl ?hy22 hHeld ?_
        case hy22 => (intro w hSw; (try dsimp only at hSw); first | (go_simp; done) | (go_simp; with_reducible rfl))
        try simp only [zA, zB, zC, Act.put, zD, zE, zF]
        refine tkA 2 ?vv23 rfl ?hy23 hHeld ?_
        case hy23 => (intro w hSw; (try dsimp only at hSw); first | (go_simp; done) | (go_simp; with_reducible rfl))
        try simp only [zA, zB, zC, Act.put, zD, zE, zF]
        refine tkA 3 ?vv24 rfl ?hy24 hHeld ?_
        case hy24 => (intro w hSw; (try dsimp only at hSw); first | (go_simp; done) | (go_simp; with_reducible rfl))
        try simp only [zA, zB, zC, Act.put, zD, zE, zF]
        refine tkA 4 ?vv25 rfl ?hy25 hHeld ?_
        case hy25 => (intro w hSw; (try dsimp only at hSw); first | (go_simp; done) | (go_simp; with_reducible rfl))
        try simp only [zA, zB, zC, Act.put, zD, zE, zF]
        refine tkA 5 ?vv26 rfl ?hy26 hHeld ?_
        case hy26 => (intro w hSw; (try dsimp only at hSw); first | (go_simp; done) | (go_simp; with_reducible rfl))
        try simp only [zA, zB, zC, Act.put, zD, zE, zF]
        refine tkA 7 ?vv27 rfl ?hy27 hHeld ?_
        case hy27 => (intro w hSw; (try dsimp only at hSw); first | (go_simp; done) | (go_simp; with_reducible rfl))
        try simp only [zA, zB, zC, Act.put, zD, zE, zF]
        refine tkA 8 ?vv28 rfl ?hy28 hHeld ?_
        case hy28 => (intro w hSw; (try dsimp only at hSw); first | (go_simp; done) | (go_simp; with_reducible rfl))
        try simp only [zA, zB, zC, Act.put, zD, zE, zF]
        refine wpAnyH_ready (rs := [6]) (by kernel_rfl) (by simp) ?_
        refine AllReadyH.cons rfl (fun K hK => ?_) AllReadyH.nil
        try simp only [zA, zB, zC]
        rw [if_pos (by rfl)]; go_simp; refine (clone_str (nth l 1) _ hs1).mono ?_; rintro e w3 ⟨rfl, hb3⟩
        refine hK.out _ _ ?_ (fun hHeld => ?_)
        · exact ⟨(hb3.cell (by exact hbl)).trans hHeld.1, (hb3.cell (by exact hlw)).trans hHeld.2.1, (hb3.cell (by exact hgw2)).trans hHeld.2.2⟩
        clear hK K
        try simp only [zA, zB, zC, Act.put, zD, zE, zF]
        have HB23 : Hid (Below w2.heap.size w2 w3) := hid ((bdr (Below.refl _ _)).trans (by exact hb3))
        have hT3 := own_keeps hT (Keeps.of_below HB23.out []) (by simp)
        have fL : some wr.heap.size ≠ vT.ownBlock := fun e => own_not_block hT L2 (by decide) e.symm
        have fW : some gw ≠ vT.ownBlock := fun e => own_not_block hT W2 (by decide) e.symm
        have hz3 : w2.heap.size ≤ w3.heap.size := HB23.out.size
        refine tkA 9 ?vv29 rfl ?hy29 hHeld ?_
        case hy29 => (intro w hSw; (try dsimp only at hSw); first | (go_simp; done) | (go_simp; with_reducible rfl))
        try simp only [zA, zB, zC, Act.put, zD, zE, zF]
        refine wpAnyH_ready (rs := [10]) (by kernel_rfl) (by simp) ?_
        refine AllReadyH.cons rfl (fun K hK => ?_) AllReadyH.nil
        try simp only [zA, zB, zC]
        go_simp
        refine hK.out _ _ ?_ (fun hHeld => ?_)
        · go_keep
        clear hK K
        try simp only [zA, zB, zC, Act.put, zD, zE, zF]
        refine wpAnyH_ready (rs := [11]) (by kernel_rfl) (by simp) ?_
        refine AllReadyH.cons rfl (fun K hK => ?_) AllReadyH.nil
        try simp only [zA, zB, zC]
        rw [if_pos (by rfl)]; refine wp_append_lies _ (.tmp 45) (.tmp 54) 132 rfl W.heap.size 268 iT (.agg #[.string ByteArray.empty, .int .i64 0, .int .i64 0, .slice none 0 0]) 4 56 Tryz.underlying132 hiT hzT0 hzT1 hzT2 rfl (by decide) vT _ _ rfl (hT3.alloc _) ⟨w3.heap.size, 0, none⟩ 1 1 [.string (nth l 1), .int .i64 nv, .int .i64 nd, .slice none 0 0] rfl rfl (World.news_of_block (fr := (0, 0)) (heap_alloc_new w3 _)) (by simp [Value.oneCell']) (by omega) (by unfold maxLen; omega) (by omega) (by simp; omega) _ rfl ?_; intro g' cap' w4 hown hgrow hat hlt'
        refine hK.out _ _ ?_ (fun hHeld => ?_)
        · exact ⟨(hgrow.cell_far _ (by simp; omega) (by exact fB)).trans hHeld.1, (hgrow.cell_far _ (by simp; omega) (by exact fL)).trans hHeld.2.1, (hgrow.cell_far _ (by simp; omega) (by exact fW)).trans hHeld.2.2⟩
        clear hK K
        try simp only [zA, zB, zC, Act.put, zD, zE, zF]
        refine tkA 12 ?vv30 rfl ?hy30 hHeld ?_
        case hy30 => (intro w hSw; (try dsimp only at hSw); first | (go_simp; done) | (go_simp; with_reducible rfl))
        try simp only [zA, zB, zC, Act.put, zD, zE, zF]
        refine tkA 13 ?vv31 rfl ?hy31 hHeld ?_
        case hy31 => (intro w hSw; (try dsimp only at hSw); first | (go_simp; done) | (go_simp; with_reducible rfl))
        try simp only [zA, zB, zC, Act.put]
        refine wpAnyH_done (by kernel_rfl) ?_ _
        have hkeep : Keeps w2 w4 vT.ownBlock.toList := ((Keeps.of_below HB23.out _).alloc (Obj.cells #[.string (nth l 1), .int .i64 nv, .int .i64 nd, .slice none 0 0] 268)).grown hgrow (fun k hk => .inl (by rw [hk]; simp))
        have hb4 := (hkeep.block W.heap.size hbl (fun hm => fB (mem_own hm).symm)).trans HBt2.out.blk
        have b04 : w4.cell? ⟨W.heap.size, 0, none⟩ = some vT := block_cell hb4
        have f04 : w4.frozen? ⟨W.heap.size, 0, none⟩ = false := block_free hb4
        have hnn : ((nv.toNat : Nat) : Int) = nv := Int.toNat_of_nonneg (by omega)
        have hnnd : ((nd.toNat : Nat) : Int) = nd := Int.toNat_of_nonneg (by omega)
        have he4 : tkOne (nth l 1, nv.toNat, nd.toNat) (.slice none 0 0) = [.string (nth l 1), .int .i64 nv, .int .i64 nd, .slice none 0 0] := by
          show [_, Value.int .i64 ((nv.toNat : Nat) : Int), Value.int .i64 ((nd.toNat : Nat) : Int), _] = _
          rw [hnn, hnnd]
        have hend := HBt2.out.addTok (t := (nth l 1, nv.toNat, nd.toNat)) hkeep (by rw [he4]; exact hown)
        have HE : Hid (BtV (w4.setCell ⟨W.heap.size, 0, none⟩ (.slice (some ⟨g', 0, none⟩) ((tkL (P.take k)).length + 1) cap')) W.heap.size W.heap.size (tkL (P.take (k + 1))).length (tkCells (tkL (P.take (k + 1)))) (pgL f (P.take (k + 1))) (.slice (some ⟨g', 0, none⟩) ((tkL (P.take k)).length + 1) cap') vN pvN) := hid (by
          rw [HTN.out, HPN.out, List.append_nil]
          have e : tkOf (at_, 0, l) = (nth l 1, nv.toNat, nd.toNat) := by unfold tkOf; rw [HNV.out, HND.out]
          rw [e, List.length_append]
          exact hend)
        have HNu : Hid (NumV (w4.setCell ⟨W.heap.size, 0, none⟩ (.slice (some ⟨g', 0, none⟩) ((tkL (P.take k)).length + 1) cap')) (W.heap.size + 1) P.length f) := hid (((hNu.out.below HB2.out).off hT hkeep).set (by omega))
        have HBb : Hid (Below W.heap.size W (w4.setCell ⟨W.heap.size, 0, none⟩ (.slice (some ⟨g', 0, none⟩) ((tkL (P.take k)).length + 1) cap'))) := hid (((hbr.out.trans (HB2.out.mono hsz)).trans (hkeep.below hW2 (own_ge hT))).setCell (by exact Nat.le_refl _) _)
        clear hend hkeep hown hgrow hat hlt' hT hT3 hHeld hb4 fB fL fW L2 W2 d2 c1' b0 hfr0 hBt hNu HBt2 HB23 hb3 hnn hnnd he4
        show wpList _ _ _ _ _ _
        go_wp2
        go_roundw
        case rel => exact ⟨k + 1, _, vN, pvN, by omega, by go_num, HE, HNu, HBb⟩
        case measure => simp [intOf]; omega
      · rw [if_neg (by omega)] at HTN HPN
        have HTN : Hid _ := hid HTN
        have HPN : Hid _ := hid HPN
        have HE : Hid (BtV (wr.alloc (.cells #[.int .i64 at_, .int .i64 1, .slice (some ⟨gw, 1, none⟩) (q + 2) qc] 325)) W.heap.size W.heap.size (tkL (P.take (k + 1))).length (tkCells (tkL (P.take (k + 1)))) (pgL f (P.take (k + 1))) vT vN pvN) := hid (by
          rw [HTN.out, HPN.out, List.append_nil, List.append_nil]
          exact hBt.out.below HBl.out)
        have HNu := hid (hNu.out.below HBl.out)
        have HBb := hid (hbr.out.trans (HBl.out.mono hsz))
        go_wp2
        go_roundw
        case rel => exact ⟨k + 1, vT, vN, pvN, by omega, by go_num, HE, HNu, HBb⟩
        case measure => simp [intOf]; omega
      · rw [if_neg (by omega)] at HTN
        rw [if_pos rfl] at HPN
        have HTN : Hid _ := hid HTN
        have HPN : Hid _ := hid HPN
        have hs1 : (nth l 1).size ≤ 4000 := by simpa [givesB] using hgs
        have hxm : (at_, 2, l) ∈ namLs P := List.mem_filter.2 ⟨List.mem_of_getElem? HX.out, rfl⟩
        have HLG : Hid (∀ r ∈ rulesL l, r.length ≤ 8) := hid fun r hr => Nat.le_trans (long_le hr) (HGK.out.long _ hxm)
        have HUS : Hid (∀ r ∈ rulesL l, ∀ u ∈ r, u.size ≤ 4000) := hid fun r hr u hu => HOK.out.usz _ (List.mem_of_getElem? HX.out) u (by show u ∈ usesB 2 l; unfold usesB; rw [if_neg (by decide), if_pos rfl]; exact List.mem_flatten.2 ⟨r, hr, hu⟩)
        have CR : Hid (∀ w', Below wr.heap.size wr w' → Calls Tryz.prog 202 #[.agg #[.int .i64 at_, .int .i64 (2 : Nat), .slice (some ⟨gw, 1, none⟩) (q + 2) qc]] w' fun e w'' => ∃ g cap pvs, e = .returned (.slice (some ⟨g, 0, none⟩) (rulesL l).length cap) ∧ RowsV w'' w'.heap.size (.slice (some ⟨g, 0, none⟩) (rulesL l).length cap) (rulesL l) pvs ∧ Below w'.heap.size w' w'') := hid fun w' hb => rules_rows at_ 2 _ l w' (HWV.out.below hb) hl3 hl4
        have hrl := rules_len l
        obtain ⟨m, hm⟩ : ∃ m, (rulesL l).length = m := ⟨_, rfl⟩
        rw [hm] at CR hrl
        have HM : Hid ((rulesL l).length = m) := hid hm
        have hPl := pgL_len f P k
        clear hm hgs hxm
        go_wp2_with (first
          | (go_at_call 201; go_loud (refine (clone_str (nth l 1) _ hs1).mono ?_; rintro e w2 ⟨rfl, hb2⟩; have HB2 : Hid (Below wr.heap.size wr w2) := hid (HBl.out.trans (hb2.mono HBl.out.size)); have d0 : w2.cell? ⟨wr.heap.size, 0, none⟩ = some (.int .i64 at_) := (hb2.cell (by simp)).trans (box_at wr _ _ 0); have d1 : w2.cell? ⟨wr.heap.size, 1, none⟩ = some (.int .i64 (2 : Nat)) := (hb2.cell (by simp)).trans (box_at wr _ _ 1); have d2 : w2.cell? ⟨wr.heap.size, 2, none⟩ = some (.slice (some ⟨gw, 1, none⟩) (q + 2) qc) := (hb2.cell (by simp)).trans (box_at wr _ _ 2); have hlw : wr.heap.size < w2.heap.size := (by have := hb2.size; rw [World.size_alloc] at this; omega); have HB3 : Hid (Below wr.heap.size wr (w2.alloc (.cells #[.string (nth l 1), .slice none 0 0] 219))) := hid (HB2.out.alloc (by omega) _); clear hb2))
          | (go_at_call 202; go_loud (refine (CR.out _ HB3.out).mono ?_; rintro e w4 ⟨g2, cap2, pvs2, rfl, hrv, hb4⟩; have HRV : Hid _ := hid hrv; have HB4 : Hid _ := hid hb4; clear hrv hb4)))
        have hB24 : Below w2.heap.size w2 w4 := ((Below.refl _ _).alloc (Nat.le_refl _) _).trans (HB4.out.mono (by rw [World.size_alloc]; omega))
        have HZ4 : Hid (w4.heap[w2.heap.size]? = some (.cells #[.string (nth l 1), .slice none 0 0] 219 (0, 0))) := hid ((HB4.out.block w2.heap.size (by rw [World.size_alloc]; omega)).trans (World.alloc_heap_new w2 _))
        have HB24 : Hid (Below wr.heap.size wr w4) := hid (HB2.out.trans (hB24.mono HB2.out.size))
        have HS4 : Hid (w2.heap.size < w4.heap.size) := hid (lt_of_block HZ4.out)
        have HW2 : Hid (wr.heap.size ≤ w2.heap.size) := hid HB2.out.size
        have HWW : Hid (W.heap.size < wr.heap.size) := hid (lt_of_block hBt.out.blk)
        have HRul0 : Hid (RulM w4 w4.heap.size (.slice none 0 0) (((rulesL l).take 0).map (ptR f)) []) := hid ⟨World.ownsRow_nil _ _ _ _, fun i ps p h => by simp at h⟩
        clear hB24 d0 d1 d2 k0 k1 k2 c1 c2 CR HB3 HB4 hbw hgw
        go_wp2
        obtain ⟨wo, rfl⟩ : ∃ wo, wo = wr := ⟨_, rfl⟩
        go_loopw [68] (fun i wq => ∃ (j : Nat) (vR : Value) (pvs : List Value), j ≤ m ∧ i = .int .i64 j ∧ Hid (wq.heap[w2.heap.size]? = some (.cells #[.string (nth l 1), vR] 219 (0, 0))) ∧ Hid (RulM wq w4.heap.size vR (((rulesL l).take j).map (ptR f)) pvs) ∧ Hid (Keeps w4 wq [w2.heap.size])) (fun i _ => m - (intOf i).toNat)
        case atStart => exact ⟨0, _, _, Nat.zero_le _, rfl, HZ4, HRul0, hid (Keeps.refl _ _)⟩
        case round =>
          clear HRul0
          obtain ⟨j, vR, pvs, hj, rfl, hZq, hRu, hKq⟩ := hrel
          obtain ⟨wq, rfl⟩ : ∃ wq, wq = wr := ⟨_, rfl⟩
          have hB2q : Below w2.heap.size w4 wq := hKq.out.keepsBelow HS4.out
          have HBq : Hid (Below wo.heap.size wo wq) := hid (HB24.out.trans (hB2q.mono HW2.out))
          have hszq := HBq.out.size
          have hz2q : w2.heap.size < wq.heap.size := lt_of_block hZq.out
          have z0 : wq.cell? ⟨w2.heap.size, 0, none⟩ = some (.string (nth l 1)) := block_cell hZq.out
          have z1 : wq.cell? ⟨w2.heap.size, 1, none⟩ = some vR := block_cell hZq.out
          by_cases hlj : j < m
          · obtain ⟨r, pr, hr, hpr, hown, hpb⟩ := HRV.out.atK HM.out hKq.out HZ4.out (by decide) (by decide) hlj
            obtain ⟨aa, ca, rfl, hca, hcells⟩ := row_cells hown
            have HC : Hid _ := hid hcells
            have HR : Hid _ := hid hr
            have hr8 := HLG.out r (List.mem_of_getElem? hr)
            obtain ⟨rl, hrl2⟩ : ∃ rl, r.length = rl := ⟨_, rfl⟩
            rw [hrl2] at hca hr8 hpr
            have HRL : Hid (r.length = rl) := hid hrl2
            have hg2 : g2 < wq.heap.size := World.block_lt_of_cell? wq _ hpr
            clear hown hpb hcells hr hB2q
            go_wp2_with (at_make; refine wpList_make_exact _ rfl _ _ 228 rfl 235 iP (.agg #[.bool false, .int .i64 0]) Tryz.underlying228 hiP hzP0 _ _ rl rfl rfl rfl rfl (by rw [hzP2]; omega) (by omega) ?_; rw [hzP1])
            have hz4q : w4.heap.size ≤ wq.heap.size := hKq.out.size
            have HP0 : Hid ((wq.alloc (.cells (madeCells #[.bool false, .int .i64 0] (rl * 2)) 235)).ownsRow w4.heap.size 235 2 (.slice (some ⟨wq.heap.size, 0, none⟩) rl rl) rl (ptCells (ptZ f r 0))) := hid (by
              have h1 := part_made wq f r w4.heap.size hz4q (by rw [HRL.out]; exact hr8)
              rw [HRL.out] at h1
              exact h1)
            go_wp2
            go_loopw [77] (fun i w5 => ∃ t : Nat, t ≤ rl ∧ i = .int .i64 t ∧ Hid (w5.ownsRow w4.heap.size 235 2 (.slice (some ⟨wq.heap.size, 0, none⟩) rl rl) rl (ptCells (ptZ f r t))) ∧ Hid (Below wq.heap.size wq w5)) (fun i _ => rl - (intOf i).toNat)
            case atStart => exact ⟨0, Nat.zero_le _, rfl, HP0, hid (bal (Below.refl _ _))⟩
            case round =>
              clear HP0
              obtain ⟨t, ht, rfl, hPt, hB5⟩ := hrel
              obtain ⟨w5, rfl⟩ : ∃ w5, w5 = wr := ⟨_, rfl⟩
              have hsz5 := hB5.out.size
              by_cases hlt5 : t < rl
              · obtain ⟨ga, rfl, hga, hcc⟩ := HC.out (by rw [HRL.out]; omega)
                obtain ⟨u, hu⟩ : ∃ u, r[t]? = some u := ⟨_, List.getElem?_eq_getElem (by rw [HRL.out]; exact hlt5)⟩
                have cu := (hB5.out.cell (p := ⟨ga, t, none⟩) (by exact hga)).trans (hcc t u hu)
                have hus := HUS.out r (List.mem_of_getElem? HR.out) u (List.mem_of_getElem? hu)
                have hlook := (hNu.out.below (HBq.out.trans (hB5.out.mono hszq))).look u (by unfold maxLen; omega)
                have hpl := hPt.out.1
                have y0 := hPt.out.cellAt (t * 2) (by omega)
                have y1 := hPt.out.cellAt (t * 2 + 1) (by omega)
                rw [List.getElem?_eq_getElem (by omega)] at y0 y1
                have f0 := hPt.out.frozenAt (t * 2)
                have f1 := hPt.out.frozenAt (t * 2 + 1)
                obtain ⟨x0, hx0⟩ : ∃ x0, (ptCells (ptZ f r t))[t * 2]'(by omega) = x0 := ⟨_, rfl⟩
                obtain ⟨x1, hx1⟩ : ∃ x1, (ptCells (ptZ f r t))[t * 2 + 1]'(by omega) = x1 := ⟨_, rfl⟩
                rw [hx0] at y0
                rw [hx1] at y1
                have HPn : Hid (((w5.setCell ⟨wq.heap.size, t * 2, none⟩ (.bool (decide (f u % 2 = 1)))).setCell ⟨wq.heap.size, t * 2 + 1, none⟩ (.int .i64 (f u / 2))).ownsRow w4.heap.size 235 2 (.slice (some ⟨wq.heap.size, 0, none⟩) rl rl) rl (ptCells (ptZ f r (t + 1)))) := hid (by
                  have h1 := hPt.out
                  rw [← HRL.out] at h1 ⊢
                  exact part_put f hu (HPOS.out u) h1)
                have HBn : Hid (Below wq.heap.size wq ((w5.setCell ⟨wq.heap.size, t * 2, none⟩ (.bool (decide (f u % 2 = 1)))).setCell ⟨wq.heap.size, t * 2 + 1, none⟩ (.int .i64 (f u / 2)))) := hid ((hB5.out.setCell (by exact Nat.le_refl _) _).setCell (by exact Nat.le_refl _) _)
                clear hx0 hx1 hpl hcc hu hus
                go_wp2
                go_roundw
                case rel => exact ⟨t + 1, by omega, by go_num, HPn, HBn⟩
                case measure => simp [intOf]; omega
              · obtain rfl : t = rl := by omega
                have HPF : Hid (PrtM w5 w4.heap.size (.slice (some ⟨wq.heap.size, 0, none⟩) t t) (ptR f r)) := hid (by
                  have h1 := hPt.out
                  have e : (ptR f r).length = t := by unfold ptR; rw [List.length_map, HRL.out]
                  rw [← HRL.out, ptZ_full, HRL.out] at h1
                  unfold PrtM
                  rw [e]
                  exact h1)
                have hjl : (((rulesL l).take j).map (ptR f)).length = j := by rw [List.length_map, List.length_take, HM.out]; omega
                have HJL : Hid _ := hid hjl
                have hRu5 := hRu.out.keeps (Keeps.of_below hB5.out []) (off_nil _ _) (off_nil _ _)
                have hrow5 := hRu5.row
                rw [hjl] at hrow5
                have hz5 := (hB5.out.block w2.heap.size hz2q).trans hZq.out
                have HZ5 : Hid _ := hid hz5
                have v1 : w5.cell? ⟨w2.heap.size, 1, none⟩ = some vR := block_cell hz5
                have HRu5 : Hid _ := hid hRu5
                have HRow5 : Hid _ := hid hrow5
                have hz45 : w4.heap.size ≤ w5.heap.size := Nat.le_trans hz4q hsz5
                clear hjl hRu5 hrow5 hz5 hPt
                go_wp2_with (first
                  | (at_builtin; refine wpList_append_lies _ rfl _ _ 217 rfl w4.heap.size 228 iR (.slice none 0 0) 1 24 Tryz.underlying217 hiR hzR0 hzR1 hzR2 rfl (by decide) _ _ _ rfl (HRow5.out.alloc _) ⟨w5.heap.size, 0, none⟩ 1 1 [.slice (some ⟨wq.heap.size, 0, none⟩) t t] rfl rfl (World.news_of_block (heap_alloc_new w5 _)) ?d2 (Nat.le_refl 1) ?d3 ?d4 ?d5 _ rfl ?_))
                case d2 => intro u hu; simp at hu; subst hu; rfl
                case d3 => unfold maxLen; omega
                case d4 => omega
                case d5 => simp; omega
                intro g6 cap6 w6 hown6 hgrow6 hat6 hlt6
                have hkeep : Keeps w5 w6 vR.ownBlock.toList := ((Keeps.refl _ _).alloc _).grown hgrow6 (fun q hq => .inl (by rw [hq]; simp))
                have hz6 := (hkeep.block w2.heap.size (by omega) (fun hm => own_not_block HRow5.out HZ5.out (by decide) (mem_own hm))).trans HZ5.out
                have v6 : w6.cell? ⟨w2.heap.size, 1, none⟩ = some vR := block_cell hz6
                have f6 : w6.frozen? ⟨w2.heap.size, 1, none⟩ = false := block_free hz6
                have HZ6 : Hid ((w6.setCell ⟨w2.heap.size, 1, none⟩ (.slice (some ⟨g6, 0, none⟩) (j + 1) cap6)).heap[w2.heap.size]? = some (.cells #[.string (nth l 1), .slice (some ⟨g6, 0, none⟩) (j + 1) cap6] 219 (0, 0))) := hid (cells_set hz6 _)
                have HRu6 : Hid (RulM (w6.setCell ⟨w2.heap.size, 1, none⟩ (.slice (some ⟨g6, 0, none⟩) (j + 1) cap6)) w4.heap.size (.slice (some ⟨g6, 0, none⟩) (j + 1) cap6) (((rulesL l).take (j + 1)).map (ptR f)) (pvs ++ [.slice (some ⟨wq.heap.size, 0, none⟩) t t])) := hid (by
                  rw [rs_next f HR.out]
                  exact (HRu5.out.push HPF.out hkeep (by rw [HJL.out]; exact hown6)).setOther hz6 (by decide) (by decide))
                have HK6 : Hid (Keeps w4 (w6.setCell ⟨w2.heap.size, 1, none⟩ (.slice (some ⟨g6, 0, none⟩) (j + 1) cap6)) [w2.heap.size]) := hid ((((hKq.out.transOwn (Keeps.of_below hB5.out []) (by simp)).transOwn hkeep (own_ge HRow5.out)).setCell (by simp) _))
                clear hown6 hgrow6 hat6 hlt6 hkeep hz6
                go_wp2
                go_roundw
                case rel => exact ⟨j + 1, _, _, by omega, by go_num, HZ6, HRu6, HK6⟩
                case measure => simp [intOf]; omega
          · obtain rfl : j = m := by omega
            have hBtq := hBt.out.below HBq.out
            have b0 := hBtq.cells.1
            have b1 := hBtq.cells.2.1
            have hrowN := hBtq.names
            have hRq := (hRu.out.base (B' := W.heap.size) (by have := HS4.out; have := HW2.out; have := HWW.out; omega))
            rw [← HM.out, List.take_length] at hRq
            have hrowR := hRq.row
            rw [List.length_map, HM.out] at hrowR
            obtain ⟨aR, cR, rfl⟩ := own_slice hrowR
            have HBtq : Hid _ := hid hBtq
            have HRowN : Hid _ := hid hrowN
            have HRq : Hid _ := hid hRq
            have hWq : W.heap.size < wq.heap.size := by have := HWW.out; omega
            clear hBtq hrowN hRq hRu hrowR
            go_wp2_with (first
              | (at_builtin; go_loud (refine wpList_append_lies _ rfl _ _ 133 rfl W.heap.size 219 iN (.agg #[.string ByteArray.empty, .slice none 0 0]) 2 40 Tryz.underlying133 hiN hzN0 hzN1 hzN2 rfl (by decide) _ _ _ rfl (HRowN.out.alloc _) ⟨wq.heap.size, 0, none⟩ 1 1 [.string (nth l 1), .slice aR j cR] rfl rfl (World.news_of_block (heap_alloc_new wq _)) ?e2 (Nat.le_refl 1) ?e3 ?e4 ?e5 _ rfl ?_)))
            case e2 => intro u hu; simp at hu; rcases hu with rfl | rfl <;> rfl
            case e3 => unfold maxLen; omega
            case e4 => omega
            case e5 => simp; omega
            intro g7 cap7 w7 hown7 hgrow7 hat7 hlt7
            have hkeep : Keeps wq w7 vN.ownBlock.toList := ((Keeps.refl _ _).alloc _).grown hgrow7 (fun q hq => .inl (by rw [hq]; simp))
            have hz7 := (hkeep.block W.heap.size hWq (fun hm => own_not_block HRowN.out HBtq.out.blk (by decide) (mem_own hm))).trans HBtq.out.blk
            have v7 : w7.cell? ⟨W.heap.size, 1, none⟩ = some vN := block_cell hz7
            have f7 : w7.frozen? ⟨W.heap.size, 1, none⟩ = false := block_free hz7
            have hend := HBtq.out.addName (nm := nmOf f (at_, 2, l)) hkeep HRq.out hown7
            have HE : Hid (BtV (w7.setCell ⟨W.heap.size, 1, none⟩ (.slice (some ⟨g7, 0, none⟩) ((pgL f (P.take k)).length + 1) cap7)) W.heap.size W.heap.size (tkL (P.take (k + 1))).length (tkCells (tkL (P.take (k + 1)))) (pgL f (P.take (k + 1))) vT (.slice (some ⟨g7, 0, none⟩) ((pgL f (P.take k)).length + 1) cap7) (pvN ++ [.slice aR j cR])) := hid (by
              rw [HTN.out, HPN.out, List.append_nil]
              exact hend)
            have HNu : Hid (NumV (w7.setCell ⟨W.heap.size, 1, none⟩ (.slice (some ⟨g7, 0, none⟩) ((pgL f (P.take k)).length + 1) cap7)) (W.heap.size + 1) P.length f) := hid (((hNu.out.below HBq.out).off HRowN.out hkeep).set (by omega))
            have HBb : Hid (Below W.heap.size W (w7.setCell ⟨W.heap.size, 1, none⟩ (.slice (some ⟨g7, 0, none⟩) ((pgL f (P.take k)).length + 1) cap7))) := hid (((hbr.out.trans (HBq.out.mono hsz)).trans (hkeep.below (Nat.le_of_lt hWq) (own_ge HRowN.out))).setCell (by exact Nat.le_refl _) _)
            clear hend hkeep hown7 hgrow7 hat7 hlt7 hz7 hBt hNu
            go_wp2
            go_roundw
            case rel => exact ⟨k + 1, vT, _, _, by omega, by go_num, HE, HNu, HBb⟩
            case measure => simp [intOf]; omega
    · obtain rfl : k = n := by omega
      have hB := hBt.out
      rw [HN.out, List.take_length] at hB
      obtain ⟨aT, cT, rfl⟩ := own_slice hB.toks
      obtain ⟨aN, cN, rfl⟩ := own_slice hB.names
      have hV' := HV.out
      have hNu' := hNu.out
      have hnc' := hnc
      rw [HN.out] at hV' hnc'
      rw [HF.out] at hNu'
      have CS := swaps_any P G HGK.out HOK.out W wr HG.out B W.heap.size W.heap.size (W.heap.size + 1) g cap pv hV' hnc' hgl hbr.out (Nat.le_refl _) (pgL f P) _ _ pvN hB hNu'
      rw [← HN.out] at CS
      have HCS : Hid _ := hid CS
      have HGE : Hid _ := hid (own_ge hB.toks)
      have hWwr : W.heap.size < wr.heap.size := lt_of_block hB.blk
      clear hB hBt hV' hNu' hnc' CS hNu
      go_wp2_with (go_at_call 203; refine HCS.out.mono ?_; rintro e w5 ⟨rfl, hBt5, hS5, hk5⟩; obtain ⟨b0, b1, z0, z1⟩ := hBt5.cells; have HBf : Hid _ := hid hBt5; have HS5 : Hid _ := hid hS5; have HK5 : Hid _ := hid hk5; clear hBt5 hS5 hk5 HCS)
      have HA := HBf.out.again
      have hN := HGK.out.ok
      have hT : (tkL P).length = (ngL P).nT := by rw [ngL_nT]; unfold tkL; simp
      have hM : (pgL f P).length = (ngL P).nN := by rw [HF.out]; rfl
      have hS6 : SwM ((w5.setCell ⟨W.heap.size, 0, none⟩ (.slice aT (tkL P).length cT)).setCell ⟨W.heap.size, 1, none⟩ (.slice aN (pgL f P).length cN)) wr.heap.size (tkL P).length (ngL P).swp := fun t ht =>
        (Below.heap_setCell _ _ _ _ (by show wr.heap.size + t ≠ W.heap.size; omega)).trans ((Below.heap_setCell _ _ _ _ (by show wr.heap.size + t ≠ W.heap.size; omega)).trans (HS5.out t ht))
      have hd := fun (W'' : World) hW => HA.done (W := W'') hW hN (by rw [ngL_nN]; exact HGK.out.nN) (by rw [ngL_nT]; exact HGK.out.nT) (rep_of HGK.out).leR hS6 hsz hT hM (by rw [HF.out]; rfl) tkL_put (pgL_pos f P) rfl rfl
      refine ⟨rfl, _, results_cell (p := 2) (ty := 135) rfl _ _ W.heap.size _ _ _ _ rfl HA.blk Tryz.underlying135 rfl (by kernel_rfl), ?_⟩
      obtain ⟨_, _, gN, rfl, _⟩ := hd _ (fun _ _ _ => rfl)
      refine ⟨aT, cT, gN, cN, by rw [hT, hM], fun W'' hW => ?_, ((hbr.out.trans (HK5.out.below hsz HGE.out)).setCell (by exact Nat.le_refl _) _).setCell (by exact Nat.le_refl _) _⟩
      obtain ⟨_, _, gN', eN, hP⟩ := hd W'' hW
      obtain rfl : gN = gN' := by injection eN with eN; injection eN
      rw [tkL_words] at hP
      rw [← HF.out]
      exact hP

end Go.Proofs.YtjjggdcnpndgjaaGreatDoor
