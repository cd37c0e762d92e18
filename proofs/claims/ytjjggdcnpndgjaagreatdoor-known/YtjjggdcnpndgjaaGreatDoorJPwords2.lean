/- (*Facts).words. -/
import Derived.Test.YtjjggdcnpndgjaaGreatDoorJPwords1
import Derived.Test.YtjjggdcnpndgjaaGreatDoorJ9
namespace Go.Proofs.YtjjggdcnpndgjaaGreatDoor
open Go.RowKit Go.Shelf

attribute [local go_sem] Oper.semAt_some

theorem bitsOf_len (s : Nat) : (bitsOf s).length ≤ 21 := Nat.le_trans (List.length_filter_le _ _) (by simp)

def wdsOf (tws : List ByteArray) (nT : Nat) (l : List Nat) : List ByteArray := l.map (wordT tws nT)

set_option maxHeartbeats 1000000 in
set_option maxRecDepth 100000 in
theorem fwords_any (w : World) (n₀ fb kb : Nat) (N : NG) (tws : List ByteArray) (pg : List Nm) (adT : Option Addr) (capT gN capN : Nat) (k : List Fa) (h : FcM w n₀ fb kb N tws pg adT capT gN capN k) (hT : TabAt 1 Lib.deBruijn32tab w) (s : Nat) (hs : s < 2 ^ 21) (hb : ∀ t, t ∈ bitsOf s → t ≤ N.nT) :
    Calls Tryz.prog 112 #[.pointer (some ⟨fb, 0, none⟩), .int .u32 s] w fun e w' => ∃ v, e = .returned v ∧ OwnS w' w.heap.size v (wdsOf tws N.nT (bitsOf s)) ∧ Below w.heap.size w w' := by
  obtain ⟨i0, hi, hz0, hz1, hz2⟩ := info_parts Tryz.info9
  have hkw := h.kn.lt
  have hfw := h.lf
  have hmx : Tryz.prog.follows .mixedOrders = true := by kernel_rfl
  have H : Hid _ := hid h
  have HT : Hid _ := hid hT
  have HB : Hid _ := hid hb
  have htab : 1 < w.heap.size := World.block_lt_of_cell? _ _ (hT 0 (by decide))
  clear h hT hb
  refine (callsIn_wide (n := 4)).1 ?_
  refine callsIn_of_wp_marks Tryz.func112 rfl trivial ?_ rfl
  simp only [Tryz.ntmps112, List.size_toArray, List.length_cons, List.length_nil, Nat.reduceAdd, Nat.reduceSub, Array.replicate_succ, Array.replicate_zero, List.push_toArray, List.append_toArray, List.nil_append, List.cons_append]
  gi_wp2_with (refine ⟨trivial, ?_⟩; gi_at_call 128; refine (setAll_in Fence.wide 3 trivial rfl _ _).mono ?_; rintro e w' ⟨rfl, rfl⟩)
  have bf := box_new w (.pointer (some ⟨fb, 0, none⟩)) 212
  obtain ⟨w1, hw1⟩ : ∃ w1, w.alloc (.cells #[.pointer (some ⟨fb, 0, none⟩)] 212) = w1 := ⟨_, rfl⟩
  have hs1 : w1.heap.size = w.heap.size + 1 := by rw [← hw1, World.size_alloc]
  have HW1 : Hid (Below w.heap.size w w1) := hid (by rw [← hw1]; exact bal (Below.refl _ _))
  rw [hw1] at bf ⊢
  rw [show w.heap.size + 1 = w1.heap.size from hs1.symm]
  have bO := Boxed.new w1 39 (.slice none 0 0)
  obtain ⟨w2, hw2⟩ : ∃ w2, w1.alloc (.cells #[.slice none 0 0] 39) = w2 := ⟨_, rfl⟩
  have hs2 : w2.heap.size = w1.heap.size + 1 := by rw [← hw2, World.size_alloc]
  have hb2 : Below w1.heap.size w1 w2 := by rw [← hw2]; exact bal (Below.refl _ _)
  rw [hw2] at bO ⊢
  rw [show w1.heap.size + 1 = w2.heap.size from hs2.symm]
  have bS := box_new w2 (.int .u32 s) 214
  obtain ⟨w3, hw3⟩ : ∃ w3, w2.alloc (.cells #[.int .u32 s] 214) = w3 := ⟨_, rfl⟩
  have hs3 : w3.heap.size = w2.heap.size + 1 := by rw [← hw3, World.size_alloc]
  have bO3 := bO.alloc (.cells #[.int .u32 s] 214)
  have hb3 : Below w1.heap.size w1 w3 := by rw [← hw3]; exact hb2.alloc hb2.size _
  rw [hw3] at bS bO3 ⊢
  have hs1' : w.heap.size + 1 ≤ w1.heap.size := by omega
  have hs2' : w1.heap.size + 1 ≤ w2.heap.size := by omega
  have hs3' : w2.heap.size + 1 ≤ w3.heap.size := by omega
  clear hw1 hw2 hw3 hs1 hs2 hs3
  have HX1 : Hid (FcM w1 n₀ fb kb N tws pg adT capT gN capN k) := hid (H.out.below HW1.out)
  have fb0 := HX1.out.f0
  have fb1 := HX1.out.f1
  have hfw1 := HX1.out.lf
  refine wpIn_rangeFunc_ownG (F := Fence.wide) rfl (by omega) (gf := 181) (lb := #[.pointer (some ⟨w2.heap.size, 0, none⟩)]) rfl trivial (enters_of Tryz.func181 (by kernel_rfl) rfl)
    (set_stops 3 (by omega) w2.heap.size w1.heap.size s hs (by omega) w3 (by omega) (TabAt.below (TabAt.below HT.out HW1.out (by omega)) hb3 (by omega)) bS) belowK_t (belowK_b (by omega)) (Below.refl _ _) (fun _ => rfl)
    (fun (pre : List (TI s)) W => (∃ v, Boxed W w1.heap.size 39 v ∧ W.ownsRow w1.heap.size 9 1 v (wdsOf tws N.nT (pre.map (·.1))).length (strs (wdsOf tws N.nT (pre.map (·.1)))) ∧ True) ∧ Below w1.heap.size w1 W)
    (fun _ _ _ => False)
    (OwnFrom.and (Own.from (holdsRow_own w1.heap.size w1.heap.size 39 9 1 (fun (pre : List (TI s)) => (wdsOf tws N.nT (pre.map (·.1))).length) (fun (pre : List (TI s)) => strs (wdsOf tws N.nT (pre.map (·.1)))) (fun _ _ => True)) _) (ownFrom_below (Nat.le_refl _) (by omega)))
    (fun _ _ _ _ _ hs _ _ => hs)
    ⟨⟨_, bO3, World.ownsRow_nil _ _ _ _, trivial⟩, hb3⟩
    (fun x => { tmps := #[.pointer (some ⟨fb, 0, none⟩), .int .u32 s, .pointer (some ⟨w.heap.size, 0, none⟩), undef, .slice none 0 0, .pointer (some ⟨w1.heap.size, 0, none⟩), .int .i64 (x.1 : Int), .int .u32 s, .func (.func 181) #[] #[.pointer (some ⟨w2.heap.size, 0, none⟩)], .int .i64 (x.1 : Int), undef, undef, undef, undef, undef, undef, undef, undef, undef, undef], defers := [] }) ?assign ?body ?done ?stop
  case assign =>
    intro l x W K hK
    simp only [encT]
    gi_wp2
    exact hK
  case stop =>
    rintro D c pre W _ _ h _
    exact h.elim
  case done =>
    rintro D ys W hD hys ⟨⟨v, hv, hrow, _⟩, hB⟩ hK
    have hc := hv.cell
    have hrow2 := ownsRow_putObj hrow (.deferred none) hK rfl
    have hBW := hB.trans (belowK_b (w := w1) (Nat.le_refl _) W D _ (.deferred none) (by omega) hK rfl rfl)
    have HR : Hid _ := hid (And.intro hrow2 hBW)
    clear hrow hrow2 hBW hB
    gi_wp2
    refine ⟨by simp, .inl ⟨_, _, rfl, run_takeDeferred hK, ?_⟩⟩
    refine ⟨_, results_tmp rfl _ _ _, v, rfl, ?_, HW1.out.trans (HR.out.2.mono (by omega))⟩
    have h1 := HR.out.1
    rw [hys] at h1
    exact OwnS.base h1 (by omega)
  case body =>
    rintro l pre ⟨t, ht⟩ W ⟨⟨v, hv, hrow, _⟩, hB⟩ hlt
    simp only at hlt ⊢
    have htn : t ≤ N.nT := HB.out t ht
    have hl21 := bitsOf_len s
    have hpl : (wdsOf tws N.nT (pre.map (·.1))).length ≤ 21 := by unfold wdsOf; rw [List.length_map, List.length_map]; omega
    have hszW := hB.size
    have cF := (hB.cell (p := ⟨w.heap.size, 0, none⟩) (by show w.heap.size < w1.heap.size; omega)).trans bf
    have c0 := (hB.cell (p := ⟨fb, 0, none⟩) (by exact hfw1)).trans fb0
    have c1 := (hB.cell (p := ⟨fb, 1, none⟩) (by exact hfw1)).trans fb1
    have cV := hv.cell
    have hBl := hv.lt
    have HPW : Hid (PGr W.drew n₀ N tws pg adT capT gN capN) := hid (HX1.out.gr.below ((bdr hB).mono HX1.out.ln))
    have CW := word_any W.drew n₀ N tws pg adT capT gN capN HPW.out (by show n₀ ≤ W.heap.size; have := HX1.out.ln; omega) t htn
    have HCW : Hid _ := hid CW
    have HB1 : Hid (Below w1.heap.size w1 W) := hid hB
    have HV : Hid _ := hid hv
    have HRow : Hid _ := hid hrow
    have hwds : strs (wdsOf tws N.nT ((pre ++ [(⟨t, ht⟩ : TI s)]).map (·.1))) = strs (wdsOf tws N.nT (pre.map (·.1))) ++ [.string (wordT tws N.nT t)] ∧ (wdsOf tws N.nT ((pre ++ [(⟨t, ht⟩ : TI s)]).map (·.1))).length = (wdsOf tws N.nT (pre.map (·.1))).length + 1 := by
      unfold wdsOf strs; simp
    have HWD : Hid _ := hid hwds
    obtain ⟨wd, hwd⟩ : ∃ x, wordT tws N.nT t = x := ⟨_, rfl⟩
    rw [hwd] at HCW HWD
    obtain ⟨kk, hkk⟩ : ∃ x, (wdsOf tws N.nT (pre.map (·.1))).length = x := ⟨_, rfl⟩
    rw [hkk] at hpl HRow HWD
    clear CW hB hv hrow hwds hwd hkk HPW htn
    gi_wp2
    have hl2 : w.heap.size < W.heap.size := by omega
    have hlf : fb < W.heap.size := by omega
    refine wpIn_region_round_last (fun w' => w'.cell? ⟨w1.heap.size, 0, none⟩ = some v ∧ w'.cell? ⟨w.heap.size, 0, none⟩ = some (.pointer (some ⟨fb, 0, none⟩)) ∧ w'.cell? ⟨fb, 0, none⟩ = some (.slice adT N.nT capT) ∧ w'.cell? ⟨fb, 1, none⟩ = some (.slice (some ⟨gN, 0, none⟩) N.nN capN)) hmx (by kernel_rfl) (by rintro ⟨_, _, h⟩; exact h) (by kernel_rfl) ⟨cV, cF, c0, c1⟩ (fun hHeld => ?_)
    simp only [cutLast, idle, lastOf]
    refine tkA 0 ?vv62 rfl ?hy62 hHeld ?_
    case hy62 => (intro w hSw; (try dsimp only at hSw); first | (go_simp; done) | (go_simp; with_reducible rfl))
    try simp only [zA, zC, Act.put, zD, zE, zF]
    refine tkA 1 ?vv56 rfl ?hy56 hHeld ?_
    case hy56 => (intro w hSw; (try dsimp only at hSw); first | (go_simp; done) | (go_simp; with_reducible rfl))
    try simp only [zA, zB, zC, Act.put, zD, zE, zF]
    refine tkA 2 ?vv57 rfl ?hy57 hHeld ?_
    case hy57 => (intro w hSw; (try dsimp only at hSw); first | (go_simp; done) | (go_simp; with_reducible rfl))
    try simp only [zA, zB, zC, Act.put, zD, zE, zF]
    refine tkA 3 ?vv58 rfl ?hy58 hHeld ?_
    case hy58 => (intro w hSw; (try dsimp only at hSw); first | (go_simp; done) | (go_simp; with_reducible rfl))
    try simp only [zA, zB, zC, Act.put, zD, zE, zF]
    refine tkA 4 ?vv59 rfl ?hy59 hHeld ?_
    case hy59 => (intro w hSw; (try dsimp only at hSw); first | (go_simp; done) | (go_simp; with_reducible rfl))
    try simp only [zA, zB, zC, Act.put, zD, zE, zF]
    refine tkA 5 ?vv60 rfl ?hy60 hHeld ?_
    case hy60 => (intro w hSw; (try dsimp only at hSw); first | (go_simp; done) | (go_simp; with_reducible rfl))
    try simp only [zA, zB, zC, Act.put, zD, zE, zF]
    refine wpAnyH_ready (rs := [6]) (by kernel_rfl) (by simp) ?_
    refine AllReadyH.cons rfl (fun K hK => ?_) AllReadyH.nil
    try simp only [zA, zB, zC]
    rw [if_pos (by rfl)]; go_simp; refine HCW.out.mono ?_; rintro e w6 ⟨rfl, hb6⟩
    refine hK.out _ _ ?_ (fun hHeld => ?_)
    · exact ⟨(hb6.cell (by exact hBl)).trans hHeld.1, (hb6.cell (by exact hl2)).trans hHeld.2.1, (hb6.cell (by exact hlf)).trans hHeld.2.2.1, (hb6.cell (by exact hlf)).trans hHeld.2.2.2⟩
    clear hK K
    try simp only [zA, zB, zC, Act.put, zD, zE, zF]
    have hbW6 : Below W.heap.size W w6 := (bdr (Below.refl W.heap.size W)).trans hb6
    have hsz6 := hbW6.size
    have hv6 : Boxed w6 w1.heap.size 39 v := (hbW6.block w1.heap.size hBl).trans HV.out
    have hrow6 : w6.ownsRow w1.heap.size 9 1 v kk (strs (wdsOf tws N.nT (pre.map (·.1)))) := own_keeps HRow.out (Keeps.of_below hbW6 []) (by simp)
    have ogB := hv6.not_row (by decide) hrow6
    have hoff : ∀ g, g < w1.heap.size → some g ≠ v.ownBlock := fun g hg e => by have := (hrow6.lt g e.symm).1; omega
    have ogF := hoff w.heap.size (by omega)
    have ogf := hoff fb hfw1
    have HV6 : Hid _ := hid hv6
    have HRow6 : Hid _ := hid hrow6
    have HBW6 : Hid _ := hid hbW6
    clear hv6 hrow6 hbW6 hoff hb6
    refine wpAnyH_ready (rs := [7]) (by kernel_rfl) (by simp) ?_
    refine AllReadyH.cons rfl (fun K hK => ?_) AllReadyH.nil
    try simp only [zA, zB, zC]
    go_simp
    refine hK.out _ _ ?_ (fun hHeld => ?_)
    · exact ⟨box_alloc _ hHeld.1, box_alloc _ hHeld.2.1, box_alloc _ hHeld.2.2.1, box_alloc _ hHeld.2.2.2⟩
    clear hK K
    try simp only [zA, zB, zC, Act.put, zD, zE, zF]
    refine wpAnyH_ready (rs := [8]) (by kernel_rfl) (by simp) ?_
    refine AllReadyH.cons rfl (fun K hK => ?_) AllReadyH.nil
    try simp only [zA, zB, zC]
    rw [if_pos (by rfl)]; refine wp_append_lies _ (.tmp 10) (.tmp 17) 39 rfl w1.heap.size 9 i0 (.string ByteArray.empty) 1 16 Tryz.underlying39 hi hz0 hz1 hz2 rfl (by decide) v _ _ rfl (HRow6.out.alloc _) ⟨w6.heap.size, 0, none⟩ 1 1 [.string wd] rfl rfl (World.news_of_block (fr := (0, 0)) (heap_alloc_new w6 _)) (by simp [Value.oneCell']) (by omega) (by unfold maxLen; omega) (by omega) (by simp; omega) _ rfl ?_; intro g2 cap2 w7 hown hgrow hat hlt2
    refine hK.out _ _ ?_ (fun hHeld => ?_)
    · exact ⟨(hgrow.cell_far _ (by simp; omega) (by exact ogB)).trans hHeld.1, (hgrow.cell_far _ (by simp; omega) (by exact ogF)).trans hHeld.2.1, (hgrow.cell_far _ (by simp; omega) (by exact ogf)).trans hHeld.2.2.1, (hgrow.cell_far _ (by simp; omega) (by exact ogf)).trans hHeld.2.2.2⟩
    clear hK K
    try simp only [Act.put, zD, zE, zF]
    refine tkA 9 ?vv61 rfl ?hy61 hHeld ?_
    case hy61 => (intro w hSw; (try dsimp only at hSw); first | (go_simp; done) | (go_simp; with_reducible rfl))
    try simp only [zA, zB, zC, Act.put]
    refine wpAnyH_done (by kernel_rfl) ?_ _
    clear hHeld hat hlt2
    obtain ⟨hv1, hv2, hr2, hk2, hb2⟩ := HV6.out.appended (by decide) HRow6.out (by omega) (Nat.le_refl _) hown hgrow
    have hc1 := hv1.cell
    have hf1 := hv1.frozen
    have HEnd : Hid _ := hid (And.intro hv2 (And.intro hr2 (And.intro hk2 hb2)))
    clear hv1 hv2 hr2 hk2 hb2 hown hgrow
    show wpList _ _ _ _ _ _
    go_wp2
    refine ⟨(KeepsFrom.of_keeps (S := []) (Keeps.of_below HBW6.out []) (fun q h => by cases h)).trans (HEnd.out.2.2.1.from _), (HBW6.out.mono hszW).trans HEnd.out.2.2.2, ⟨_, HEnd.out.1, ?_, trivial⟩, (HB1.out.trans (HBW6.out.mono hszW)).trans HEnd.out.2.2.2⟩
    rw [HWD.out.1, HWD.out.2]
    exact HEnd.out.2.1

end Go.Proofs.YtjjggdcnpndgjaaGreatDoor
