import Derived.Test.YtjjggdcnpndgjaaDoorWgive3
import Derived.Test.YtjjggdcnpndgjaaDoorGram3
namespace Go.Proofs.YtjjggdcnpndgjaaDoor
open Go.RowKit

set_option linter.unusedSimpArgs false in
set_option maxHeartbeats 1000000 in
set_option maxRecDepth 100000 in
theorem give_rule (l : List ByteArray) (g n cap : Nat) (G : Gr) (w : World) (B gb : Nat) (vT vS vN vR : Value) (pv : List Value) (hV : GrV w B gb G vT vS vN vR pv)
    (hn1 : G.toks.length ≤ 100000) (hn2 : G.names.length ≤ 100000) (hn3 : G.rules.length ≤ 100000) (hB : B ≤ w.heap.size)
    (hl : l.length = n) (hn : 3 ≤ n) (hnb : n ≤ 4001) (hc : StrsAt w g 0 l) (ht0 : ((nth l 0).toList == [116, 111, 107, 101, 110]) = false) (ht1 : ((nth l 0).toList == [115, 119, 97, 112]) = false) (ht : ((nth l 0).toList == [114, 117, 108, 101]) = true)
    (hno : hasNam G.names (nth l 1) = false) (hgne : g ≠ gb) (hgN : vN.ownBlock ≠ some g) (hgR : vR.ownBlock ≠ some g) :
    Calls Tryd.prog 11 #[.pointer (some ⟨gb, 0, none⟩), .slice (some ⟨g, 0, none⟩) n cap] w fun e w' => 
      e = .returned (.int .i64 (totI { G with names := G.names ++ [nth l 1], rules := (rst G.rules (nth l 1) (l.drop 3)).1 ++ [(nth l 1, (rst G.rules (nth l 1) (l.drop 3)).2.1)] } (rst G.rules (nth l 1) (l.drop 3)).2.2)) ∧
        GrAt w' B gb { G with names := G.names ++ [nth l 1], rules := (rst G.rules (nth l 1) (l.drop 3)).1 ++ [(nth l 1, (rst G.rules (nth l 1) (l.drop 3)).2.1)] } ∧ Below B w w' := by
  obtain ⟨i0, hi, hz0, hz1, hz2⟩ := info_parts Tryd.info9
  obtain ⟨j0, hj, hy0, hy1, hy2⟩ := info_parts Tryd.info50
  have c0 : w.cell? ⟨g, 0, none⟩ = some (.string (nth l 0)) := by simpa using hc.2 0 (by omega)
  have c1 : w.cell? ⟨g, 1, none⟩ = some (.string (nth l 1)) := by simpa using hc.2 1 (by omega)
  have hG : GrAt w B gb G := ⟨_, _, _, _, _, hV⟩
  have d0 := hV.cells.2.2.1
  have hgl := hc.1
  have hbl := lt_of_block hV.blk
  have fT : some g ≠ vN.ownBlock := fun e => hgN e.symm
  have fB : some gb ≠ vN.ownBlock := fun e => hV.off.2.2.1 gb e.symm rfl
  have hfr0 : w.frozen? ⟨gb, 2, none⟩ = false := block_free hV.blk
  have hfo : ∀ o, (w.alloc o).frozen? ⟨gb, 2, none⟩ = false := fun o => (((Below.refl w.heap.size w).alloc (Nat.le_refl _) o).frozen (by exact lt_of_block hV.blk)).trans hfr0
  have hT := hV.names
  have hnI : (1 : Int) < (n : Int) := by omega
  go_enter Tryd.func11, Tryd.ntmps11
  go_wp2_with (go_at_call 19; refine (hasName_any _ G _ B gb ?_ ?_).mono ?_; assumption; omega; rintro e w' ⟨rfl, rfl⟩; rw [hno])
  refine wp_region_last (fun w' => w'.cell? ⟨g, 1, none⟩ = some (.string (nth l 1)) ∧ w'.cell? ⟨gb, 2, none⟩ = some vN) (by kernel_rfl) (by kernel_rfl) ?_ (fun hHeld => ?_)
  · go_keep
  simp only [cutLast, idle, lastOf]
  refine wpAnyH_take (i := 0) (v := ?vv37) rfl (by kernel_rfl) (by kernel_rfl) (by kernel_rfl) (fun _ _ _ h => h) (Or.inl ⟨by rfl, ?hy37⟩) hHeld ?_
  case hy37 => (intro w hSw; (try dsimp only at hSw); first | (go_simp; done) | (go_simp; with_reducible rfl))
  try simp only [List.getElem_toArray, List.getElem_cons_succ, List.getElem_cons_zero, Act.put, List.setIfInBounds_toArray, List.set_cons_zero, List.set_cons_succ]
  refine wpAnyH_take (i := 1) (v := ?vv38) rfl (by kernel_rfl) (by kernel_rfl) (by kernel_rfl) (fun _ _ _ h => h) (Or.inl ⟨by rfl, ?hy38⟩) hHeld ?_
  case hy38 => (intro w hSw; (try dsimp only at hSw); first | (go_simp; done) | (go_simp; with_reducible rfl))
  try simp only [List.getElem_toArray, List.getElem_cons_succ, List.getElem_cons_zero, Act.put, List.setIfInBounds_toArray, List.set_cons_zero, List.set_cons_succ]
  refine wpAnyH_take (i := 2) (v := ?vv39) rfl (by kernel_rfl) (by kernel_rfl) (by kernel_rfl) (fun _ _ _ h => h) (Or.inl ⟨by rfl, ?hy39⟩) hHeld ?_
  case hy39 => (intro w hSw; (try dsimp only at hSw); first | (go_simp; done) | (go_simp; with_reducible rfl))
  try simp only [List.getElem_toArray, List.getElem_cons_succ, List.getElem_cons_zero, Act.put, List.setIfInBounds_toArray, List.set_cons_zero, List.set_cons_succ]
  refine wpAnyH_take (i := 3) (v := ?vv40) rfl (by kernel_rfl) (by kernel_rfl) (by kernel_rfl) (fun _ _ _ h => h) (Or.inl ⟨by rfl, ?hy40⟩) hHeld ?_
  case hy40 => (intro w hSw; (try dsimp only at hSw); first | (go_simp; done) | (go_simp; with_reducible rfl))
  try simp only [List.getElem_toArray, List.getElem_cons_succ, List.getElem_cons_zero, Act.put, List.setIfInBounds_toArray, List.set_cons_zero, List.set_cons_succ]
  refine wpAnyH_take (i := 4) (v := ?vv41) rfl (by kernel_rfl) (by kernel_rfl) (by kernel_rfl) (fun _ _ _ h => h) (Or.inl ⟨by rfl, ?hy41⟩) hHeld ?_
  case hy41 => (intro w hSw; (try dsimp only at hSw); first | (go_simp; done) | (go_simp; with_reducible rfl))
  try simp only [List.getElem_toArray, List.getElem_cons_succ, List.getElem_cons_zero, Act.put, List.setIfInBounds_toArray, List.set_cons_zero, List.set_cons_succ]
  refine wpAnyH_take (i := 5) (v := ?vv42) rfl (by kernel_rfl) (by kernel_rfl) (by kernel_rfl) (fun _ _ _ h => h) (Or.inl ⟨by rfl, ?hy42⟩) hHeld ?_
  case hy42 => (intro w hSw; (try dsimp only at hSw); first | (go_simp; done) | (go_simp; with_reducible rfl))
  try simp only [List.getElem_toArray, List.getElem_cons_succ, List.getElem_cons_zero, Act.put, List.setIfInBounds_toArray, List.set_cons_zero, List.set_cons_succ]
  refine wpAnyH_take (i := 6) (v := ?vv43) rfl (by kernel_rfl) (by kernel_rfl) (by kernel_rfl) (fun _ _ _ h => h) (Or.inl ⟨by rfl, ?hy43⟩) hHeld ?_
  case hy43 => (intro w hSw; (try dsimp only at hSw); first | (go_simp; done) | (go_simp; with_reducible rfl))
  try simp only [List.getElem_toArray, List.getElem_cons_succ, List.getElem_cons_zero, Act.put, List.setIfInBounds_toArray, List.set_cons_zero, List.set_cons_succ]
  refine wpAnyH_take (i := 7) (v := ?vv44) rfl (by kernel_rfl) (by kernel_rfl) (by kernel_rfl) (fun _ _ _ h => h) (Or.inl ⟨by rfl, ?hy44⟩) hHeld ?_
  case hy44 => (intro w hSw; (try dsimp only at hSw); first | (go_simp; done) | (go_simp; with_reducible rfl))
  try simp only [List.getElem_toArray, List.getElem_cons_succ, List.getElem_cons_zero, Act.put, List.setIfInBounds_toArray, List.set_cons_zero, List.set_cons_succ]
  refine wpAnyH_ready (rs := [8]) (by kernel_rfl) (by simp) ?_
  refine AllReadyH.cons rfl (fun K hK => ?_) AllReadyH.nil
  try simp only [List.getElem_toArray, List.getElem_cons_succ, List.getElem_cons_zero]
  go_simp
  refine hK.out _ _ ?_ (fun hHeld => ?_)
  · go_keep
  clear hK K
  try simp only [List.getElem_toArray, List.getElem_cons_succ, List.getElem_cons_zero, Act.put, List.setIfInBounds_toArray, List.set_cons_zero, List.set_cons_succ]
  refine wpAnyH_ready (rs := [9]) (by kernel_rfl) (by simp) ?_
  refine AllReadyH.cons rfl (fun K hK => ?_) AllReadyH.nil
  try simp only [List.getElem_toArray, List.getElem_cons_succ, List.getElem_cons_zero]
  rw [if_pos (by rfl)]; refine wp_append_lies _ (.tmp 72) (.tmp 76) 33 rfl B 9 i0 (.string ByteArray.empty) 1 16 Tryd.underlying33 hi hz0 hz1 hz2 rfl (by decide) vN _ _ rfl (hT.alloc _) ⟨w.heap.size, 0, none⟩ 1 1 [.string (nth l 1)] rfl rfl (World.news_of_block (fr := (0, 0)) (heap_alloc_new w _)) (by simp [Value.oneCell']) (by omega) (by unfold maxLen; omega) (by omega) (by simp; omega) _ rfl ?_; intro g' cap' w1 hown hgrow hat hlt
  refine hK.out _ _ ?_ (fun hHeld => ?_)
  · exact ⟨(hgrow.cell_far _ (by simp; omega) (by exact fT)).trans hHeld.1, (hgrow.cell_far _ (by simp; omega) (by exact fB)).trans hHeld.2⟩
  clear hK K
  try simp only [List.getElem_toArray, List.getElem_cons_succ, List.getElem_cons_zero, Act.put, List.setIfInBounds_toArray, List.set_cons_zero, List.set_cons_succ]
  refine wpAnyH_take (i := 10) (v := ?vv45) rfl (by kernel_rfl) (by kernel_rfl) (by kernel_rfl) (fun _ _ _ h => h) (Or.inl ⟨by rfl, ?hy45⟩) hHeld ?_
  case hy45 => (intro w hSw; (try dsimp only at hSw); first | (go_simp; done) | (go_simp; with_reducible rfl))
  try simp only [List.getElem_toArray, List.getElem_cons_succ, List.getElem_cons_zero, Act.put, List.setIfInBounds_toArray, List.set_cons_zero, List.set_cons_succ]
  refine wpAnyH_take (i := 11) (v := ?vv46) rfl (by kernel_rfl) (by kernel_rfl) (by kernel_rfl) (fun _ _ _ h => h) (Or.inl ⟨by rfl, ?hy46⟩) hHeld ?_
  case hy46 => (intro w hSw; (try dsimp only at hSw); first | (go_simp; done) | (go_simp; with_reducible rfl))
  try simp only [List.getElem_toArray, List.getElem_cons_succ, List.getElem_cons_zero, Act.put, List.setIfInBounds_toArray, List.set_cons_zero, List.set_cons_succ]
  refine wpAnyH_take (i := 12) (v := ?vv47) rfl (by kernel_rfl) (by kernel_rfl) (by kernel_rfl) (fun _ _ _ h => h) (Or.inl ⟨by rfl, ?hy47⟩) hHeld ?_
  case hy47 => (intro w hSw; (try dsimp only at hSw); first | (go_simp; done) | (go_simp; with_reducible rfl))
  try simp only [List.getElem_toArray, List.getElem_cons_succ, List.getElem_cons_zero, Act.put, List.setIfInBounds_toArray, List.set_cons_zero, List.set_cons_succ]
  refine wpAnyH_done (by kernel_rfl) ?_ _
  have HS := hHeld.2
  have hfr : w1.frozen? ⟨gb, 2, none⟩ = false := (hgrow.frozen_far _ (by simp; omega) (by exact fB)).trans (by exact hfo _)
  show wpList _ _ _ _ _ _
  have c1' := hHeld.1
  have hkeep := ((Keeps.refl w vN.ownBlock.toList).alloc (Obj.cells #[.string (nth l 1)] 9)).drew.grown hgrow (fun k hk => .inl (by rw [hk]; simp))
  have hV2 := hV.addName (x := nth l 1) hkeep (by rcases hat with e | e; exact .inl e.symm; exact .inr ⟨g', rfl, by rw [e]; simp⟩) hown
  have hk2 := (hkeep.mono (fun k hm => show k ∈ gb :: vN.ownBlock.toList by simp only [List.mem_cons]; exact .inr hm)).setCell (p := ⟨gb, 2, none⟩) (by simp) (.slice (some ⟨g', 0, none⟩) (G.names.length + 1) cap')
  have hline := hc.keeps hk2 (by simp only [List.mem_cons, not_or]; exact ⟨hgne, fun hm => hgN (mem_own hm)⟩)
  have hR0 := RV.start (nth l 1) hV2 hline hgR (fun e => hgne e.symm) (by have := hk2.size; omega)
  have hbel : Below B w _ := (hk2.alloc (Obj.cells #[.string (nth l 1), .slice none 0 0] 50)).below hB (fun k hm => by
    simp only [List.mem_cons] at hm
    rcases hm with hm | hm
    · rw [hm]; exact hV.hb
    · exact own_ge hT k hm)
  have HR : Hid _ := hid hR0
  have HB : Hid _ := hid hbel
  have hrb : w1.heap.size = (w1.setCell ⟨gb, 2, none⟩ (.slice (some ⟨g', 0, none⟩) (G.names.length + 1) cap')).heap.size := by simp [World.setCell]
  have HE : Hid (w1.heap.size = (w1.setCell ⟨gb, 2, none⟩ (.slice (some ⟨g', 0, none⟩) (G.names.length + 1) cap')).heap.size) := hid hrb
  clear hR0 hbel hrb hline hk2 hV2 hkeep hown hgrow hat
  go_wp2
  obtain ⟨rb, hrb⟩ : ∃ rb, rb = w1.heap.size := ⟨_, rfl⟩
  rw [← hrb] at HE ⊢
  rw [← HE.out] at HR
  clear hrb
  go_loopw [5, 7] (fun e i wr => ∃ (k : Nat) (R : List (ByteArray × List ByteArray)) (cur : List ByteArray) (bad : Bool), 3 ≤ k ∧ k ≤ n ∧ i = .int .i64 k ∧ e = .int .i64 (errOf bad) ∧
      Hid (rst G.rules (nth l 1) ((l.take k).drop 3) = (R, cur, bad)) ∧ Hid (RInv wr B gb rb g { G with names := G.names ++ [nth l 1] } l (nth l 1) R cur) ∧ Hid (Below B w wr) ∧ R.length ≤ 100000 + k ∧ cur.length ≤ k)
    (fun _ i _ => n - (intOf i).toNat)
  case atStart => exact ⟨3, G.rules, [], false, Nat.le_refl _, by omega, rfl, rfl, by show _ = _; rw [show (l.take 3).drop 3 = [] by simp]; rfl, ⟨_, _, _, _, _, _, HR.out⟩, HB.out, by omega, by simp⟩
  case round =>
    obtain ⟨k, R, cur, bad, hk3, hk, rfl, rfl, hst, hR, hbr, hRl, hcl⟩ := hrel
    clear HR HB HE hV hG hc hT c0 c1 c1' d0 hHeld HS hfr hfr0 hfo hbl hgl
    obtain ⟨aT, aS, aN, aR, pw, vP, hV⟩ := hR.out
    have hsz := hbr.out.size
    by_cases hlt : k < n
    · have ck : wr.cell? ⟨g, k, none⟩ = some (.string (nth l k)) := by simpa using hV.line.2 k (by omega)
      have c1 : wr.cell? ⟨g, 1, none⟩ = some (.string (nth l 1)) := by simpa using hV.line.2 1 (by omega)
      have cR : wr.cell? ⟨gb, 3, none⟩ = some aR := hV.gr.cells.2.2.2
      have cr0 : wr.cell? ⟨rb, 0, none⟩ = some (.string (nth l 1)) := by simpa using block_cell hV.blk (j := 0)
      have cr1 : wr.cell? ⟨rb, 1, none⟩ = some vP := by simpa using block_cell hV.blk (j := 1)
      have f3 : wr.frozen? ⟨gb, 3, none⟩ = false := block_free hV.gr.blk
      have fr1 : wr.frozen? ⟨rb, 1, none⟩ = false := block_free hV.blk
      have fr0 : wr.frozen? ⟨rb, 0, none⟩ = false := block_free hV.blk
      obtain ⟨x, hx⟩ : ∃ x, x = nth l k := ⟨_, rfl⟩
      rw [← hx] at ck
      have HX : Hid (x = nth l k) := hx
      have HN : Hid (rst G.rules (nth l 1) ((l.take (k + 1)).drop 3) = rstep (nth l 1) (R, cur, bad) x) := hid (by rw [rst_next hk3 (by omega), hst.out, hx])
      clear hx
      obtain ⟨aP, kP, hvP⟩ := own_slice hV.part.1
      have hkI : ((k : Nat) : Int) < (n : Int) := by omega
      have hgl := hV.line.1
      have hrl := lt_of_block hV.blk
      have hbl := lt_of_block hV.gr.blk
      have hBw : B ≤ wr.heap.size := by omega
      have pg : some g ≠ vP.ownBlock := fun e => hV.pg e.symm
      have pr : some rb ≠ vP.ownBlock := fun e => hV.rows.2.2.2.2.2 rb e.symm rfl
      have rg : some g ≠ aR.ownBlock := fun e => hV.rg e.symm
      have rr : some rb ≠ aR.ownBlock := fun e => hV.vr e.symm
      have rgb : some gb ≠ aR.ownBlock := fun e => hV.gr.off.2.2.2 gb e.symm rfl
      have Hbr := hbr
      have hP := hV.part.1
      have hRR : wr.ownsRow B 50 2 aR R.length (ruleCells R pw) := hV.gr.rules
      have HV : Hid _ := hid hV
      subst hvP
      cases hbar : (x.toList == [124])
      · have hstep : rstep (nth l 1) (R, cur, bad) x = (R, cur ++ [x], bad || decide (8 < cur.length + 1)) := by unfold rstep barB; rw [hbar]; rfl
        have HN2 : Hid _ := hid (HN.out.trans hstep)
        clear HN hstep
        go_wp2
        refine wp_region_last (fun w' => w'.cell? ⟨rb, 1, none⟩ = some (.slice aP cur.length kP) ∧ w'.cell? ⟨g, k, none⟩ = some (.string x)) (by kernel_rfl) (by kernel_rfl) ?_ (fun hHeld => ?_)
        · go_keep
        simp only [cutLast, idle, lastOf]
        refine wpAnyH_take (i := 0) (v := ?vv48) rfl (by kernel_rfl) (by kernel_rfl) (by kernel_rfl) (fun _ _ _ h => h) (Or.inl ⟨by rfl, ?hy48⟩) hHeld ?_
        case hy48 => (intro w hSw; (try dsimp only at hSw); first | (go_simp; done) | (go_simp; with_reducible rfl))
        try simp only [List.getElem_toArray, List.getElem_cons_succ, List.getElem_cons_zero, Act.put, List.setIfInBounds_toArray, List.set_cons_zero, List.set_cons_succ]
        refine wpAnyH_take (i := 1) (v := ?vv49) rfl (by kernel_rfl) (by kernel_rfl) (by kernel_rfl) (fun _ _ _ h => h) (Or.inl ⟨by rfl, ?hy49⟩) hHeld ?_
        case hy49 => (intro w hSw; (try dsimp only at hSw); first | (go_simp; done) | (go_simp; with_reducible rfl))
        try simp only [List.getElem_toArray, List.getElem_cons_succ, List.getElem_cons_zero, Act.put, List.setIfInBounds_toArray, List.set_cons_zero, List.set_cons_succ]
        refine wpAnyH_take (i := 2) (v := ?vv50) rfl (by kernel_rfl) (by kernel_rfl) (by kernel_rfl) (fun _ _ _ h => h) (Or.inl ⟨by rfl, ?hy50⟩) hHeld ?_
        case hy50 => (intro w hSw; (try dsimp only at hSw); first | (go_simp; done) | (go_simp; with_reducible rfl))
        try simp only [List.getElem_toArray, List.getElem_cons_succ, List.getElem_cons_zero, Act.put, List.setIfInBounds_toArray, List.set_cons_zero, List.set_cons_succ]
        refine wpAnyH_take (i := 3) (v := ?vv51) rfl (by kernel_rfl) (by kernel_rfl) (by kernel_rfl) (fun _ _ _ h => h) (Or.inl ⟨by rfl, ?hy51⟩) hHeld ?_
        case hy51 => (intro w hSw; (try dsimp only at hSw); first | (go_simp; done) | (go_simp; with_reducible rfl))
        try simp only [List.getElem_toArray, List.getElem_cons_succ, List.getElem_cons_zero, Act.put, List.setIfInBounds_toArray, List.set_cons_zero, List.set_cons_succ]
        refine wpAnyH_take (i := 4) (v := ?vv52) rfl (by kernel_rfl) (by kernel_rfl) (by kernel_rfl) (fun _ _ _ h => h) (Or.inl ⟨by rfl, ?hy52⟩) hHeld ?_
        case hy52 => (intro w hSw; (try dsimp only at hSw); first | (go_simp; done) | (go_simp; with_reducible rfl))
        try simp only [List.getElem_toArray, List.getElem_cons_succ, List.getElem_cons_zero, Act.put, List.setIfInBounds_toArray, List.set_cons_zero, List.set_cons_succ]
        refine wpAnyH_take (i := 5) (v := ?vv53) rfl (by kernel_rfl) (by kernel_rfl) (by kernel_rfl) (fun _ _ _ h => h) (Or.inl ⟨by rfl, ?hy53⟩) hHeld ?_
        case hy53 => (intro w hSw; (try dsimp only at hSw); first | (go_simp; done) | (go_simp; with_reducible rfl))
        try simp only [List.getElem_toArray, List.getElem_cons_succ, List.getElem_cons_zero, Act.put, List.setIfInBounds_toArray, List.set_cons_zero, List.set_cons_succ]
        refine wpAnyH_ready (rs := [6]) (by kernel_rfl) (by simp) ?_
        refine AllReadyH.cons rfl (fun K hK => ?_) AllReadyH.nil
        try simp only [List.getElem_toArray, List.getElem_cons_succ, List.getElem_cons_zero]
        go_simp
        refine hK.out _ _ ?_ (fun hHeld => ?_)
        · go_keep
        clear hK K
        try simp only [List.getElem_toArray, List.getElem_cons_succ, List.getElem_cons_zero, Act.put, List.setIfInBounds_toArray, List.set_cons_zero, List.set_cons_succ]
        refine wpAnyH_ready (rs := [7]) (by kernel_rfl) (by simp) ?_
        refine AllReadyH.cons rfl (fun K hK => ?_) AllReadyH.nil
        try simp only [List.getElem_toArray, List.getElem_cons_succ, List.getElem_cons_zero]
        rw [if_pos (by rfl)]; refine wp_append_lies _ (.tmp 110) (.tmp 115) 33 rfl B 9 i0 (.string ByteArray.empty) 1 16 Tryd.underlying33 hi hz0 hz1 hz2 rfl (by decide) (.slice aP cur.length kP) _ _ rfl (hP.alloc _) ⟨wr.heap.size, 0, none⟩ 1 1 [.string x] rfl rfl (World.news_of_block (fr := (0, 0)) (heap_alloc_new wr _)) (by simp [Value.oneCell']) (by omega) (by unfold maxLen; omega) (by omega) (by simp; omega) _ rfl ?_; intro g2 cap2 w2 hown hgrow hat hlt2
        refine hK.out _ _ ?_ (fun hHeld => ?_)
        · exact ⟨(hgrow.cell_far _ (by simp; omega) (by exact pr)).trans hHeld.1, (hgrow.cell_far _ (by simp; omega) (by exact pg)).trans hHeld.2⟩
        clear hK K
        try simp only [List.getElem_toArray, List.getElem_cons_succ, List.getElem_cons_zero, Act.put, List.setIfInBounds_toArray, List.set_cons_zero, List.set_cons_succ]
        refine wpAnyH_take (i := 8) (v := ?vv54) rfl (by kernel_rfl) (by kernel_rfl) (by kernel_rfl) (fun _ _ _ h => h) (Or.inl ⟨by rfl, ?hy54⟩) hHeld ?_
        case hy54 => (intro w hSw; (try dsimp only at hSw); first | (go_simp; done) | (go_simp; with_reducible rfl))
        try simp only [List.getElem_toArray, List.getElem_cons_succ, List.getElem_cons_zero, Act.put, List.setIfInBounds_toArray, List.set_cons_zero, List.set_cons_succ]
        refine wpAnyH_take (i := 9) (v := ?vv55) rfl (by kernel_rfl) (by kernel_rfl) (by kernel_rfl) (fun _ _ _ h => h) (Or.inl ⟨by rfl, ?hy55⟩) hHeld ?_
        case hy55 => (intro w hSw; (try dsimp only at hSw); first | (go_simp; done) | (go_simp; with_reducible rfl))
        try simp only [List.getElem_toArray, List.getElem_cons_succ, List.getElem_cons_zero, Act.put, List.setIfInBounds_toArray, List.set_cons_zero, List.set_cons_succ]
        refine wpAnyH_done (by kernel_rfl) ?_ _
        have HS := hHeld.1
        have hfr : w2.frozen? ⟨rb, 1, none⟩ = false := (hgrow.frozen_far _ (by simp; omega) (by exact pr)).trans ((((Below.refl wr.heap.size wr).alloc (Nat.le_refl _) _).drew.frozen (by exact hrl)).trans fr1)
        show wpList _ _ _ _ _ _
        have hkeep := ((Keeps.refl wr (Value.slice aP cur.length kP).ownBlock.toList).alloc (Obj.cells #[.string x] 9)).drew.grown hgrow (fun k hk => .inl (by rw [hk]; simp))
        have hend := HV.out.add (x := x) hkeep rfl (by rcases hat with e | e; exact .inl e; exact .inr (by rw [e]; simp)) hown
        have hbel := Hbr.out.trans ((hkeep.below hBw (own_ge hP)).setCell (p := ⟨rb, 1, none⟩) (by exact HV.out.hb) (.slice (some ⟨g2, 0, none⟩) (cur.length + 1) cap2))
        have HE2 : Hid _ := hid hend
        have HB2 : Hid _ := hid hbel
        clear hend hbel hkeep hown hgrow hat hHeld hbr hV hP hRR
        go_wp2
        · go_roundw
          case rel => exact ⟨k + 1, R, cur ++ [x], bad || decide (8 < cur.length + 1), by omega, by omega, by go_num, by rw [show (bad || decide (8 < cur.length + 1)) = true by rw [decide_eq_true (by omega)]; simp]; rfl, HN2, ⟨_, _, _, _, _, _, HE2.out⟩, HB2.out, by omega, by simp; omega⟩
          case measure => simp [intOf]; omega
        · go_roundw
          case rel => exact ⟨k + 1, R, cur ++ [x], bad || decide (8 < cur.length + 1), by omega, by omega, by go_num, by rw [show (bad || decide (8 < cur.length + 1)) = bad by rw [decide_eq_false (by omega)]; simp], HN2, ⟨_, _, _, _, _, _, HE2.out⟩, HB2.out, by omega, by simp; omega⟩
          case measure => simp [intOf]; omega
      · have hstep : rstep (nth l 1) (R, cur, bad) x = (R ++ [(nth l 1, cur)], [], bad) := by unfold rstep barB; rw [hbar]; rfl
        have HN2 : Hid _ := hid (HN.out.trans hstep)
        clear HN hstep
        go_wp2
        refine wp_region_last (fun w' => w'.cell? ⟨gb, 3, none⟩ = some aR ∧ w'.cell? ⟨rb, 0, none⟩ = some (.string (nth l 1)) ∧ w'.cell? ⟨rb, 1, none⟩ = some (.slice aP cur.length kP) ∧ w'.cell? ⟨g, 1, none⟩ = some (.string (nth l 1))) (by kernel_rfl) (by kernel_rfl) ?_ (fun hHeld => ?_)
        · go_keep
        simp only [cutLast, idle, lastOf]
        refine wpAnyH_take (i := 0) (v := ?vv56) rfl (by kernel_rfl) (by kernel_rfl) (by kernel_rfl) (fun _ _ _ h => h) (Or.inl ⟨by rfl, ?hy56⟩) hHeld ?_
        case hy56 => (intro w hSw; (try dsimp only at hSw); first | (go_simp; done) | (go_simp; with_reducible rfl))
        try simp only [List.getElem_toArray, List.getElem_cons_succ, List.getElem_cons_zero, Act.put, List.setIfInBounds_toArray, List.set_cons_zero, List.set_cons_succ]
        refine wpAnyH_take (i := 1) (v := ?vv57) rfl (by kernel_rfl) (by kernel_rfl) (by kernel_rfl) (fun _ _ _ h => h) (Or.inl ⟨by rfl, ?hy57⟩) hHeld ?_
        case hy57 => (intro w hSw; (try dsimp only at hSw); first | (go_simp; done) | (go_simp; with_reducible rfl))
        try simp only [List.getElem_toArray, List.getElem_cons_succ, List.getElem_cons_zero, Act.put, List.setIfInBounds_toArray, List.set_cons_zero, List.set_cons_succ]
        refine wpAnyH_take (i := 2) (v := ?vv58) rfl (by kernel_rfl) (by kernel_rfl) (by kernel_rfl) (fun _ _ _ h => h) (Or.inl ⟨by rfl, ?hy58⟩) hHeld ?_
        case hy58 => (intro w hSw; (try dsimp only at hSw); first | (go_simp; done) | (go_simp; with_reducible rfl))
        try simp only [List.getElem_toArray, List.getElem_cons_succ, List.getElem_cons_zero, Act.put, List.setIfInBounds_toArray, List.set_cons_zero, List.set_cons_succ]
        refine wpAnyH_take (i := 3) (v := ?vv59) rfl (by kernel_rfl) (by kernel_rfl) (by kernel_rfl) (fun _ _ _ h => h) (Or.inl ⟨by rfl, ?hy59⟩) hHeld ?_
        case hy59 => (intro w hSw; (try dsimp only at hSw); first | (go_simp; done) | (go_simp; with_reducible rfl))
        try simp only [List.getElem_toArray, List.getElem_cons_succ, List.getElem_cons_zero, Act.put, List.setIfInBounds_toArray, List.set_cons_zero, List.set_cons_succ]
        refine wpAnyH_take (i := 4) (v := ?vv60) rfl (by kernel_rfl) (by kernel_rfl) (by kernel_rfl) (fun _ _ _ h => h) (Or.inl ⟨by rfl, ?hy60⟩) hHeld ?_
        case hy60 => (intro w hSw; (try dsimp only at hSw); first | (go_simp; done) | (go_simp; with_reducible rfl))
        try simp only [List.getElem_toArray, List.getElem_cons_succ, List.getElem_cons_zero, Act.put, List.setIfInBounds_toArray, List.set_cons_zero, List.set_cons_succ]
        refine wpAnyH_take (i := 5) (v := ?vv61) rfl (by kernel_rfl) (by kernel_rfl) (by kernel_rfl) (fun _ _ _ h => h) (Or.inl ⟨by rfl, ?hy61⟩) hHeld ?_
        case hy61 => (intro w hSw; (try dsimp only at hSw); first | (go_simp; done) | (go_simp; with_reducible rfl))
        try simp only [List.getElem_toArray, List.getElem_cons_succ, List.getElem_cons_zero, Act.put, List.setIfInBounds_toArray, List.set_cons_zero, List.set_cons_succ]
        refine wpAnyH_ready (rs := [6]) (by kernel_rfl) (by simp) ?_
        refine AllReadyH.cons rfl (fun K hK => ?_) AllReadyH.nil
        try simp only [List.getElem_toArray, List.getElem_cons_succ, List.getElem_cons_zero]
        go_simp
        refine hK.out _ _ ?_ (fun hHeld => ?_)
        · go_keep
        clear hK K
        try simp only [List.getElem_toArray, List.getElem_cons_succ, List.getElem_cons_zero, Act.put, List.setIfInBounds_toArray, List.set_cons_zero, List.set_cons_succ]
        refine wpAnyH_ready (rs := [7]) (by kernel_rfl) (by simp) ?_
        refine AllReadyH.cons rfl (fun K hK => ?_) AllReadyH.nil
        try simp only [List.getElem_toArray, List.getElem_cons_succ, List.getElem_cons_zero]
        rw [if_pos (by rfl)]; refine wp_append_lies _ (.tmp 99) (.tmp 101) 37 rfl B 50 j0 (.agg #[.string ByteArray.empty, .slice none 0 0]) 2 40 Tryd.underlying37 hj hy0 hy1 hy2 rfl (by decide) aR _ _ rfl (hRR.alloc _) ⟨wr.heap.size, 0, none⟩ 1 1 [.string (nth l 1), .slice aP cur.length kP] rfl rfl (World.news_of_block (fr := (0, 0)) (heap_alloc_new wr _)) (by simp [Value.oneCell']) (by omega) (by unfold maxLen; omega) (by omega) (by simp; omega) _ rfl ?_; intro g2 cap2 w2 hown hgrow hat hlt2
        refine hK.out _ _ ?_ (fun hHeld => ?_)
        · exact ⟨(hgrow.cell_far _ (by simp; omega) (by exact rgb)).trans hHeld.1, (hgrow.cell_far _ (by simp; omega) (by exact rr)).trans hHeld.2.1, (hgrow.cell_far _ (by simp; omega) (by exact rr)).trans hHeld.2.2.1, (hgrow.cell_far _ (by simp; omega) (by exact rg)).trans hHeld.2.2.2⟩
        clear hK K
        try simp only [List.getElem_toArray, List.getElem_cons_succ, List.getElem_cons_zero, Act.put, List.setIfInBounds_toArray, List.set_cons_zero, List.set_cons_succ]
        refine wpAnyH_take (i := 8) (v := ?vv62) rfl (by kernel_rfl) (by kernel_rfl) (by kernel_rfl) (fun _ _ _ h => h) (Or.inl ⟨by rfl, ?hy62⟩) hHeld ?_
        case hy62 => (intro w hSw; (try dsimp only at hSw); first | (go_simp; done) | (go_simp; with_reducible rfl))
        try simp only [List.getElem_toArray, List.getElem_cons_succ, List.getElem_cons_zero, Act.put, List.setIfInBounds_toArray, List.set_cons_zero, List.set_cons_succ]
        refine wpAnyH_take (i := 9) (v := ?vv63) rfl (by kernel_rfl) (by kernel_rfl) (by kernel_rfl) (fun _ _ _ h => h) (Or.inl ⟨by rfl, ?hy63⟩) hHeld ?_
        case hy63 => (intro w hSw; (try dsimp only at hSw); first | (go_simp; done) | (go_simp; with_reducible rfl))
        try simp only [List.getElem_toArray, List.getElem_cons_succ, List.getElem_cons_zero, Act.put, List.setIfInBounds_toArray, List.set_cons_zero, List.set_cons_succ]
        refine wpAnyH_take (i := 10) (v := ?vv64) rfl (by kernel_rfl) (by kernel_rfl) (by kernel_rfl) (fun _ _ _ h => h) (Or.inl ⟨by rfl, ?hy64⟩) hHeld ?_
        case hy64 => (intro w hSw; (try dsimp only at hSw); first | (go_simp; done) | (go_simp; with_reducible rfl))
        try simp only [List.getElem_toArray, List.getElem_cons_succ, List.getElem_cons_zero, Act.put, List.setIfInBounds_toArray, List.set_cons_zero, List.set_cons_succ]
        refine wpAnyH_done (by kernel_rfl) ?_ _
        obtain ⟨q3, q0, q1, qg⟩ := hHeld
        have hfr : w2.frozen? ⟨gb, 3, none⟩ = false := (hgrow.frozen_far _ (by simp; omega) (by exact rgb)).trans ((((Below.refl wr.heap.size wr).alloc (Nat.le_refl _) _).drew.frozen (by exact hbl)).trans f3)
        have hfr1 : w2.frozen? ⟨rb, 1, none⟩ = false := (hgrow.frozen_far _ (by simp; omega) (by exact rr)).trans ((((Below.refl wr.heap.size wr).alloc (Nat.le_refl _) _).drew.frozen (by exact hrl)).trans fr1)
        have hfr2 : w2.frozen? ⟨rb, 0, none⟩ = false := (hgrow.frozen_far _ (by simp; omega) (by exact rr)).trans ((((Below.refl wr.heap.size wr).alloc (Nat.le_refl _) _).drew.frozen (by exact hrl)).trans fr0)
        show wpList _ _ _ _ _ _
        have ngr : gb ≠ rb := HV.out.rows.1
        have ngr' : rb ≠ gb := fun e => ngr e.symm
        have ngg : g ≠ gb := fun e => HV.out.gbg e.symm
        have hkeep := ((Keeps.refl wr aR.ownBlock.toList).alloc (Obj.cells #[.string (nth l 1), .slice aP cur.length kP] 50)).drew.grown hgrow (fun k hk => .inl (by rw [hk]; simp))
        have hend := HV.out.bar hkeep rfl (by rcases hat with e | e; exact .inl e; exact .inr (by rw [e]; simp)) hown
        have hbel := Hbr.out.trans ((((hkeep.below hBw (own_ge hRR)).setCell (p := ⟨gb, 3, none⟩) (by exact HV.out.gr.hb) (.slice (some ⟨g2, 0, none⟩) (R.length + 1) cap2)).setCell (p := ⟨rb, 0, none⟩) (by exact HV.out.hb) (.string (nth l 1))).setCell (p := ⟨rb, 1, none⟩) (by exact HV.out.hb) (.slice none 0 0))
        have HE2 : Hid _ := hid hend
        have HB2 : Hid _ := hid hbel
        clear hend hbel hkeep hown hgrow hat hbr hV hP hRR
        go_wp2
        go_roundw
        case rel => exact ⟨k + 1, R ++ [(nth l 1, cur)], [], bad, by omega, by omega, by go_num, rfl, HN2, ⟨_, _, _, _, _, _, HE2.out⟩, HB2.out, by simp; omega, by simp⟩
        case measure => simp [intOf]; omega
    · have hfin : rst G.rules (nth l 1) (l.drop 3) = (R, cur, bad) := by
        rw [← hst.out, List.take_of_length_le (by omega)]
      have HF : Hid (rst G.rules (nth l 1) (l.drop 3) = (R, cur, bad)) := hid hfin
      have cR : wr.cell? ⟨gb, 3, none⟩ = some aR := hV.gr.cells.2.2.2
      have cr0 : wr.cell? ⟨rb, 0, none⟩ = some (.string (nth l 1)) := by simpa using block_cell hV.blk (j := 0)
      have cr1 : wr.cell? ⟨rb, 1, none⟩ = some vP := by simpa using block_cell hV.blk (j := 1)
      have f3 : wr.frozen? ⟨gb, 3, none⟩ = false := block_free hV.gr.blk
      obtain ⟨aP, kP, hvP⟩ := own_slice hV.part.1
      obtain ⟨bT, kT, hvT⟩ := own_slice hV.gr.toks
      obtain ⟨bN, kN, hvN⟩ := own_slice hV.gr.names
      have hrl := lt_of_block hV.blk
      have hbl := lt_of_block hV.gr.blk
      have hBw : B ≤ wr.heap.size := by omega
      have rr : some rb ≠ aR.ownBlock := fun e => hV.vr e.symm
      have rgb : some gb ≠ aR.ownBlock := fun e => hV.gr.off.2.2.2 gb e.symm rfl
      have Hbr := hbr
      have hRR : wr.ownsRow B 50 2 aR R.length (ruleCells R pw) := hV.gr.rules
      have HV : Hid _ := hid hV
      subst hvP
      subst hvT
      subst hvN
      clear hfin
      go_wp2
      refine wp_region_last (fun w' => w'.cell? ⟨gb, 3, none⟩ = some aR ∧ w'.cell? ⟨rb, 0, none⟩ = some (.string (nth l 1)) ∧ w'.cell? ⟨rb, 1, none⟩ = some (.slice aP cur.length kP)) (by kernel_rfl) (by kernel_rfl) ?_ (fun hHeld => ?_)
      · go_keep
      simp only [cutLast, idle, lastOf]
      refine wpAnyH_take (i := 0) (v := ?vv65) rfl (by kernel_rfl) (by kernel_rfl) (by kernel_rfl) (fun _ _ _ h => h) (Or.inl ⟨by rfl, ?hy65⟩) hHeld ?_
      case hy65 => (intro w hSw; (try dsimp only at hSw); first | (go_simp; done) | (go_simp; with_reducible rfl))
      try simp only [List.getElem_toArray, List.getElem_cons_succ, List.getElem_cons_zero, Act.put, List.setIfInBounds_toArray, List.set_cons_zero, List.set_cons_succ]
      refine wpAnyH_take (i := 1) (v := ?vv66) rfl (by kernel_rfl) (by kernel_rfl) (by kernel_rfl) (fun _ _ _ h => h) (Or.inl ⟨by rfl, ?hy66⟩) hHeld ?_
      case hy66 => (intro w hSw; (try dsimp only at hSw); first | (go_simp; done) | (go_simp; with_reducible rfl))
      try simp only [List.getElem_toArray, List.getElem_cons_succ, List.getElem_cons_zero, Act.put, List.setIfInBounds_toArray, List.set_cons_zero, List.set_cons_succ]
      refine wpAnyH_take (i := 2) (v := ?vv67) rfl (by kernel_rfl) (by kernel_rfl) (by kernel_rfl) (fun _ _ _ h => h) (Or.inl ⟨by rfl, ?hy67⟩) hHeld ?_
      case hy67 => (intro w hSw; (try dsimp only at hSw); first | (go_simp; done) | (go_simp; with_reducible rfl))
      try simp only [List.getElem_toArray, List.getElem_cons_succ, List.getElem_cons_zero, Act.put, List.setIfInBounds_toArray, List.set_cons_zero, List.set_cons_succ]
      refine wpAnyH_take (i := 3) (v := ?vv68) rfl (by kernel_rfl) (by kernel_rfl) (by kernel_rfl) (fun _ _ _ h => h) (Or.inl ⟨by rfl, ?hy68⟩) hHeld ?_
      case hy68 => (intro w hSw; (try dsimp only at hSw); first | (go_simp; done) | (go_simp; with_reducible rfl))
      try simp only [List.getElem_toArray, List.getElem_cons_succ, List.getElem_cons_zero, Act.put, List.setIfInBounds_toArray, List.set_cons_zero, List.set_cons_succ]
      refine wpAnyH_take (i := 4) (v := ?vv69) rfl (by kernel_rfl) (by kernel_rfl) (by kernel_rfl) (fun _ _ _ h => h) (Or.inl ⟨by rfl, ?hy69⟩) hHeld ?_
      case hy69 => (intro w hSw; (try dsimp only at hSw); first | (go_simp; done) | (go_simp; with_reducible rfl))
      try simp only [List.getElem_toArray, List.getElem_cons_succ, List.getElem_cons_zero, Act.put, List.setIfInBounds_toArray, List.set_cons_zero, List.set_cons_succ]
      refine wpAnyH_take (i := 5) (v := ?vv70) rfl (by kernel_rfl) (by kernel_rfl) (by kernel_rfl) (fun _ _ _ h => h) (Or.inl ⟨by rfl, ?hy70⟩) hHeld ?_
      case hy70 => (intro w hSw; (try dsimp only at hSw); first | (go_simp; done) | (go_simp; with_reducible rfl))
      try simp only [List.getElem_toArray, List.getElem_cons_succ, List.getElem_cons_zero, Act.put, List.setIfInBounds_toArray, List.set_cons_zero, List.set_cons_succ]
      refine wpAnyH_ready (rs := [6]) (by kernel_rfl) (by simp) ?_
      refine AllReadyH.cons rfl (fun K hK => ?_) AllReadyH.nil
      try simp only [List.getElem_toArray, List.getElem_cons_succ, List.getElem_cons_zero]
      go_simp
      refine hK.out _ _ ?_ (fun hHeld => ?_)
      · go_keep
      clear hK K
      try simp only [List.getElem_toArray, List.getElem_cons_succ, List.getElem_cons_zero, Act.put, List.setIfInBounds_toArray, List.set_cons_zero, List.set_cons_succ]
      refine wpAnyH_ready (rs := [7]) (by kernel_rfl) (by simp) ?_
      refine AllReadyH.cons rfl (fun K hK => ?_) AllReadyH.nil
      try simp only [List.getElem_toArray, List.getElem_cons_succ, List.getElem_cons_zero]
      rw [if_pos (by rfl)]; refine wp_append_lies _ (.tmp 126) (.tmp 128) 37 rfl B 50 j0 (.agg #[.string ByteArray.empty, .slice none 0 0]) 2 40 Tryd.underlying37 hj hy0 hy1 hy2 rfl (by decide) aR _ _ rfl (hRR.alloc _) ⟨wr.heap.size, 0, none⟩ 1 1 [.string (nth l 1), .slice aP cur.length kP] rfl rfl (World.news_of_block (fr := (0, 0)) (heap_alloc_new wr _)) (by simp [Value.oneCell']) (by omega) (by unfold maxLen; omega) (by omega) (by simp; omega) _ rfl ?_; intro g2 cap2 w2 hown hgrow hat hlt2
      refine hK.out _ _ ?_ (fun hHeld => ?_)
      · exact ⟨(hgrow.cell_far _ (by simp; omega) (by exact rgb)).trans hHeld.1, (hgrow.cell_far _ (by simp; omega) (by exact rr)).trans hHeld.2.1, (hgrow.cell_far _ (by simp; omega) (by exact rr)).trans hHeld.2.2⟩
      clear hK K
      try simp only [List.getElem_toArray, List.getElem_cons_succ, List.getElem_cons_zero, Act.put, List.setIfInBounds_toArray, List.set_cons_zero, List.set_cons_succ]
      refine wpAnyH_take (i := 8) (v := ?vv71) rfl (by kernel_rfl) (by kernel_rfl) (by kernel_rfl) (fun _ _ _ h => h) (Or.inl ⟨by rfl, ?hy71⟩) hHeld ?_
      case hy71 => (intro w hSw; (try dsimp only at hSw); first | (go_simp; done) | (go_simp; with_reducible rfl))
      try simp only [List.getElem_toArray, List.getElem_cons_succ, List.getElem_cons_zero, Act.put, List.setIfInBounds_toArray, List.set_cons_zero, List.set_cons_succ]
      refine wpAnyH_take (i := 9) (v := ?vv72) rfl (by kernel_rfl) (by kernel_rfl) (by kernel_rfl) (fun _ _ _ h => h) (Or.inl ⟨by rfl, ?hy72⟩) hHeld ?_
      case hy72 => (intro w hSw; (try dsimp only at hSw); first | (go_simp; done) | (go_simp; with_reducible rfl))
      try simp only [List.getElem_toArray, List.getElem_cons_succ, List.getElem_cons_zero, Act.put, List.setIfInBounds_toArray, List.set_cons_zero, List.set_cons_succ]
      refine wpAnyH_take (i := 10) (v := ?vv73) rfl (by kernel_rfl) (by kernel_rfl) (by kernel_rfl) (fun _ _ _ h => h) (Or.inl ⟨by rfl, ?hy73⟩) hHeld ?_
      case hy73 => (intro w hSw; (try dsimp only at hSw); first | (go_simp; done) | (go_simp; with_reducible rfl))
      try simp only [List.getElem_toArray, List.getElem_cons_succ, List.getElem_cons_zero, Act.put, List.setIfInBounds_toArray, List.set_cons_zero, List.set_cons_succ]
      refine wpAnyH_done (by kernel_rfl) ?_ _
      obtain ⟨q3, q0, q1⟩ := hHeld
      have hfr : w2.frozen? ⟨gb, 3, none⟩ = false := (hgrow.frozen_far _ (by simp; omega) (by exact rgb)).trans ((((Below.refl wr.heap.size wr).alloc (Nat.le_refl _) _).drew.frozen (by exact hbl)).trans f3)
      have k0 : w2.cell? ⟨gb, 0, none⟩ = some (.slice bT G.toks.length kT) := (hgrow.cell_far _ (by simp; omega) (by exact rgb)).trans (cell_later ((Below.refl _ _).alloc (Nat.le_refl _) _).drew HV.out.gr.cells.1)
      have k2 : w2.cell? ⟨gb, 2, none⟩ = some (.slice bN (G.names ++ [nth l 1]).length kN) := (hgrow.cell_far _ (by simp; omega) (by exact rgb)).trans (cell_later ((Below.refl _ _).alloc (Nat.le_refl _) _).drew HV.out.gr.cells.2.2.1)
      show wpList _ _ _ _ _ _
      have hkeep := ((Keeps.refl wr aR.ownBlock.toList).alloc (Obj.cells #[.string (nth l 1), .slice aP cur.length kP] 50)).drew.grown hgrow (fun k hk => .inl (by rw [hk]; simp))
      have hend := HV.out.gr.addRule (r := (nth l 1, cur)) hkeep HV.out.part hown
      have hbel := Hbr.out.trans ((hkeep.below hBw (own_ge hRR)).setCell (p := ⟨gb, 3, none⟩) (by exact HV.out.gr.hb) (.slice (some ⟨g2, 0, none⟩) (R.length + 1) cap2))
      have HE2 : Hid _ := hid hend
      have HB2 : Hid _ := hid hbel
      have hnl : (G.names ++ [nth l 1]).length = G.names.length + 1 := by simp
      rw [hnl] at k2
      clear hend hbel hkeep hown hgrow hat hbr hV hRR hnl
      go_wp2
      all_goals
        go_ret
        rw [HF.out]
        refine ⟨ret_int ?_, ⟨_, _, _, _, _, HE2.out⟩, HB2.out⟩
        unfold totI
        simp only [List.length_append, List.length_singleton]
        first | rw [if_pos (by omega)] | (rw [if_neg (by omega)]; rfl)

end Go.Proofs.YtjjggdcnpndgjaaDoor
