/- (*Facts).fault. -/
import Derived.Test.YtjjggdcnpndgjaaGreatDoorJPfault1
import Derived.Laws.EntriesVeiled
namespace Go.Proofs.YtjjggdcnpndgjaaGreatDoor
open Go.RowKit Go.Shelf

def nmW (pg : List Nm) (i : Int) : ByteArray := (pg.getD i.toNat (ByteArray.empty, [])).1

def fp1 (a : Fa) : Bool := (a.least : Int) == 202
def fp2 (a : Fa) : Bool := !a.reached
def fp3 (a : Fa) : Bool := (a.least : Int) == 201

/-- (*Facts).fault. -/
def faultP (pg : List Nm) (k : List Fa) : ByteArray × Int :=
  if 0 ≤ idxF fp1 k then (nmW pg (idxF fp1 k), 6) else if 0 ≤ idxF fp2 k then (nmW pg (idxF fp2 k), 7) else if 0 ≤ idxF fp3 k then (nmW pg (idxF fp3 k), 8) else (ByteArray.empty, 0)

theorem idxF_lt {p : Fa → Bool} {k : List Fa} (h : 0 ≤ idxF p k) : ∃ i : Nat, idxF p k = i ∧ i < k.length := by
  unfold idxF at h ⊢
  cases hk : k.findIdx? p with
  | none => rw [hk] at h; simp at h
  | some i =>
    rw [List.findIdx?_eq_some_iff_getElem] at hk
    exact ⟨i, rfl, hk.1⟩

theorem idxF_neg {p : Fa → Bool} {k : List Fa} (h : ¬ 0 ≤ idxF p k) : idxF p k = -1 := by
  unfold idxF at h ⊢
  cases hk : k.findIdx? p with
  | none => rfl
  | some i => rw [hk] at h; simp at h

set_option maxHeartbeats 2000000 in
set_option maxRecDepth 100000 in
theorem fault_any (w : World) (n₀ fb kb : Nat) (N : NG) (tws : List ByteArray) (pg : List Nm) (adT : Option Addr) (capT gN capN : Nat) (k : List Fa) (h : FcM w n₀ fb kb N tws pg adT capT gN capN k) :
    Calls Tryz.prog 108 #[.pointer (some ⟨fb, 0, none⟩)] w fun e w' => e = .returned (.tuple #[.string (faultP pg k).1, .int .i64 (faultP pg k).2]) ∧ Below w.heap.size w w' := by
  have H : Hid _ := hid h
  have hfw := h.lf
  have hn20 := h.gr.leN
  clear h
  obtain ⟨nN, hn1⟩ : ∃ n, n = N.nN := ⟨_, rfl⟩
  rw [← hn1] at hn20
  have HN : Hid (nN = N.nN) := hid hn1
  have e1 : ∀ args W, (callFunc 157 args).run Tryz.prog W = .ok (.enter 157 args) W := enters_of Tryz.func157 (by kernel_rfl) rfl
  have e2 : ∀ args W, (callFunc 158 args).run Tryz.prog W = .ok (.enter 158 args) W := enters_of Tryz.func158 (by kernel_rfl) rfl
  have e3 : ∀ args W, (callFunc 159 args).run Tryz.prog W = .ok (.enter 159 args) W := enters_of Tryz.func159 (by kernel_rfl) rfl
  have HI1 : Hid (∀ W, KnV W kb nN k → Calls Tryz.prog 160 #[.slice (some ⟨kb, 0, none⟩) nN nN, .func (.func 157) #[] #[]] W fun e w' => e = .returned (.int .i64 (idxF fp1 k)) ∧ Below W.heap.size W w') := hid fun W hW => indexf_any W kb nN k hW hn20 _ fp1 e1 fault1_any
  have HI2 : Hid (∀ W, KnV W kb nN k → Calls Tryz.prog 160 #[.slice (some ⟨kb, 0, none⟩) nN nN, .func (.func 158) #[] #[]] W fun e w' => e = .returned (.int .i64 (idxF fp2 k)) ∧ Below W.heap.size W w') := hid fun W hW => indexf_any W kb nN k hW hn20 _ fp2 e2 fault2_any
  have HI3 : Hid (∀ W, KnV W kb nN k → Calls Tryz.prog 160 #[.slice (some ⟨kb, 0, none⟩) nN nN, .func (.func 159) #[] #[]] W fun e w' => e = .returned (.int .i64 (idxF fp3 k)) ∧ Below W.heap.size W w') := hid fun W hW => indexf_any W kb nN k hW hn20 _ fp3 e3 fault3_any
  clear e1 e2 e3 hn1
  go_enter Tryz.func108, Tryz.ntmps108
  have hnk : ∀ W, Below w.heap.size w W → KnV W kb nN k := fun W hW => by have h1 := H.out.kn.keeps (Keeps.of_below hW []) (by simp); rw [← HN.out] at h1; exact h1
  have HNK : Hid _ := hid hnk
  clear hnk
  go_wp2
  obtain ⟨W1, hW1⟩ : ∃ W1, w.alloc (.cells #[.int .i64 6, .func (.func 157) #[] #[], .int .i64 7, .func (.func 158) #[] #[], .int .i64 8, .func (.func 159) #[] #[]] 282) = W1 := ⟨_, rfl⟩
  have hc : ∀ j, W1.cell? ⟨w.heap.size, j, none⟩ = #[Value.int .i64 6, .func (.func 157) #[] #[], .int .i64 7, .func (.func 158) #[] #[], .int .i64 8, .func (.func 159) #[] #[]][j]? := fun j => by rw [← hW1]; exact box_at w _ _ j
  have hWb : Below w.heap.size w W1 := by rw [← hW1]; exact bal (Below.refl _ _)
  have hWs : w.heap.size < W1.heap.size := by rw [← hW1, World.size_alloc]; omega
  have HWB : Hid _ := hid hWb
  have HCC : Hid _ := hid hc
  rw [hW1]
  clear hW1 hWb hc
  go_loopw [12] (fun i wr => ∃ j : Nat, j ≤ 3 ∧ i = .int .i64 j ∧ Hid ((1 ≤ j → ¬ 0 ≤ idxF fp1 k) ∧ (2 ≤ j → ¬ 0 ≤ idxF fp2 k) ∧ (3 ≤ j → ¬ 0 ≤ idxF fp3 k)) ∧ Hid (Below W1.heap.size W1 wr)) (fun i _ => 3 - (intOf i).toNat)
  case atStart => exact ⟨0, by omega, rfl, ⟨fun h => by omega, fun h => by omega, fun h => by omega⟩, Below.refl _ _⟩
  case round =>
    obtain ⟨j, hj, rfl, hE, hB⟩ := hrel
    have hszr := hB.out.size
    have HBw : Hid (Below w.heap.size w wr) := hid (HWB.out.trans (hB.out.mono (by omega)))
    have HKr : Hid (FcM wr n₀ fb kb N tws pg adT capT gN capN k) := hid (H.out.below HBw.out)
    have f1 := HKr.out.f1
    have f2 := HKr.out.f2
    rw [← HN.out] at f1 f2
    have hfr : fb < wr.heap.size := by omega
    by_cases hlt : j < 3
    · have hj3 : j = 0 ∨ j = 1 ∨ j = 2 := by omega
      rcases hj3 with rfl | rfl | rfl
      · have d0 : wr.cell? ⟨w.heap.size, 0, none⟩ = some (.int .i64 6) := (hB.out.cell (p := ⟨w.heap.size, 0, none⟩) (by exact hWs)).trans (HCC.out 0)
        have d1 : wr.cell? ⟨w.heap.size, 1, none⟩ = some (.func (.func 157) #[] #[]) := (hB.out.cell (p := ⟨w.heap.size, 1, none⟩) (by exact hWs)).trans (HCC.out 1)
        go_wp2
        have g0 := box_at wr #[.int .i64 6, .func (.func 157) #[] #[]] 282 0
        have g1 := box_at wr #[.int .i64 6, .func (.func 157) #[] #[]] 282 1
        have g2 := box_alloc (.cells #[.int .i64 6, .func (.func 157) #[] #[]] 282) f2
        have g3 := box_alloc (.cells #[.int .i64 6, .func (.func 157) #[] #[]] 282) f1
        have HB2 : Hid (Below wr.heap.size wr (wr.alloc (.cells #[.int .i64 6, .func (.func 157) #[] #[]] 282))) := hid (bal (Below.refl _ _))
        have hs2 : wr.heap.size < (wr.alloc (.cells #[.int .i64 6, .func (.func 157) #[] #[]] 282)).heap.size := by rw [World.size_alloc]; omega
        obtain ⟨W2, hW2⟩ : ∃ W2, wr.alloc (.cells #[.int .i64 6, .func (.func 157) #[] #[]] 282) = W2 := ⟨_, rfl⟩
        rw [hW2] at g0 g1 g2 g3 HB2 hs2 ⊢
        clear hW2 d0 d1 f1 f2
        have g0 : W2.cell? ⟨wr.heap.size, 0, none⟩ = some (.int .i64 6) := g0
        have g1 : W2.cell? ⟨wr.heap.size, 1, none⟩ = some (.func (.func 157) #[] #[]) := g1
        have HBW2 : Hid (Below w.heap.size w W2) := hid (HBw.out.trans (HB2.out.mono HBw.out.size))
        have CI := HI1.out W2.drew (HNK.out W2.drew (bdr HBW2.out))
        obtain ⟨x, hx⟩ : ∃ x, idxF fp1 k = x := ⟨_, rfl⟩
        rw [hx] at CI
        have HCI : Hid _ := hid CI
        have HX : Hid (idxF fp1 k = x) := hid hx
        have hf2 : fb < W2.heap.size := by omega
        clear CI hx
        refine wp_region_held_drew (S := fun w' => w'.cell? ⟨wr.heap.size, 0, none⟩ = some (.int .i64 6) ∧ w'.cell? ⟨wr.heap.size, 1, none⟩ = some (.func (.func 157) #[] #[]) ∧ w'.cell? ⟨fb, 2, none⟩ = some (.slice (some ⟨kb, 0, none⟩) nN nN) ∧ w'.cell? ⟨fb, 1, none⟩ = some (.slice (some ⟨gN, 0, none⟩) nN capN) ∧ Below W2.heap.size W2 w') (by kernel_rfl) ⟨g0, g1, g2, g3, bdr (Below.refl _ _)⟩ (fun hHeld => ?_)
        refine tkA 0 ?vv19 rfl ?hy19 hHeld ?_
        case hy19 => (intro w hSw; (try dsimp only at hSw); first | (go_simp; done) | (go_simp; with_reducible rfl))
        try simp only [zA, zC, Act.put, zD, zE, zF]
        refine tkA 1 ?vv1 rfl ?hy1 hHeld ?_
        case hy1 => (intro w hSw; (try dsimp only at hSw); first | (go_simp; done) | (go_simp; with_reducible rfl))
        try simp only [zA, zB, zC, Act.put, zD, zE, zF]
        refine tkA 2 ?vv2 rfl ?hy2 hHeld ?_
        case hy2 => (intro w hSw; (try dsimp only at hSw); first | (go_simp; done) | (go_simp; with_reducible rfl))
        try simp only [zA, zB, zC, Act.put, zD, zE, zF]
        refine tkA 3 ?vv3 rfl ?hy3 hHeld ?_
        case hy3 => (intro w hSw; (try dsimp only at hSw); first | (go_simp; done) | (go_simp; with_reducible rfl))
        try simp only [zA, zB, zC, Act.put, zD, zE, zF]
        refine tkA 4 ?vv4 rfl ?hy4 hHeld ?_
        case hy4 => (intro w hSw; (try dsimp only at hSw); first | (go_simp; done) | (go_simp; with_reducible rfl))
        try simp only [zA, zB, zC, Act.put, zD, zE, zF]
        refine tkA 5 ?vv5 rfl ?hy5 hHeld ?_
        case hy5 => (intro w hSw; (try dsimp only at hSw); first | (go_simp; done) | (go_simp; with_reducible rfl))
        try simp only [zA, zB, zC, Act.put, zD, zE, zF]
        refine wpAnyH_ready (rs := [6]) (by kernel_rfl) (by simp) ?_
        refine AllReadyH.cons rfl (fun K hK => ?_) AllReadyH.nil
        try simp only [zA, zB, zC]
        rw [if_pos (by rfl)]; go_simp; refine HCI.out.mono ?_; rintro e w3 ⟨rfl, hb3⟩
        refine hK.out _ _ ?_ (fun hHeld => ?_)
        · exact ⟨(hb3.cell (by exact hs2)).trans hHeld.1, (hb3.cell (by exact hs2)).trans hHeld.2.1, (hb3.cell (by exact hf2)).trans hHeld.2.2.1, (hb3.cell (by exact hf2)).trans hHeld.2.2.2.1, hHeld.2.2.2.2.trans hb3⟩
        clear hK K
        try simp only [zA, zB, zC, Act.put, zD, zE, zF]
        refine tkA 7 ?vv16 rfl ?hy16 hHeld ?_
        case hy16 => (intro w hSw; (try dsimp only at hSw); first | (go_simp; done) | (go_simp; with_reducible rfl))
        try simp only [zA, zB, zC, Act.put]
        refine wpAnyH_done (by kernel_rfl) ?_ _
        obtain ⟨z0, z1, z2, z3, zb⟩ := hHeld
        have hgN := H.out.gr.hgN
        have hln := H.out.ln
        have HB3 : Hid (Below W1.heap.size W1 w3) := hid ((hB.out.trans (HB2.out.mono hB.out.size)).trans (zb.mono (by omega)))
        have HBw3 : Hid (Below w.heap.size w w3) := hid (HBW2.out.trans (zb.mono HBW2.out.size))
        have hs3 : wr.heap.size < w3.heap.size := by have := zb.size; omega
        have hf3 : fb < w3.heap.size := by have := zb.size; omega
        have hg3 : gN < w3.heap.size := by have := zb.size; omega
        clear g0 g1 g2 g3 hb3 zb z1 z2
        by_cases hx0 : 0 ≤ x
        · obtain ⟨i, hi, hik⟩ := idxF_lt (p := fp1) (k := k) (by rw [HX.out]; exact hx0)
          have hxi : x = (i : Int) := HX.out.symm.trans hi
          subst hxi
          have hiN : i < nN := by rw [HN.out, ← H.out.kn.1]; exact hik
          obtain ⟨nm, hnm⟩ : ∃ nm, pg[i]? = some nm := ⟨_, List.getElem?_eq_getElem (by rw [H.out.gr.pgl, ← HN.out]; exact hiN)⟩
          have cn := (HBw3.out.cell (p := ⟨gN, i * 2, none⟩) (by show gN < w.heap.size; omega)).trans (H.out.gr.names i nm hnm).1
          have HR : Hid (faultP pg k = (nm.1, 6)) := hid (by
            unfold faultP
            rw [if_pos (by rw [hi]; omega), hi]
            unfold nmW
            rw [Int.toNat_natCast, List.getD_eq_getElem?_getD, hnm]; rfl)
          clear hnm hi hik
          go_wp2
          go_quiet (fail)
          go_wp2
          go_ret2
          exact ⟨by rw [HR.out]; rfl, by repeat (first | exact HBw3.out | refine bdr ?_ | exact HBw3.out.trans ((below_draws _ _).mono HBw3.out.size))⟩
        · have hxn : x = -1 := HX.out.symm.trans (idxF_neg (by rw [HX.out]; exact hx0))
          have HE2 : Hid ((1 ≤ 1 → ¬ 0 ≤ idxF fp1 k) ∧ (2 ≤ 1 → ¬ 0 ≤ idxF fp2 k) ∧ (3 ≤ 1 → ¬ 0 ≤ idxF fp3 k)) := hid (by
            have h1 := hE.out
            have h2 := HX.out
            refine ⟨fun q => ?_, fun q => ?_, fun q => ?_⟩ <;> first | omega | (rw [h2]; exact hx0) | exact h1.1 (by omega) | exact h1.2.1 (by omega))
          subst hxn
          clear hx0
          go_wp2
          go_roundw
          case rel => exact ⟨1, by omega, by go_num, HE2, HB3⟩
          case measure => simp [intOf]
      · have d0 : wr.cell? ⟨w.heap.size, 2, none⟩ = some (.int .i64 7) := (hB.out.cell (p := ⟨w.heap.size, 2, none⟩) (by exact hWs)).trans (HCC.out 2)
        have d1 : wr.cell? ⟨w.heap.size, 3, none⟩ = some (.func (.func 158) #[] #[]) := (hB.out.cell (p := ⟨w.heap.size, 3, none⟩) (by exact hWs)).trans (HCC.out 3)
        go_wp2
        have g0 := box_at wr #[.int .i64 7, .func (.func 158) #[] #[]] 282 0
        have g1 := box_at wr #[.int .i64 7, .func (.func 158) #[] #[]] 282 1
        have g2 := box_alloc (.cells #[.int .i64 7, .func (.func 158) #[] #[]] 282) f2
        have g3 := box_alloc (.cells #[.int .i64 7, .func (.func 158) #[] #[]] 282) f1
        have HB2 : Hid (Below wr.heap.size wr (wr.alloc (.cells #[.int .i64 7, .func (.func 158) #[] #[]] 282))) := hid (bal (Below.refl _ _))
        have hs2 : wr.heap.size < (wr.alloc (.cells #[.int .i64 7, .func (.func 158) #[] #[]] 282)).heap.size := by rw [World.size_alloc]; omega
        obtain ⟨W2, hW2⟩ : ∃ W2, wr.alloc (.cells #[.int .i64 7, .func (.func 158) #[] #[]] 282) = W2 := ⟨_, rfl⟩
        rw [hW2] at g0 g1 g2 g3 HB2 hs2 ⊢
        clear hW2 d0 d1 f1 f2
        have g0 : W2.cell? ⟨wr.heap.size, 0, none⟩ = some (.int .i64 7) := g0
        have g1 : W2.cell? ⟨wr.heap.size, 1, none⟩ = some (.func (.func 158) #[] #[]) := g1
        have HBW2 : Hid (Below w.heap.size w W2) := hid (HBw.out.trans (HB2.out.mono HBw.out.size))
        have CI := HI2.out W2.drew (HNK.out W2.drew (bdr HBW2.out))
        obtain ⟨x, hx⟩ : ∃ x, idxF fp2 k = x := ⟨_, rfl⟩
        rw [hx] at CI
        have HCI : Hid _ := hid CI
        have HX : Hid (idxF fp2 k = x) := hid hx
        have hf2 : fb < W2.heap.size := by omega
        clear CI hx
        refine wp_region_held_drew (S := fun w' => w'.cell? ⟨wr.heap.size, 0, none⟩ = some (.int .i64 7) ∧ w'.cell? ⟨wr.heap.size, 1, none⟩ = some (.func (.func 158) #[] #[]) ∧ w'.cell? ⟨fb, 2, none⟩ = some (.slice (some ⟨kb, 0, none⟩) nN nN) ∧ w'.cell? ⟨fb, 1, none⟩ = some (.slice (some ⟨gN, 0, none⟩) nN capN) ∧ Below W2.heap.size W2 w') (by kernel_rfl) ⟨g0, g1, g2, g3, bdr (Below.refl _ _)⟩ (fun hHeld => ?_)
        refine tkA 0 ?vv20 rfl ?hy20 hHeld ?_
        case hy20 => (intro w hSw; (try dsimp only at hSw); first | (go_simp; done) | (go_simp; with_reducible rfl))
        try simp only [zA, zC, Act.put, zD, zE, zF]
        refine tkA 1 ?vv6 rfl ?hy6 hHeld ?_
        case hy6 => (intro w hSw; (try dsimp only at hSw); first | (go_simp; done) | (go_simp; with_reducible rfl))
        try simp only [zA, zB, zC, Act.put, zD, zE, zF]
        refine tkA 2 ?vv7 rfl ?hy7 hHeld ?_
        case hy7 => (intro w hSw; (try dsimp only at hSw); first | (go_simp; done) | (go_simp; with_reducible rfl))
        try simp only [zA, zB, zC, Act.put, zD, zE, zF]
        refine tkA 3 ?vv8 rfl ?hy8 hHeld ?_
        case hy8 => (intro w hSw; (try dsimp only at hSw); first | (go_simp; done) | (go_simp; with_reducible rfl))
        try simp only [zA, zB, zC, Act.put, zD, zE, zF]
        refine tkA 4 ?vv9 rfl ?hy9 hHeld ?_
        case hy9 => (intro w hSw; (try dsimp only at hSw); first | (go_simp; done) | (go_simp; with_reducible rfl))
        try simp only [zA, zB, zC, Act.put, zD, zE, zF]
        refine tkA 5 ?vv10 rfl ?hy10 hHeld ?_
        case hy10 => (intro w hSw; (try dsimp only at hSw); first | (go_simp; done) | (go_simp; with_reducible rfl))
        try simp only [zA, zB, zC, Act.put, zD, zE, zF]
        refine wpAnyH_ready (rs := [6]) (by kernel_rfl) (by simp) ?_
        refine AllReadyH.cons rfl (fun K hK => ?_) AllReadyH.nil
        try simp only [zA, zB, zC]
        rw [if_pos (by rfl)]; go_simp; refine HCI.out.mono ?_; rintro e w3 ⟨rfl, hb3⟩
        refine hK.out _ _ ?_ (fun hHeld => ?_)
        · exact ⟨(hb3.cell (by exact hs2)).trans hHeld.1, (hb3.cell (by exact hs2)).trans hHeld.2.1, (hb3.cell (by exact hf2)).trans hHeld.2.2.1, (hb3.cell (by exact hf2)).trans hHeld.2.2.2.1, hHeld.2.2.2.2.trans hb3⟩
        clear hK K
        try simp only [zA, zB, zC, Act.put, zD, zE, zF]
        refine tkA 7 ?vv17 rfl ?hy17 hHeld ?_
        case hy17 => (intro w hSw; (try dsimp only at hSw); first | (go_simp; done) | (go_simp; with_reducible rfl))
        try simp only [zA, zB, zC, Act.put]
        refine wpAnyH_done (by kernel_rfl) ?_ _
        obtain ⟨z0, z1, z2, z3, zb⟩ := hHeld
        have hgN := H.out.gr.hgN
        have hln := H.out.ln
        have HB3 : Hid (Below W1.heap.size W1 w3) := hid ((hB.out.trans (HB2.out.mono hB.out.size)).trans (zb.mono (by omega)))
        have HBw3 : Hid (Below w.heap.size w w3) := hid (HBW2.out.trans (zb.mono HBW2.out.size))
        have hs3 : wr.heap.size < w3.heap.size := by have := zb.size; omega
        have hf3 : fb < w3.heap.size := by have := zb.size; omega
        have hg3 : gN < w3.heap.size := by have := zb.size; omega
        clear g0 g1 g2 g3 hb3 zb z1 z2
        by_cases hx0 : 0 ≤ x
        · obtain ⟨i, hi, hik⟩ := idxF_lt (p := fp2) (k := k) (by rw [HX.out]; exact hx0)
          have hxi : x = (i : Int) := HX.out.symm.trans hi
          subst hxi
          have hiN : i < nN := by rw [HN.out, ← H.out.kn.1]; exact hik
          obtain ⟨nm, hnm⟩ : ∃ nm, pg[i]? = some nm := ⟨_, List.getElem?_eq_getElem (by rw [H.out.gr.pgl, ← HN.out]; exact hiN)⟩
          have cn := (HBw3.out.cell (p := ⟨gN, i * 2, none⟩) (by show gN < w.heap.size; omega)).trans (H.out.gr.names i nm hnm).1
          have HR : Hid (faultP pg k = (nm.1, 7)) := hid (by
            unfold faultP
            rw [if_neg (by have := hE.out.1 (by omega); omega)]
            rw [if_pos (by rw [hi]; omega), hi]
            unfold nmW
            rw [Int.toNat_natCast, List.getD_eq_getElem?_getD, hnm]; rfl)
          clear hnm hi hik
          go_wp2
          go_quiet (fail)
          go_wp2
          go_ret2
          exact ⟨by rw [HR.out]; rfl, by repeat (first | exact HBw3.out | refine bdr ?_ | exact HBw3.out.trans ((below_draws _ _).mono HBw3.out.size))⟩
        · have hxn : x = -1 := HX.out.symm.trans (idxF_neg (by rw [HX.out]; exact hx0))
          have HE2 : Hid ((1 ≤ 2 → ¬ 0 ≤ idxF fp1 k) ∧ (2 ≤ 2 → ¬ 0 ≤ idxF fp2 k) ∧ (3 ≤ 2 → ¬ 0 ≤ idxF fp3 k)) := hid (by
            have h1 := hE.out
            have h2 := HX.out
            refine ⟨fun q => ?_, fun q => ?_, fun q => ?_⟩ <;> first | omega | (rw [h2]; exact hx0) | exact h1.1 (by omega) | exact h1.2.1 (by omega))
          subst hxn
          clear hx0
          go_wp2
          go_roundw
          case rel => exact ⟨2, by omega, by go_num, HE2, HB3⟩
          case measure => simp [intOf]
      · have d0 : wr.cell? ⟨w.heap.size, 4, none⟩ = some (.int .i64 8) := (hB.out.cell (p := ⟨w.heap.size, 4, none⟩) (by exact hWs)).trans (HCC.out 4)
        have d1 : wr.cell? ⟨w.heap.size, 5, none⟩ = some (.func (.func 159) #[] #[]) := (hB.out.cell (p := ⟨w.heap.size, 5, none⟩) (by exact hWs)).trans (HCC.out 5)
        go_wp2
        have g0 := box_at wr #[.int .i64 8, .func (.func 159) #[] #[]] 282 0
        have g1 := box_at wr #[.int .i64 8, .func (.func 159) #[] #[]] 282 1
        have g2 := box_alloc (.cells #[.int .i64 8, .func (.func 159) #[] #[]] 282) f2
        have g3 := box_alloc (.cells #[.int .i64 8, .func (.func 159) #[] #[]] 282) f1
        have HB2 : Hid (Below wr.heap.size wr (wr.alloc (.cells #[.int .i64 8, .func (.func 159) #[] #[]] 282))) := hid (bal (Below.refl _ _))
        have hs2 : wr.heap.size < (wr.alloc (.cells #[.int .i64 8, .func (.func 159) #[] #[]] 282)).heap.size := by rw [World.size_alloc]; omega
        obtain ⟨W2, hW2⟩ : ∃ W2, wr.alloc (.cells #[.int .i64 8, .func (.func 159) #[] #[]] 282) = W2 := ⟨_, rfl⟩
        rw [hW2] at g0 g1 g2 g3 HB2 hs2 ⊢
        clear hW2 d0 d1 f1 f2
        have g0 : W2.cell? ⟨wr.heap.size, 0, none⟩ = some (.int .i64 8) := g0
        have g1 : W2.cell? ⟨wr.heap.size, 1, none⟩ = some (.func (.func 159) #[] #[]) := g1
        have HBW2 : Hid (Below w.heap.size w W2) := hid (HBw.out.trans (HB2.out.mono HBw.out.size))
        have CI := HI3.out W2.drew (HNK.out W2.drew (bdr HBW2.out))
        obtain ⟨x, hx⟩ : ∃ x, idxF fp3 k = x := ⟨_, rfl⟩
        rw [hx] at CI
        have HCI : Hid _ := hid CI
        have HX : Hid (idxF fp3 k = x) := hid hx
        have hf2 : fb < W2.heap.size := by omega
        clear CI hx
        refine wp_region_held_drew (S := fun w' => w'.cell? ⟨wr.heap.size, 0, none⟩ = some (.int .i64 8) ∧ w'.cell? ⟨wr.heap.size, 1, none⟩ = some (.func (.func 159) #[] #[]) ∧ w'.cell? ⟨fb, 2, none⟩ = some (.slice (some ⟨kb, 0, none⟩) nN nN) ∧ w'.cell? ⟨fb, 1, none⟩ = some (.slice (some ⟨gN, 0, none⟩) nN capN) ∧ Below W2.heap.size W2 w') (by kernel_rfl) ⟨g0, g1, g2, g3, bdr (Below.refl _ _)⟩ (fun hHeld => ?_)
        refine tkA 0 ?vv21 rfl ?hy21 hHeld ?_
        case hy21 => (intro w hSw; (try dsimp only at hSw); first | (go_simp; done) | (go_simp; with_reducible rfl))
        try simp only [zA, zC, Act.put, zD, zE, zF]
        refine tkA 1 ?vv11 rfl ?hy11 hHeld ?_
        case hy11 => (intro w hSw; (try dsimp only at hSw); first | (go_simp; done) | (go_simp; with_reducible rfl))
        try simp only [zA, zB, zC, Act.put, zD, zE, zF]
        refine tkA 2 ?vv12 rfl ?hy12 hHeld ?_
        case hy12 => (intro w hSw; (try dsimp only at hSw); first | (go_simp; done) | (go_simp; with_reducible rfl))
        try simp only [zA, zB, zC, Act.put, zD, zE, zF]
        refine tkA 3 ?vv13 rfl ?hy13 hHeld ?_
        case hy13 => (intro w hSw; (try dsimp only at hSw); first | (go_simp; done) | (go_simp; with_reducible rfl))
        try simp only [zA, zB, zC, Act.put, zD, zE, zF]
        refine tkA 4 ?vv14 rfl ?hy14 hHeld ?_
        case hy14 => (intro w hSw; (try dsimp only at hSw); first | (go_simp; done) | (go_simp; with_reducible rfl))
        try simp only [zA, zB, zC, Act.put, zD, zE, zF]
        refine tkA 5 ?vv15 rfl ?hy15 hHeld ?_
        case hy15 => (intro w hSw; (try dsimp only at hSw); first | (go_simp; done) | (go_simp; with_reducible rfl))
        try simp only [zA, zB, zC, Act.put, zD, zE, zF]
        refine wpAnyH_ready (rs := [6]) (by kernel_rfl) (by simp) ?_
        refine AllReadyH.cons rfl (fun K hK => ?_) AllReadyH.nil
        try simp only [zA, zB, zC]
        rw [if_pos (by rfl)]; go_simp; refine HCI.out.mono ?_; rintro e w3 ⟨rfl, hb3⟩
        refine hK.out _ _ ?_ (fun hHeld => ?_)
        · exact ⟨(hb3.cell (by exact hs2)).trans hHeld.1, (hb3.cell (by exact hs2)).trans hHeld.2.1, (hb3.cell (by exact hf2)).trans hHeld.2.2.1, (hb3.cell (by exact hf2)).trans hHeld.2.2.2.1, hHeld.2.2.2.2.trans hb3⟩
        clear hK K
        try simp only [zA, zB, zC, Act.put, zD, zE, zF]
        refine tkA 7 ?vv18 rfl ?hy18 hHeld ?_
        case hy18 => (intro w hSw; (try dsimp only at hSw); first | (go_simp; done) | (go_simp; with_reducible rfl))
        try simp only [zA, zB, zC, Act.put]
        refine wpAnyH_done (by kernel_rfl) ?_ _
        obtain ⟨z0, z1, z2, z3, zb⟩ := hHeld
        have hgN := H.out.gr.hgN
        have hln := H.out.ln
        have HB3 : Hid (Below W1.heap.size W1 w3) := hid ((hB.out.trans (HB2.out.mono hB.out.size)).trans (zb.mono (by omega)))
        have HBw3 : Hid (Below w.heap.size w w3) := hid (HBW2.out.trans (zb.mono HBW2.out.size))
        have hs3 : wr.heap.size < w3.heap.size := by have := zb.size; omega
        have hf3 : fb < w3.heap.size := by have := zb.size; omega
        have hg3 : gN < w3.heap.size := by have := zb.size; omega
        clear g0 g1 g2 g3 hb3 zb z1 z2
        by_cases hx0 : 0 ≤ x
        · obtain ⟨i, hi, hik⟩ := idxF_lt (p := fp3) (k := k) (by rw [HX.out]; exact hx0)
          have hxi : x = (i : Int) := HX.out.symm.trans hi
          subst hxi
          have hiN : i < nN := by rw [HN.out, ← H.out.kn.1]; exact hik
          obtain ⟨nm, hnm⟩ : ∃ nm, pg[i]? = some nm := ⟨_, List.getElem?_eq_getElem (by rw [H.out.gr.pgl, ← HN.out]; exact hiN)⟩
          have cn := (HBw3.out.cell (p := ⟨gN, i * 2, none⟩) (by show gN < w.heap.size; omega)).trans (H.out.gr.names i nm hnm).1
          have HR : Hid (faultP pg k = (nm.1, 8)) := hid (by
            unfold faultP
            rw [if_neg (by have := hE.out.1 (by omega); omega), if_neg (by have := hE.out.2.1 (by omega); omega)]
            rw [if_pos (by rw [hi]; omega), hi]
            unfold nmW
            rw [Int.toNat_natCast, List.getD_eq_getElem?_getD, hnm]; rfl)
          clear hnm hi hik
          go_wp2
          go_quiet (fail)
          go_wp2
          go_ret2
          exact ⟨by rw [HR.out]; rfl, by repeat (first | exact HBw3.out | refine bdr ?_ | exact HBw3.out.trans ((below_draws _ _).mono HBw3.out.size))⟩
        · have hxn : x = -1 := HX.out.symm.trans (idxF_neg (by rw [HX.out]; exact hx0))
          have HE2 : Hid ((1 ≤ 3 → ¬ 0 ≤ idxF fp1 k) ∧ (2 ≤ 3 → ¬ 0 ≤ idxF fp2 k) ∧ (3 ≤ 3 → ¬ 0 ≤ idxF fp3 k)) := hid (by
            have h1 := hE.out
            have h2 := HX.out
            refine ⟨fun q => ?_, fun q => ?_, fun q => ?_⟩ <;> first | omega | (rw [h2]; exact hx0) | exact h1.1 (by omega) | exact h1.2.1 (by omega))
          subst hxn
          clear hx0
          go_wp2
          go_roundw
          case rel => exact ⟨3, by omega, by go_num, HE2, HB3⟩
          case measure => simp [intOf]
    · have HR : Hid (faultP pg k = (ByteArray.empty, 0)) := hid (by
        unfold faultP
        rw [if_neg (hE.out.1 (by omega)), if_neg (hE.out.2.1 (by omega)), if_neg (hE.out.2.2 (by omega))])
      go_wp2
      go_ret2
      exact ⟨by rw [HR.out]; rfl, HBw.out⟩

end Go.Proofs.YtjjggdcnpndgjaaGreatDoor
