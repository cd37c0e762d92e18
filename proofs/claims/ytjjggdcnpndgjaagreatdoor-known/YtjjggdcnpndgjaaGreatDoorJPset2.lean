/- (*Facts).settle: rounds of a step over all rules, until a round changes nothing. -/
import Derived.Test.YtjjggdcnpndgjaaGreatDoorJPset1
import Derived.Test.YtjjggdcnpndgjaaGreatDoorJPround
import Derived.Sort.LoopGhostIn
import Derived.Shelf.RegionOpen
namespace Go.Proofs.YtjjggdcnpndgjaaGreatDoor
open Go.RowKit Go.Shelf

attribute [local go_sem] Oper.semAt_some

/-- The marks that the loops over the iterator leave. -/
def marks (Ds : List Nat) : List Deferred := Ds.map fun D => { target := .collected D, args := #[] }

/-- No deferred call stands behind any of them: the call returns. -/
theorem leaves_marks {F : Fence} {n : Nat} {P : Program} {fn : Func} {tmps : Array Value} {R : Ending → World → Prop} (B : Nat) (Pd : World → Prop)
    (hP : ∀ w' D, Pd w' → B ≤ D → w'.heap[D]? = some (.deferred (some [])) → Pd (w'.putObj D (.deferred none)))
    (h : ∀ w', Pd w' → LeavesInM F n P fn tmps R [] .returning w') : ∀ (Ds : List Nat) (w : World), Pd w → Ds.Nodup → (∀ D ∈ Ds, B ≤ D ∧ w.heap[D]? = some (.deferred (some []))) → LeavesInM F n P fn tmps R (marks Ds) .returning w := by
  intro Ds
  induction Ds with
  | nil => intro w hk _ _; exact h w hk
  | cons D Ds ih =>
    intro w hk hn hD
    have hd := hD D (List.mem_cons_self ..)
    refine ⟨by simp, .inl ⟨D, _, rfl, run_takeDeferred hd.2, ?_⟩⟩
    refine ih _ (hP w D hk hd.1 hd.2) (List.nodup_cons.1 hn).2 ?_
    intro D' hD'
    have h1 := hD D' (List.mem_cons_of_mem _ hD')
    refine ⟨h1.1, ?_⟩
    rw [World.putObj_heap_other (fun e => (List.nodup_cons.1 hn).1 (by rw [← e]; exact hD'))]
    exact h1.2

theorem KeepsFrom.of_keeps {B : Nat} {V V1 : World} {S : List Nat} (h : Keeps V V1 S) (hS : ∀ k ∈ S, k < B) : KeepsFrom B V V1 :=
  ⟨h.size, fun k o hB hk _ => (h.block k (Array.getElem?_eq_some_iff.1 hk).1 (fun hm => by have := hS k hm; omega)).trans hk⟩

/-- The marks lie in the world. -/
def Marked (w : World) (Ds : List Nat) (W : World) : Prop := Ds.Nodup ∧ ∀ D ∈ Ds, w.heap.size ≤ D ∧ W.heap[D]? = some (.deferred (some []))

theorem Marked.keeps {w W W' : World} {Ds : List Nat} {S : List Nat} (h : Marked w Ds W) (hk : Keeps W W' S) (hS : ∀ k ∈ S, ∃ c e f, W.heap[k]? = some (.cells c e f)) : Marked w Ds W' :=
  ⟨h.1, fun D hD => ⟨(h.2 D hD).1, (hk.block D (Array.getElem?_eq_some_iff.1 (h.2 D hD).2).1 (fun hm => by
    obtain ⟨c, e, f, h1⟩ := hS D hm
    rw [(h.2 D hD).2] at h1
    simp at h1)).trans (h.2 D hD).2⟩⟩

theorem Marked.cons {w W0 W : World} {Ds : List Nat} {D : Nat} (h0 : Marked w Ds W0) (h : Marked w Ds W) (hw : w.heap.size ≤ W0.heap.size) (hD : W0.heap.size ≤ D) (hd : W.heap[D]? = some (.deferred (some []))) : Marked w (D :: Ds) W :=
  ⟨List.nodup_cons.2 ⟨fun hm => by have := (Array.getElem?_eq_some_iff.1 (h0.2 D hm).2).1; omega, h.1⟩, fun D' hD' => by
    rcases List.mem_cons.1 hD' with rfl | hD'
    · exact ⟨by omega, hd⟩
    · exact h.2 D' hD'⟩

theorem KnV.kind {w : World} {kb n : Nat} {k : List Fa} (h : KnV w kb n k) : ∀ b ∈ [kb], ∃ c e f, w.heap[b]? = some (.cells c e f) := by
  intro b hb
  obtain rfl : b = kb := by simpa using hb
  obtain ⟨c, h1⟩ := own_kind h.2 (g := b) rfl
  exact ⟨c, _, _, h1⟩

theorem KnV.step {W W' : World} {kb n B : Nat} {k : List Fa} {row : Option Nat} (h : KnV W kb n k) (hB : kb < B) (hg : W.grownBy W' row) (hr : ∀ r, row = some r → B ≤ r ∧ ∃ o : Obj, W.heap[r]? = some o ∧ o.isCells = false) : KnV W' kb n k :=
  h.keeps ((Keeps.refl W row.toList).grown hg (fun k e => .inl (by rw [e]; simp))) (fun hm => by
    cases row with
    | none => simp at hm
    | some r =>
      obtain rfl : kb = r := by simpa using hm
      have := (hr kb rfl).1
      omega)

theorem box_at (W : World) (cs : Array Value) (t j : Nat) : (W.alloc (.cells cs t)).cell? ⟨W.heap.size, j, none⟩ = cs[j]? := block_cell (World.alloc_heap_new W _)

theorem box_new (W : World) (v : Value) (t : Nat) : (W.alloc (.cells #[v] t)).cell? ⟨W.heap.size, 0, none⟩ = some v := box_at W _ t 0

theorem box_alloc {W : World} {a : Addr} {v : Value} (o : Obj) (h : W.cell? a = some v) : (W.alloc o).cell? a = some v := cell_kept h (World.grownBy_alloc W o none) (fun r e => by cases e)

set_option maxHeartbeats 1000000 in
set_option maxRecDepth 100000 in
theorem settle_any (N : NG) (tws : List ByteArray) (pg : List Nm) (adT : Option Addr) (capT gN capN kb fb n₀ : Nat) (w : World) (hP : PGr w n₀ N tws pg adT capT gN capN) (hkb : n₀ ≤ kb) (hfb : fb < w.heap.size) (hfk : fb ≠ kb) (hfn : n₀ ≤ w.heap.size)
    (f0 : w.cell? ⟨fb, 0, none⟩ = some (.slice adT N.nT capT)) (f1 : w.cell? ⟨fb, 1, none⟩ = some (.slice (some ⟨gN, 0, none⟩) N.nN capN)) (f2 : w.cell? ⟨fb, 2, none⟩ = some (.slice (some ⟨kb, 0, none⟩) N.nN N.nN))
    (sf : Nat) (lb : Array Value) (he : ∀ args W, (callFunc sf args).run Tryz.prog W = .ok (.enter sf args) W)
    (step : List Fa → Nat × List Pt → List Fa) (μ : List Fa → Nat) (Inv : List Fa → Prop) (hInv : ∀ k, Inv k → ∀ r ∈ N.rules, (step k r = k ∨ μ (step k r) < μ k) ∧ Inv (step k r))
    (hstep : ∀ W k r v, Keeps w W [kb] → KnV W kb N.nN k → Inv k → r ∈ N.rules → PartsV W n₀ v r.2 → Calls Tryz.prog sf (#[.pointer (some ⟨kb, r.1 * 4, none⟩), v] ++ lb) W fun e W' => e = .returned (.tuple #[]) ∧ KnV W' kb N.nN (step k r) ∧ Keeps W W' [kb])
    (hpos : 0 < N.nN) (k0 : List Fa) (hk0 : KnV w kb N.nN k0) (hI0 : Inv k0) :
    Calls Tryz.prog 153 #[.pointer (some ⟨fb, 0, none⟩), .func (.func sf) #[] lb] w fun e w' => e = .returned (.tuple #[]) ∧ Keeps w w' [kb] ∧ ∃ k, Inv k ∧ (∀ r ∈ N.rules, step k r = k) ∧ KnV w' kb N.nN k := by
  refine (callsIn_wide (n := 4)).1 ?_
  refine callsIn_of_wp_marks Tryz.func153 rfl trivial ?_ rfl
  simp only [Tryz.ntmps153, List.size_toArray, List.length_cons, List.length_nil, Nat.reduceAdd, Nat.reduceSub, Array.replicate_succ, Array.replicate_zero, List.push_toArray, List.append_toArray, List.nil_append, List.cons_append]
  gi_wp2
  have HP : Hid (PGr w n₀ N tws pg adT capT gN capN) := hid hP
  have HS : Hid _ := hid hstep
  have HI : Hid _ := hid hInv
  have hkw := hk0.lt
  have hleN := hP.leN
  have hlN := hP.lN
  have hgN := hP.hgN
  have HF : Hid (w.cell? ⟨fb, 0, none⟩ = some (.slice adT N.nT capT) ∧ w.cell? ⟨fb, 1, none⟩ = some (.slice (some ⟨gN, 0, none⟩) N.nN capN) ∧ w.cell? ⟨fb, 2, none⟩ = some (.slice (some ⟨kb, 0, none⟩) N.nN N.nN)) := hid ⟨f0, f1, f2⟩
  have hKS : Keeps w ((w.alloc (.cells #[.pointer (some ⟨fb, 0, none⟩)] 212)).alloc (.cells #[.func (.func sf) #[] lb] 280)) [kb] := ((Keeps.refl w _).alloc _).alloc _
  refine wpIn_loop_ghost (fun g a W => ∃ (u4 u5 u6 u7 u8 u9 u10 u11 u12 u13 u14 u15 u16 u17 u18 u19 u20 u21 u22 u23 u24 u25 u26 u27 u28 u29 u30 u31 u32 u33 : Value) (Ds : List Nat) (k : List Fa),
      a = { tmps := #[.pointer (some ⟨fb, 0, none⟩), .func (.func sf) #[] lb, .pointer (some ⟨w.heap.size, 0, none⟩), .pointer (some ⟨w.heap.size + 1, 0, none⟩), u4, u5, u6, u7, u8, u9, u10, u11, u12, u13, u14, u15, u16, u17, u18, u19, u20, u21, u22, u23, u24, u25, u26, u27, u28, u29, u30, u31, u32, u33], defers := marks Ds } ∧
      g = μ k ∧ Inv k ∧ KnV W kb N.nN k ∧ Keeps w W [kb] ∧ W.cell? ⟨w.heap.size, 0, none⟩ = some (.pointer (some ⟨fb, 0, none⟩)) ∧ W.cell? ⟨w.heap.size + 1, 0, none⟩ = some (.func (.func sf) #[] lb) ∧ Marked w Ds W) (μ k0) ?start ?round
  case start =>
    refine ⟨_, _, _, _, _, _, _, _, _, _, _, _, _, _, _, _, _, _, _, _, _, _, _, _, _, _, _, _, _, _, [], k0, rfl, rfl, hI0, (hk0.keeps (((Keeps.refl w []).alloc _).alloc _) (by simp)), hKS, ?_, ?_, List.nodup_nil, fun D hD => by cases hD⟩
    · exact box_alloc _ (box_new w (.pointer (some ⟨fb, 0, none⟩)) 212)
    · have h1 := box_new (w.alloc (.cells #[.pointer (some ⟨fb, 0, none⟩)] 212)) (.func (.func sf) #[] lb) 280
      rw [World.size_alloc] at h1
      exact h1
  case round =>
    clear hP hstep hInv hk0 hI0 f0 f1 f2 hKS
    rintro g a W ⟨u4, u5, u6, u7, u8, u9, u10, u11, u12, u13, u14, u15, u16, u17, u18, u19, u20, u21, u22, u23, u24, u25, u26, u27, u28, u29, u30, u31, u32, u33, Ds, k, rfl, rfl, hIk, hk, hW, hb2, hb3, hM⟩
    have HKk : Hid (KnV W kb N.nN k ∧ Inv k) := hid ⟨hk, hIk⟩
    have HW : Hid (Keeps w W [kb]) := hid hW
    have HM : Hid (Marked w Ds W) := hid hM
    have f0 : W.cell? ⟨fb, 0, none⟩ = some (.slice adT N.nT capT) := (hW.cell (by exact hfb) (by simpa using hfk)).trans HF.out.1
    have f1 : W.cell? ⟨fb, 1, none⟩ = some (.slice (some ⟨gN, 0, none⟩) N.nN capN) := (hW.cell (by exact hfb) (by simpa using hfk)).trans HF.out.2.1
    have f2 : W.cell? ⟨fb, 2, none⟩ = some (.slice (some ⟨kb, 0, none⟩) N.nN N.nN) := (hW.cell (by exact hfb) (by simpa using hfk)).trans HF.out.2.2
    have CC := (callsIn_wide (n := 3)).2 (clone_any W kb N.nN k hk hleN hpos)
    clear hk hIk hW hM
    have hsz : w.heap.size + 1 < W.heap.size := World.block_lt_of_cell? W _ hb3
    have hkW : kb < W.heap.size := by omega
    gi_wp2_with (first
      | (refine ⟨trivial, ?_⟩; gi_at_call 204; refine CC.mono ?_; rintro e W1 ⟨gc, cc, rfl, hgc1, hgc2, hgc3, hgc4, hgc5⟩; clear CC; have HC : Hid (∀ j, j < N.nN * 4 → W1.cell? ⟨gc, j, none⟩ = (faCells k)[j]?) := hid hgc3; have HB1 : Hid (Below W.heap.size W W1) := hid hgc5; replace hb2 := (hgc5.cell (p := ⟨w.heap.size, 0, none⟩) (by show w.heap.size < W.heap.size; omega)).trans hb2; replace hb3 := (hgc5.cell (p := ⟨w.heap.size + 1, 0, none⟩) (by exact hsz)).trans hb3; replace f0 := (hgc5.cell (p := ⟨fb, 0, none⟩) (by show fb < W.heap.size; omega)).trans f0; replace f1 := (hgc5.cell (p := ⟨fb, 1, none⟩) (by show fb < W.heap.size; omega)).trans f1; replace f2 := (hgc5.cell (p := ⟨fb, 2, none⟩) (by show fb < W.heap.size; omega)).trans f2; have hsz1 := hgc5.size; clear hgc3 hgc5)
      | (refine ⟨trivial, ?_⟩; gi_at_call 130; refine (rules_in Fence.wide 3 trivial rfl _ _ _ _ _ _ _).mono ?_; rintro e W2 ⟨rfl, rfl⟩))
    obtain ⟨W0, hW0⟩ : ∃ W0, W1.alloc (.cells #[.slice adT N.nT capT, .slice (some ⟨gN, 0, none⟩) N.nN capN] 135) = W0 := ⟨_, rfl⟩
    rw [hW0]
    have hs0 : W0.heap.size = W1.heap.size + 1 := by rw [← hW0, World.size_alloc]
    have hbox : W0.cell? ⟨W1.heap.size, 1, none⟩ = some (.slice (some ⟨gN, 0, none⟩) N.nN capN) := by rw [← hW0]; exact box_at W1 _ _ 1
    have hKW : Keeps W W0 [] := by rw [← hW0]; exact (Keeps.of_below HB1.out []).alloc _
    have hK0 : Keeps w W0 [kb] := HW.out.trans (hKW.mono (fun k h => by cases h))
    have hM0 : Hid (Marked w Ds W0) := hid (HM.out.keeps hKW (fun k h => by cases h))
    have hk0 : KnV W0 kb N.nN k := HKk.out.1.keeps hKW (by simp)
    have HC0 : Hid (∀ j, j < N.nN * 4 → W0.cell? ⟨gc, j, none⟩ = (faCells k)[j]?) := hid fun j hj => by
      have h1 := HC.out j hj
      rw [← hW0]
      exact ((World.cell?_of_block ((Below.heap_alloc W1 _ gc hgc4)))).trans h1
    have b2 : W0.cell? ⟨w.heap.size, 0, none⟩ = some (.pointer (some ⟨fb, 0, none⟩)) := by rw [← hW0]; exact box_alloc _ hb2
    have b3 : W0.cell? ⟨w.heap.size + 1, 0, none⟩ = some (.func (.func sf) #[] lb) := by rw [← hW0]; exact box_alloc _ hb3
    have g2 : W0.cell? ⟨fb, 2, none⟩ = some (.slice (some ⟨kb, 0, none⟩) N.nN N.nN) := by rw [← hW0]; exact box_alloc _ f2
    clear hb2 hb3 f0 f1 f2 hW0
    refine wpIn_rangeFunc_ownG (F := Fence.wide) rfl (by omega) (gf := 183) (lb := #[.pointer (some ⟨W1.heap.size, 0, none⟩)]) rfl trivial (enters_of Tryz.func183 (by kernel_rfl) rfl)
      (rules_stops Fence.wide 3 trivial rfl (by omega) W1.heap.size n₀ N tws pg adT capT gN capN w W0 HP.out (hK0.below hfn (fun q h => by have := List.mem_singleton.1 h; omega)) hfn (by omega) hbox) belowK_t (belowK_b (by omega)) (Below.refl _ _) (fun _ => rfl)
      (fun pre W => Inv ((pre.map fun x => x.1.1).foldl step k) ∧ KnV W kb N.nN ((pre.map fun x => x.1.1).foldl step k) ∧ Keeps W0 W [kb]) (fun _ _ _ => False)
      ?own (fun _ _ _ _ _ hs _ _ => hs) ⟨HKk.out.2, hk0, Keeps.refl _ _⟩
      (fun x => { tmps := #[.pointer (some ⟨fb, 0, none⟩), .func (.func sf) #[] lb, .pointer (some ⟨w.heap.size, 0, none⟩), .pointer (some ⟨w.heap.size + 1, 0, none⟩), .slice (some ⟨gc, 0, none⟩) N.nN cc, .int .i64 (x.1.1.1 : Int), x.1.2, .pointer (some ⟨fb, 0, none⟩), .pointer (some ⟨fb, 0, none⟩), .pointer (some ⟨fb, 2, none⟩), .slice (some ⟨kb, 0, none⟩) N.nN N.nN, .slice (some ⟨gc, 0, none⟩) N.nN cc, .pointer (some ⟨fb, 0, none⟩), .pointer (some ⟨fb, 0, none⟩), .pointer (some ⟨fb, 0, none⟩), .agg #[.slice adT N.nT capT, .slice (some ⟨gN, 0, none⟩) N.nN capN], .func (.func 183) #[] #[.pointer (some ⟨W1.heap.size, 0, none⟩)], .int .i64 (x.1.1.1 : Int), x.1.2, u19, u20, u21, u22, u23, u24, u25, u26, u27, u28, u29, u30, u31, u32, u33], defers := [] }) ?assign ?body ?done ?stop
    case assign =>
      intro l x W' K hK
      simp only [encR]
      gi_wp2
      exact hK
    case own =>
      rintro pre A B row ⟨h1, h2, h3⟩ hg hr
      exact ⟨h1, h2.step (by omega) hg hr, h3.grown hg (fun r e => .inr (hr r e).1)⟩
    case stop =>
      rintro D c pre W' _ _ h _
      exact h.elim
    case body =>
      rintro l pre x V ⟨hv1, hv2, hv3⟩ _
      obtain ⟨⟨⟨rn, rp⟩, pv⟩, hx1, hx2⟩ := x
      simp only at hx1 hx2 ⊢
      have hpl := HP.out.ok.lt _ hx1
      simp only at hpl
      have hlt0 : w.heap.size + 1 < W0.heap.size := by omega
      have hKV : Keeps w V [kb] := hK0.trans hv3
      have c2 := (hv3.cell (p := ⟨w.heap.size, 0, none⟩) (by show w.heap.size < W0.heap.size; omega) (by show w.heap.size ∉ [kb]; simp; omega)).trans b2
      have c3 := (hv3.cell (p := ⟨w.heap.size + 1, 0, none⟩) (by exact hlt0) (by show w.heap.size + 1 ∉ [kb]; simp; omega)).trans b3
      have e2 := (hv3.cell (p := ⟨fb, 2, none⟩) (by show fb < W0.heap.size; omega) (by simpa using hfk)).trans g2
      have CS : ∀ V', Keeps V V' [] → Calls Tryz.prog sf (#[.pointer (some ⟨kb, rn * 4, none⟩), pv] ++ lb) V' fun e W' => e = .returned (.tuple #[]) ∧ KnV W' kb N.nN (step ((pre.map fun x => x.1.1).foldl step k) (rn, rp)) ∧ Keeps V' W' [kb] := fun V' hV' =>
        (HS.out V' _ (rn, rp) pv (hKV.trans (hV'.mono (fun q h => by cases h))) (hv2.keeps hV' (by simp)) hv1 hx1 (hx2.below ((hKV.trans (hV'.mono (fun q h => by cases h))).below hfn (fun q h => by have := List.mem_singleton.1 h; omega))))
      have HCS : Hid _ := hid CS
      clear CS
      have hmx : Tryz.prog.follows .mixedOrders = true := by kernel_rfl
      clear hKV b2 b3 g2
      have HV : Hid _ := hid hv2
      have HV3 : Hid _ := hid hv3
      have HV1 : Hid _ := hid hv1
      clear hv1 hv2 hv3
      gi_wp2
      have hlV : W0.heap.size ≤ V.heap.size := HV3.out.size
      have hl2 : w.heap.size < V.drew.heap.size := by show w.heap.size < V.heap.size; omega
      have hl3 : w.heap.size + 1 < V.drew.heap.size := by show w.heap.size + 1 < V.heap.size; omega
      have hlf : fb < V.drew.heap.size := by show fb < V.heap.size; omega
      have hne2 : w.heap.size ∉ [kb] := by simp; omega
      have hne3 : w.heap.size + 1 ∉ [kb] := by simp; omega
      refine wpIn_region_round (S := fun w' => w'.cell? ⟨w.heap.size, 0, none⟩ = some (.pointer (some ⟨fb, 0, none⟩)) ∧ w'.cell? ⟨w.heap.size + 1, 0, none⟩ = some (.func (.func sf) #[] lb) ∧ w'.cell? ⟨fb, 2, none⟩ = some (.slice (some ⟨kb, 0, none⟩) N.nN N.nN)) hmx (by kernel_rfl) (by rintro ⟨_, _, h⟩; exact h) ⟨c2, c3, e2⟩ (fun hHeld => ?_)
      refine tkA 0 ?vv8 rfl ?hy8 hHeld ?_
      case hy8 => (intro w hSw; (try dsimp only at hSw); first | (go_simp; done) | (go_simp; with_reducible rfl))
      try simp only [zA, zC, Act.put, zD, zE, zF]
      refine tkA 1 ?vv1 rfl ?hy1 hHeld ?_
      case hy1 => (intro w hSw; (try dsimp only at hSw); first | (go_simp; done) | (go_simp; with_reducible rfl))
      try simp only [zA, zB, zC, Act.put, zD, zE, zF]
      refine tkA 2 ?vv2 rfl ?hy2 hHeld ?_
      case hy2 => (intro w hSw; (try dsimp only at hSw); first | (go_simp; done) | (go_simp; with_reducible rfl))
      try simp only [zA, zB, zC, Act.put, zD, zE, zF]
      refine tkA 3 ?vv3 rfl ?hy3 hHeld ?_
      case hy3 => (intro w hSw; (try dsimp only at hSw); first | (go_simp; done) | (go_simp; with_reducible rfl))
      try simp only [zA, zB, zC, Act.put, zD, zE, zF]
      refine tkA 4 ?vv4 rfl ?hy4 hHeld ?_
      case hy4 => (intro w hSw; (try dsimp only at hSw); first | (go_simp; done) | (go_simp; with_reducible rfl))
      try simp only [zA, zB, zC, Act.put, zD, zE, zF]
      refine tkA 5 ?vv5 rfl ?hy5 hHeld ?_
      case hy5 => (intro w hSw; (try dsimp only at hSw); first | (go_simp; done) | (go_simp; with_reducible rfl))
      try simp only [zA, zB, zC, Act.put, zD, zE, zF]
      refine tkA 6 ?vv6 rfl ?hy6 hHeld ?_
      case hy6 => (intro w hSw; (try dsimp only at hSw); first | (go_simp; done) | (go_simp; with_reducible rfl))
      try simp only [zA, zB, zC, Act.put, zD, zE, zF]
      refine tkA 7 ?vv7 rfl ?hy7 hHeld ?_
      case hy7 => (intro w hSw; (try dsimp only at hSw); first | (go_simp; done) | (go_simp; with_reducible rfl))
      try simp only [zA, zB, zC, Act.put, zD, zE, zF]
      refine wpAnyH_ready (rs := [8]) (by kernel_rfl) (by simp) ?_
      refine AllReadyH.cons rfl (fun K hK => ?_) AllReadyH.nil
      try simp only [zA, zB, zC]
      rw [if_pos (by rfl)]; go_simp; refine (HCS.out _ ((Keeps.refl _ _).drew)).mono ?_; rintro e V1 ⟨rfl, hn1, hn2⟩
      refine hK.out _ _ ?_ (fun hHeld => ?_)
      · exact ⟨(hn2.cell (by exact hl2) (by exact hne2)).trans hHeld.1, (hn2.cell (by exact hl3) (by exact hne3)).trans hHeld.2.1, (hn2.cell (by exact hlf) (by simpa using hfk)).trans hHeld.2.2⟩
      clear hK K
      try simp only [Act.put, zD, zE, zF]
      refine wpAnyH_done (by kernel_rfl) ?_ _
      have hst : ((pre ++ [(⟨((rn, rp), pv), hx1, hx2⟩ : RI N w n₀)]).map fun x => x.1.1).foldl step k = step ((pre.map fun x => x.1.1).foldl step k) (rn, rp) := by
        rw [List.map_append, List.foldl_append]
        rfl
      refine ⟨KeepsFrom.of_keeps (S := [kb]) ⟨hn2.os, hn2.tape, hn2.output, hn2.size, hn2.block⟩ (fun q h => by have := List.mem_singleton.1 h; omega), ?_, ?_, ?_, ?_⟩
      · exact (Keeps.drew (Keeps.refl V [kb])).trans hn2 |>.below (by omega) (fun q h => by have := List.mem_singleton.1 h; omega)
      · rw [hst]; exact (HI.out _ HV1.out _ hx1).2
      · rw [hst]; exact hn1
      · exact HV3.out.trans ((Keeps.drew (Keeps.refl V [kb])).trans hn2)
    case done =>
      rintro D ys V hD hys ⟨hv1, hv2, hv3⟩ hd
      rw [hys] at hv1 hv2
      have hg2 := (hv3.cell (p := ⟨fb, 2, none⟩) (by show fb < W0.heap.size; omega) (by simpa using hfk)).trans g2
      have c2 := (hv3.cell (p := ⟨w.heap.size, 0, none⟩) (by show w.heap.size < W0.heap.size; omega) (by show w.heap.size ∉ [kb]; simp; omega)).trans b2
      have c3 := (hv3.cell (p := ⟨w.heap.size + 1, 0, none⟩) (by show w.heap.size + 1 < W0.heap.size; omega) (by show w.heap.size + 1 ∉ [kb]; simp; omega)).trans b3
      have hMV : Hid (Marked w (D :: Ds) V) := hid (hM0.out.cons (hM0.out.keeps hv3 hk0.kind) (by omega) hD hd)
      have CE := (callsIn_wide (n := 3)).2 (equal_any V kb gc N.nN N.nN cc _ k hv2.1 HKk.out.1.1 hleN (fun j hj => hv2.2.cellAt j hj) (fun j hj => by
        rw [hv3.cell (p := ⟨gc, j, none⟩) (by show gc < W0.heap.size; omega) (by show gc ∉ [kb]; simp; omega)]
        exact HC0.out j hj))
      have hff := foldl_fix step μ Inv N.rules (fun s hs r hr => HI.out s hs r hr) k HKk.out.2
      have HV : Hid _ := hid hv2
      have HV3 : Hid _ := hid hv3
      have HV1 : Hid _ := hid hv1
      have HFF : Hid _ := hid hff
      clear hv1 hv2 hv3 hff b2 b3 g2
      by_cases hq : N.rules.foldl step k = k
      · rw [decide_eq_true hq] at CE
        gi_wp2_with (refine ⟨trivial, ?_⟩; gi_at_call 205; refine CE.mono ?_; rintro e V1 ⟨rfl, q, rfl⟩)
        refine leaves_marks w.heap.size (fun w' => Keeps w w' [kb] ∧ KnV w' kb N.nN k) ?_ ?_ (D :: Ds) _ ⟨?_, ?_⟩ ?_ ?_
        · rintro w' D' ⟨h1, h2⟩ hD' hd'
          exact ⟨h1.grown (grownBy_putObj' w' D' (.deferred none)) (fun r e => by cases e; exact .inr hD'), h2.step (B := w.heap.size) hkw (grownBy_putObj' w' D' (.deferred none)) (fun r e => by cases e; exact ⟨hD', _, hd', rfl⟩)⟩
        · rintro w' ⟨h1, h2⟩
          refine ⟨_, results_none rfl _ _ _, rfl, h1, k, HKk.out.2, ?_, h2⟩
          rcases HFF.out.1 with h3 | h3
          · exact h3.2
          · rw [hq] at h3; omega
        · exact (hK0.trans HV3.out).trans (Keeps.of_below (below_draws _ _) _)
        · have h1 := HV.out
          rw [hq] at h1
          exact h1.keeps (Keeps.of_below (below_draws _ _) []) (by simp)
        · exact hMV.out.1
        · exact fun D' hD' => hMV.out.2 D' hD'
      · rw [decide_eq_false hq] at CE
        gi_wp2_with (refine ⟨trivial, ?_⟩; gi_at_call 205; refine CE.mono ?_; rintro e V1 ⟨rfl, q, rfl⟩)
        have hlt : μ (N.rules.foldl step k) < μ k := by
          rcases HFF.out.1 with h3 | h3
          · exact absurd h3.1 hq
          · exact h3
        refine ⟨_, hlt, _, _, _, _, _, _, _, _, _, _, _, _, _, _, _, _, _, _, _, _, _, _, _, _, _, _, _, _, _, _, D :: Ds, N.rules.foldl step k, rfl, rfl, HFF.out.2, HV.out.keeps (Keeps.of_below (below_draws _ _) []) (by simp), (hK0.trans HV3.out).trans (Keeps.of_below (below_draws _ _) _), c2, c3, hMV.out⟩

end Go.Proofs.YtjjggdcnpndgjaaGreatDoor
