/- facts.Read, over what source.Read gives. facts.Read walked. facts.Read of a text that is no grammar. The program's facts are the reference's. The rows of facts, and the faults, are the reference's. The rows of facts are the reference's. darn.Facts, over facts.Read. -/
import Derived.Test.YtjjggdcnpndgjaaGreatDoorJ12
import Derived.Test.YtjjggdcnpndgjaaGreatDoorJ9
namespace Go.Proofs.YtjjggdcnpndgjaaGreatDoor
open Go.RowKit Go.Shelf

/-- What the facts are when the faults are looked for. -/
structure Found (N : NG) (k1 k2 : List Fa) : Prop where
  i1 : LeastInv N k1
  s1 : ∀ r ∈ N.rules, stepLeast N k1 r = k1
  i2 : ReachInv N k1 k2
  s2 : ∀ r ∈ N.rules, stepReach k2 r = k2

/-- Behind facts.Read of a grammar. -/
def FEnd (N : NG) (tws : List ByteArray) (pg : List Nm) (w : World) (e : Ending) (w' : World) : Prop :=
  Below w.heap.size w w' ∧ ∃ k1 k2, Found N k1 k2 ∧
    (((faultP pg k2).2 ≠ 0 ∧ e = .returned (.tuple #[.agg #[.slice none 0 0, .slice none 0 0, .slice none 0 0], .string (faultP pg k2).1, .int .i64 (faultP pg k2).2])) ∨
     ((faultP pg k2).2 = 0 ∧ ∃ k3 k4 n₀ kb adT capT gN capN, FirstInv N k2 k3 ∧ (∀ r ∈ N.rules, stepFirst k3 r = k3) ∧ FollowInv N k3 k4 ∧ (∀ r ∈ N.rules, stepFollow k4 r = k4) ∧ e = .returned (.tuple #[.agg #[.slice adT N.nT capT, .slice (some ⟨gN, 0, none⟩) N.nN capN, .slice (some ⟨kb, 0, none⟩) N.nN N.nN], .string ByteArray.empty, .int .i64 0]) ∧ n₀ ≤ kb ∧ PGr w' n₀ N tws pg adT capT gN capN ∧ KnV w' kb N.nN k4 ∧ w.heap.size ≤ n₀))

theorem kn_made (w : World) (n : Nat) (hn : n ≤ 20) : KnV (w.alloc (.cells (madeCells #[.int .i64 0, .bool false, .int .u32 0, .int .u32 0] (n * 4)) 216)) w.heap.size n (fillL n 0) := by
  refine ⟨fillL_len _ _, ?_⟩
  have h1 := own_made w (madeCells #[.int .i64 0, .bool false, .int .u32 0, .int .u32 0] (n * 4)) n 4 216 w.heap.size (Nat.le_refl _) (by unfold maxLen; omega) (size_madeCells _ _)
  have h2 := made_flat 4 (by omega) (fun a : Fa => [.int .i64 a.least, .bool a.reached, .int .u32 a.first, .int .u32 a.follow]) (fun _ => rfl) ⟨0, false, 0, 0⟩ n
  have h3 : fillL n 0 = List.replicate n ⟨0, false, 0, 0⟩ := by
    apply List.ext_getElem?
    intro i
    by_cases hi : i < n
    · rw [fillL_at hi, List.getElem?_replicate, if_pos hi]; rfl
    · rw [List.getElem?_eq_none (by rw [fillL_len]; omega), List.getElem?_eq_none (by simp; omega)]
  unfold faCells
  rw [h3, ← h2]
  exact h1

/-- make([]T, n) as one operation. -/
theorem wp_make_exact {P : Program} (w : World) {o : Oper} {a : Act} {K : Act → World → Prop} {Q : Exit → Act → World → Prop}
    (l c : Operand) (t : TypeId) (hop : o.op = Op.makeSlice t l c)
    (e : TypeId) (i : TypeInfo) (z : Value) (h1 : P.underlying t = some (.slice e)) (h2 : P.info? e = some i) (h3 : i.zero = some z)
    (n : Nat) (hl : a.eval l = .int .i64 (n : Int)) (hc : a.eval c = .int .i64 (n : Int)) (b2 : (i.bytes : Int) * (n : Int) ≤ 281474976710656) (b3 : (n : Int) ≤ 9223372036854775807)
    (hK : K (a.put o.dst (.slice (some ⟨w.heap.size, 0, none⟩) n n)) (w.alloc (.cells (madeCells z.cells (n * i.size)) e))) :
    Oper.wp P o a w K Q := by
  have hrun := run_make (P := P) w t e i z h1 h2 h3 .i64 .i64 n n (by omega) (Int.le_refl _) b2 b3
  simp only [Int.toNat_natCast] at hrun
  unfold Oper.wp
  simp [execOp, hop, hl, hc, hrun, Result.andThen]
  exact hK

end Go.Proofs.YtjjggdcnpndgjaaGreatDoor

namespace Go.Proofs.YtjjggdcnpndgjaaGreatDoor
open Go.RowKit Go.Shelf

theorem results_cell2 {P : Program} {fn : Func} {p t u : Tmp} {ty : TypeId} (h : fn.results = #[.cell p ty, .tmp t, .tmp u]) (tmps : Array Value) (w : World) (g : Nat) (t' : TypeId) (cs : Array Value) (fr : Nat × Nat) (d : TypeDesc)
    (hp : tmps.getD p undef = .pointer (some ⟨g, 0, none⟩)) (hg : w.heap[g]? = some (.cells cs t' fr)) (hu : P.underlying ty = some d) (hd : (match d with | .struct _ | .array _ _ => true | _ => false) = true) (hi : (P.info? ty).map (·.size) = some cs.size) :
    (results fn tmps).run P w = .ok (.tuple #[.agg cs, tmps.getD t undef, tmps.getD u undef]) w := by
  have hp' : tmps[p]?.getD undef = .pointer (some ⟨g, 0, none⟩) := by simpa using hp
  simp [results, h, hp', asAddr, run_loadVar_row w g t' ty cs fr d hg hu hd hi, Result.andThen]

theorem least_fr {N : NG} {k : List Fa} (h : LeastInv N k) (n : Nat) : frAt k n = false := by
  unfold frAt
  cases hk : k[n]? with
  | none => rfl
  | some a => exact (h.only a (List.mem_of_getElem? hk)).1
theorem least_fh {N : NG} {k : List Fa} (h : LeastInv N k) (n : Nat) : fhAt k n = 0 := by
  unfold fhAt
  cases hk : k[n]? with
  | none => rfl
  | some a => exact (h.only a (List.mem_of_getElem? hk)).2.1
theorem least_fo {N : NG} {k : List Fa} (h : LeastInv N k) (n : Nat) : foAt k n = 0 := by
  unfold foAt
  cases hk : k[n]? with
  | none => rfl
  | some a => exact (h.only a (List.mem_of_getElem? hk)).2.2

set_option maxHeartbeats 4000000 in
set_option maxRecDepth 100000 in
theorem fread_ok (s : ByteArray) (w : World) (N : NG) (tws : List ByteArray) (pg : List Nm)
    (hS : ∀ W, Below w.heap.size w W → Calls Tryz.prog 105 #[.string s] W fun e w' => ∃ adT capT gN capN, e = .returned (.tuple #[.agg #[.slice adT N.nT capT, .slice (some ⟨gN, 0, none⟩) N.nN capN], .int .i64 0]) ∧ (∀ W'', (∀ q, W.heap.size ≤ q → q < w'.heap.size → W''.heap[q]? = w'.heap[q]?) → PGr W'' w'.heap.size N tws pg adT capT gN capN) ∧ Below W.heap.size W w') :
    Calls Tryz.prog 68 #[.string s] w fun e w' => FEnd N tws pg w e w' := by
  obtain ⟨i0, hi, hz0, hz1, hz2⟩ := info_parts Tryz.info216
  have HS : Hid _ := hid hS
  clear hS
  go_enter Tryz.func68, Tryz.ntmps68
  go_wp2_with (go_at_call 105; refine (HS.out _ (bal (Below.refl _ _))).mono ?_; rintro e w1 ⟨adT, capT, gN, capN, rfl, hPR, hb1⟩; have hP := hPR w1 (fun _ _ _ => rfl); have HPR : Hid _ := hid hPR; clear hPR)
  have hn20 := hP.leN
  have hp0 := hP.ok.pos
  have HP : Hid _ := hid hP
  obtain ⟨nN, hn1⟩ : ∃ n, n = N.nN := ⟨_, rfl⟩
  rw [← hn1] at hn20 hp0 ⊢
  have HN : Hid (nN = N.nN) := hid hn1
  have HB1 : Hid _ := hid hb1
  have HBw1 : Hid (Below w.heap.size w w1) := hid ((bal (Below.refl _ _)).trans (HB1.out.mono (by simp)))
  have Z1 : w1.heap[w.heap.size]? = some (.cells #[.slice none 0 0, .slice none 0 0, .slice none 0 0] 138 (0, 0)) := (HB1.out.block w.heap.size (by simp)).trans (World.alloc_heap_new w _)
  have g0 := box_at w1 #[.slice adT N.nT capT, .slice (some ⟨gN, 0, none⟩) nN capN] 135 0
  have g1 := box_at w1 #[.slice adT N.nT capT, .slice (some ⟨gN, 0, none⟩) nN capN] 135 1
  have hsb : w1.heap.size < (w1.alloc (.cells #[.slice adT N.nT capT, .slice (some ⟨gN, 0, none⟩) nN capN] 135)).heap.size := by rw [World.size_alloc]; omega
  have HW2 : Hid (Below w1.heap.size w1 (w1.alloc (.cells #[.slice adT N.nT capT, .slice (some ⟨gN, 0, none⟩) nN capN] 135))) := hid (bal (Below.refl _ _))
  obtain ⟨W2, hW2⟩ : ∃ W2, w1.alloc (.cells #[.slice adT N.nT capT, .slice (some ⟨gN, 0, none⟩) nN capN] 135) = W2 := ⟨_, rfl⟩
  rw [hW2] at g0 g1 hsb HW2 ⊢
  have HBW2 : Hid (Below w.heap.size w W2) := hid (HBw1.out.trans (HW2.out.mono HBw1.out.size))
  have Z2 : Hid (W2.heap[w.heap.size]? = some (.cells #[.slice none 0 0, .slice none 0 0, .slice none 0 0] 138 (0, 0))) := hid ((HW2.out.block w.heap.size (lt_of_block Z1)).trans Z1)
  have hwz := lt_of_block Z2.out
  have hz12 : w1.heap.size ≤ W2.heap.size := HW2.out.size
  have hw01 : w.heap.size < w1.heap.size := lt_of_block Z1
  clear hW2 hP hb1 hn1 Z1
  have g0 : W2.cell? ⟨w1.heap.size, 0, none⟩ = some (.slice adT N.nT capT) := g0
  have g1 : W2.cell? ⟨w1.heap.size, 1, none⟩ = some (.slice (some ⟨gN, 0, none⟩) nN capN) := g1
  refine wp_region_last (fun w' => w'.cell? ⟨w1.heap.size, 0, none⟩ = some (.slice adT N.nT capT) ∧ w'.cell? ⟨w1.heap.size, 1, none⟩ = some (.slice (some ⟨gN, 0, none⟩) nN capN)) (by kernel_rfl) (by kernel_rfl) ⟨g0, g1⟩ (fun hHeld => ?_)
  simp only [cutLast, idle, lastOf]
  refine tkA 0 ?vv32 rfl ?hy32 hHeld ?_
  case hy32 => (intro w hSw; (try dsimp only at hSw); first | (go_simp; done) | (go_simp; with_reducible rfl))
  try simp only [zA, zC, Act.put, zD, zE, zF]
  refine tkA 1 ?vv25 rfl ?hy25 hHeld ?_
  case hy25 => (intro w hSw; (try dsimp only at hSw); first | (go_simp; done) | (go_simp; with_reducible rfl))
  try simp only [zA, zB, zC, Act.put, zD, zE, zF]
  refine tkA 2 ?vv26 rfl ?hy26 hHeld ?_
  case hy26 => (intro w hSw; (try dsimp only at hSw); first | (go_simp; done) | (go_simp; with_reducible rfl))
  try simp only [zA, zB, zC, Act.put, zD, zE, zF]
  refine tkA 3 ?vv27 rfl ?hy27 hHeld ?_
  case hy27 => (intro w hSw; (try dsimp only at hSw); first | (go_simp; done) | (go_simp; with_reducible rfl))
  try simp only [zA, zB, zC, Act.put, zD, zE, zF]
  refine wpAnyH_ready (rs := [4, 6]) (by kernel_rfl) (by simp) ?_
  refine AllReadyH.cons rfl (fun K hK => ?_) (AllReadyH.cons rfl (fun K hK => ?_) AllReadyH.nil)
  · try simp only [List.getElem_toArray, List.getElem_cons_succ, List.getElem_cons_zero]
    rw [if_pos (by rfl)]
    refine wp_make_exact _ (.tmp 22) (.tmp 22) 136 rfl 216 i0 (.agg #[.int .i64 0, .bool false, .int .u32 0, .int .u32 0]) Tryz.underlying136 hi hz0 nN rfl rfl (by rw [hz2]; omega) (by omega) ?_
    rw [hz1]
    refine hK.out _ _ ?_ (fun hHeld => ?_)
    · exact ⟨box_alloc _ hHeld.1, box_alloc _ hHeld.2⟩
    clear hK K
    try simp only [Act.put, List.setIfInBounds_toArray, List.set_cons_zero, List.set_cons_succ]
    refine tkA 5 ?vv28 rfl ?hy28 hHeld ?_
    case hy28 => (intro w hSw; (try dsimp only at hSw); first | (go_simp; done) | (go_simp; with_reducible rfl))
    try simp only [zA, zB, zC, Act.put, zD, zE, zF]
    refine wpAnyH_ready (rs := [6]) (by kernel_rfl) (by simp) ?_
    refine AllReadyH.cons rfl (fun K hK => ?_) AllReadyH.nil
    try simp only [zA, zB, zC]
    go_simp
    refine hK.out _ _ ?_ (fun hHeld => ?_)
    · exact ⟨box_alloc _ hHeld.1, box_alloc _ hHeld.2⟩
    clear hK K
    try simp only [zA, zB, zC, Act.put, zD, zE, zF]
    refine tkA 7 ?vv30 rfl ?hy30 hHeld ?_
    case hy30 => (intro w hSw; (try dsimp only at hSw); first | (go_simp; done) | (go_simp; with_reducible rfl))
    try simp only [zA, zB, zC, Act.put]
    refine wpAnyH_done (by kernel_rfl) ?_ _
    clear hHeld
    show wpList _ _ _ _ _ _
    go_wp2_with fail
    have K4 : KnV (W2.alloc (.cells (madeCells #[.int .i64 0, .bool false, .int .u32 0, .int .u32 0] (nN * 4)) 216)) W2.heap.size nN (fillL nN 0) := kn_made W2 nN hn20
    have X4 : FcM ((W2.alloc (.cells (madeCells #[.int .i64 0, .bool false, .int .u32 0, .int .u32 0] (nN * 4)) 216)).alloc (.cells #[.slice adT N.nT capT, .slice (some ⟨gN, 0, none⟩) nN capN, .slice (some ⟨W2.heap.size, 0, none⟩) nN nN] 138)).drew w1.heap.size (W2.heap.size + 1) W2.heap.size N tws pg adT capT gN capN (fillL N.nN 0) := by
      have e := fun j => box_at (W2.alloc (.cells (madeCells #[.int .i64 0, .bool false, .int .u32 0, .int .u32 0] (nN * 4)) 216)) #[.slice adT N.nT capT, .slice (some ⟨gN, 0, none⟩) nN capN, .slice (some ⟨W2.heap.size, 0, none⟩) nN nN] 138 j
      rw [World.size_alloc, HN.out] at e
      rw [HN.out] at K4 ⊢
      exact { gr := HP.out.below (bdr (bal (bal HW2.out))), n0 := HW2.out.size, ne := by omega, lf := by show _ < (World.alloc _ _).heap.size; rw [World.size_alloc, World.size_alloc]; omega, f0 := e 0, f1 := e 1, f2 := e 2, kn := K4.keeps (((Keeps.refl _ []).alloc _).drew) (by simp) }
    have HB4 : Hid (Below w.heap.size w ((W2.alloc (.cells (madeCells #[.int .i64 0, .bool false, .int .u32 0, .int .u32 0] (nN * 4)) 216)).alloc (.cells #[.slice adT N.nT capT, .slice (some ⟨gN, 0, none⟩) nN capN, .slice (some ⟨W2.heap.size, 0, none⟩) nN nN] 138)).drew) := hid (bdr (bal (bal HBW2.out)))
    have HC4 : Hid (Below w1.heap.size w1 ((W2.alloc (.cells (madeCells #[.int .i64 0, .bool false, .int .u32 0, .int .u32 0] (nN * 4)) 216)).alloc (.cells #[.slice adT N.nT capT, .slice (some ⟨gN, 0, none⟩) nN capN, .slice (some ⟨W2.heap.size, 0, none⟩) nN nN] 138)).drew) := hid (bdr (bal (bal HW2.out)))
    have Z4 : Hid (((W2.alloc (.cells (madeCells #[.int .i64 0, .bool false, .int .u32 0, .int .u32 0] (nN * 4)) 216)).alloc (.cells #[.slice adT N.nT capT, .slice (some ⟨gN, 0, none⟩) nN capN, .slice (some ⟨W2.heap.size, 0, none⟩) nN nN] 138)).drew.heap[w.heap.size]? = some (.cells #[.slice none 0 0, .slice none 0 0, .slice none 0 0] 138 (0, 0))) := hid (((bdr (bal (bal (Below.refl W2.heap.size W2)))).block w.heap.size (lt_of_block Z2.out)).trans Z2.out)
    clear K4
    refine (findLeast_any _ _ _ _ N tws pg adT capT gN capN X4).mono ?_
    rintro e w5 ⟨rfl, hk5, k1, hi1, hs1, hv1⟩
    have X5 := X4.keeps hk5 hv1
    have B5 : Below w.heap.size w w5 := HB4.out.trans (hk5.below HB4.out.size (fun q hq => by have := List.mem_singleton.1 hq; omega))
    have C5 : Below w1.heap.size w1 w5 := HC4.out.trans (hk5.below HC4.out.size (fun q hq => by have := List.mem_singleton.1 hq; omega))
    have Z5 := (hk5.block w.heap.size (lt_of_block Z4.out) (by simp; omega)).trans Z4.out
    have HX5 : Hid _ := hid (And.intro X5 (And.intro B5 (And.intro Z5 (And.intro hi1 (And.intro hs1 C5)))))
    have CR := findReached_any _ _ _ _ N tws pg adT capT gN capN k1 X5 (least_fr hi1)
    have HCR : Hid _ := hid CR
    clear CR X5 B5 Z5 C5 hi1 hs1 hv1 hk5 X4 HB4 Z4 HC4
    go_wp2_with fail
    refine HCR.out.mono ?_
    rintro e w6 ⟨rfl, hk6, k2, hi2, hs2, hv2⟩
    have X6 := HX5.out.1.keeps hk6 hv2
    have B6 : Below w.heap.size w w6 := HX5.out.2.1.trans (hk6.below HX5.out.2.1.size (fun q hq => by have := List.mem_singleton.1 hq; omega))
    have C6 : Below w1.heap.size w1 w6 := HX5.out.2.2.2.2.2.trans (hk6.below HX5.out.2.2.2.2.2.size (fun q hq => by have := List.mem_singleton.1 hq; omega))
    have Z6 := (hk6.block w.heap.size (lt_of_block HX5.out.2.2.1) (by simp; omega)).trans HX5.out.2.2.1
    have HFd : Hid (Found N k1 k2) := hid ⟨HX5.out.2.2.2.1, HX5.out.2.2.2.2.1, hi2, hs2⟩
    have CF := fault_any _ _ _ _ N tws pg adT capT gN capN k2 X6
    obtain ⟨nm, er, hpe⟩ : ∃ nm er, faultP pg k2 = (nm, er) := ⟨_, _, rfl⟩
    rw [hpe] at CF
    have HX6 : Hid _ := hid (And.intro X6 (And.intro B6 (And.intro Z6 C6)))
    have HPE : Hid _ := hid hpe
    have HCF : Hid _ := hid CF
    clear X6 B6 Z6 C6 hi2 hs2 hv2 hk6 hpe CF HCR HX5
    by_cases her : er = 0
    · subst her
      go_wp2_with fail
      refine HCF.out.mono ?_
      rintro e w7 ⟨rfl, hb7⟩
      have X7 := HX6.out.1.below hb7
      have B7 : Below w.heap.size w w7 := HX6.out.2.1.trans (hb7.mono HX6.out.2.1.size)
      have C7 : Below w1.heap.size w1 w7 := HX6.out.2.2.2.trans (hb7.mono HX6.out.2.2.2.size)
      have Z7 := (hb7.block w.heap.size (lt_of_block HX6.out.2.2.1)).trans HX6.out.2.2.1
      have CH := findFirst_any _ _ _ _ N tws pg adT capT gN capN k2 X7 (fun n => by rw [HFd.out.i2.fh, least_fh HFd.out.i1])
      have HX7 : Hid _ := hid (And.intro X7 (And.intro B7 (And.intro Z7 C7)))
      have HCH : Hid _ := hid CH
      clear X7 B7 Z7 C7 CH hb7 HX6 HCF
      go_wp2_with fail
      refine HCH.out.mono ?_
      rintro e w8 ⟨rfl, hk8, k3, hi3, hs3, hv3⟩
      have X8 := HX7.out.1.keeps hk8 hv3
      have B8 : Below w.heap.size w w8 := HX7.out.2.1.trans (hk8.below HX7.out.2.1.size (fun q hq => by have := List.mem_singleton.1 hq; omega))
      have C8 : Below w1.heap.size w1 w8 := HX7.out.2.2.2.trans (hk8.below HX7.out.2.2.2.size (fun q hq => by have := List.mem_singleton.1 hq; omega))
      have Z8 := (hk8.block w.heap.size (lt_of_block HX7.out.2.2.1) (by simp; omega)).trans HX7.out.2.2.1
      have CW := findFollow_any _ _ _ _ N tws pg adT capT gN capN k3 X8 hi3.lt (fun n => by rw [hi3.fo, HFd.out.i2.fo, least_fo HFd.out.i1])
      have HX8 : Hid _ := hid (And.intro X8 (And.intro B8 (And.intro Z8 (And.intro hi3 (And.intro hs3 C8)))))
      have HCW : Hid _ := hid CW
      clear X8 B8 Z8 C8 CW hi3 hs3 hv3 hk8 HX7 HCH
      go_wp2_with fail
      refine HCW.out.mono ?_
      rintro e w9 ⟨rfl, hk9, k4, hi4, hs4, hv4⟩
      have X9 := HX8.out.1.keeps hk9 hv4
      have B9 : Below w.heap.size w w9 := HX8.out.2.1.trans (hk9.below HX8.out.2.1.size (fun q hq => by have := List.mem_singleton.1 hq; omega))
      have C9 : Below w1.heap.size w1 w9 := HX8.out.2.2.2.2.2.trans (hk9.below HX8.out.2.2.2.2.2.size (fun q hq => by have := List.mem_singleton.1 hq; omega))
      have Z9 := (hk9.block w.heap.size (lt_of_block HX8.out.2.2.1) (by simp; omega)).trans HX8.out.2.2.1
      have q0 := X9.f0
      have q1 := X9.f1
      have q2 := X9.f2
      have r0 : w9.cell? ⟨w.heap.size, 0, none⟩ = some (.slice none 0 0) := block_cell Z9
      have r1 : w9.cell? ⟨w.heap.size, 1, none⟩ = some (.slice none 0 0) := block_cell Z9
      have r2 : w9.cell? ⟨w.heap.size, 2, none⟩ = some (.slice none 0 0) := block_cell Z9
      have t0 : w9.frozen? ⟨w.heap.size, 0, none⟩ = false := block_free Z9
      have t1 : w9.frozen? ⟨w.heap.size, 1, none⟩ = false := block_free Z9
      have t2 : w9.frozen? ⟨w.heap.size, 2, none⟩ = false := block_free Z9
      have HX9 : Hid _ := hid (And.intro X9 (And.intro B9 (And.intro hi4 (And.intro hs4 (And.intro Z9 C9)))))
      clear X9 B9 Z9 C9 hi4 hs4 hv4 hk9 HCW
      go_wp2_with fail
      have hrow := cells_set (j := 2) (cells_set (j := 1) (cells_set (j := 0) HX9.out.2.2.2.2.1 (.slice adT N.nT capT)) (.slice (some ⟨gN, 0, none⟩) N.nN capN)) (.slice (some ⟨W2.heap.size, 0, none⟩) N.nN N.nN)
      have hkw' : Keeps w9 (((w9.setCell ⟨w.heap.size, 0, none⟩ (.slice adT N.nT capT)).setCell ⟨w.heap.size, 1, none⟩ (.slice (some ⟨gN, 0, none⟩) N.nN capN)).setCell ⟨w.heap.size, 2, none⟩ (.slice (some ⟨W2.heap.size, 0, none⟩) N.nN N.nN)) [w.heap.size] := (((Keeps.refl w9 [w.heap.size]).setCell (by simp) _).setCell (by simp) _).setCell (by simp) _
      refine ⟨rfl, _, results_cell2 (p := 2) (t := 3) (u := 4) (ty := 138) rfl _ _ w.heap.size _ _ _ _ rfl hrow Tryz.underlying138 rfl (by kernel_rfl), ?_⟩
      refine ⟨HX9.out.2.1.trans (hkw'.below HX9.out.2.1.size (fun q hq => by have := List.mem_singleton.1 hq; omega)), k1, k2, HFd.out, .inr ⟨by rw [HPE.out], k3, k4, w1.heap.size, _, adT, capT, gN, capN, HX8.out.2.2.2.1, HX8.out.2.2.2.2.1, HX9.out.2.2.1, HX9.out.2.2.2.1, rfl, by omega, HPR.out _ (fun q hq1 hq2 => ?_), HX9.out.1.kn.keeps hkw' (by simp; omega), by omega⟩⟩
      have hc9 := HX9.out.2.2.2.2.2
      rw [World.size_alloc] at hq1
      exact (hkw'.block q (by have := hc9.size; omega) (by simp; omega)).trans (hc9.block q hq2)
    · have hne : ((er : Int) == 0) = false := by simpa using her
      go_wp2_with (refine HCF.out.mono ?_; rintro e w7 ⟨rfl, hb7⟩; have Z7 := (hb7.block w.heap.size (lt_of_block HX6.out.2.2.1)).trans HX6.out.2.2.1; have r0 : w7.cell? ⟨w.heap.size, 0, none⟩ = some (.slice none 0 0) := block_cell Z7; have r1 : w7.cell? ⟨w.heap.size, 1, none⟩ = some (.slice none 0 0) := block_cell Z7; have r2 : w7.cell? ⟨w.heap.size, 2, none⟩ = some (.slice none 0 0) := block_cell Z7; have t0 : w7.frozen? ⟨w.heap.size, 0, none⟩ = false := block_free Z7; have t1 : w7.frozen? ⟨w.heap.size, 1, none⟩ = false := block_free Z7; have t2 : w7.frozen? ⟨w.heap.size, 2, none⟩ = false := block_free Z7; have HB7 : Hid (Below w.heap.size w w7) := hid (HX6.out.2.1.trans (hb7.mono HX6.out.2.1.size)); have HZ7 : Hid _ := hid Z7; clear hb7 Z7 HCF)
      have hrow := cells_set (j := 2) (cells_set (j := 1) (cells_set (j := 0) HZ7.out (.slice none 0 0)) (.slice none 0 0)) (.slice none 0 0)
      have hkw' : Keeps w7 (((w7.setCell ⟨w.heap.size, 0, none⟩ (.slice none 0 0)).setCell ⟨w.heap.size, 1, none⟩ (.slice none 0 0)).setCell ⟨w.heap.size, 2, none⟩ (.slice none 0 0)) [w.heap.size] := (((Keeps.refl w7 [w.heap.size]).setCell (by simp) _).setCell (by simp) _).setCell (by simp) _
      refine ⟨rfl, _, results_cell2 (p := 2) (t := 3) (u := 4) (ty := 138) rfl _ _ w.heap.size _ _ _ _ rfl hrow Tryz.underlying138 rfl (by kernel_rfl), ?_⟩
      exact ⟨HB7.out.trans (hkw'.below HB7.out.size (fun q hq => by have := List.mem_singleton.1 hq; omega)), k1, k2, HFd.out, .inl ⟨by rw [HPE.out]; exact her, by rw [HPE.out]; rfl⟩⟩
  · try simp only [List.getElem_toArray, List.getElem_cons_succ, List.getElem_cons_zero]
    go_simp
    refine hK.out _ _ ?_ (fun hHeld => ?_)
    · exact ⟨box_alloc _ hHeld.1, box_alloc _ hHeld.2⟩
    clear hK K
    try simp only [Act.put, List.setIfInBounds_toArray, List.set_cons_zero, List.set_cons_succ]
    refine wpAnyH_ready (rs := [4]) (by kernel_rfl) (by simp) ?_
    refine AllReadyH.cons rfl (fun K hK => ?_) AllReadyH.nil
    try simp only [zA, zB, zC]
    rw [if_pos (by rfl)]; refine wp_make_exact _ (.tmp 22) (.tmp 22) 136 rfl 216 i0 (.agg #[.int .i64 0, .bool false, .int .u32 0, .int .u32 0]) Tryz.underlying136 hi hz0 nN rfl rfl (by rw [hz2]; omega) (by omega) ?_; rw [hz1]
    refine hK.out _ _ ?_ (fun hHeld => ?_)
    · exact ⟨box_alloc _ hHeld.1, box_alloc _ hHeld.2⟩
    clear hK K
    try simp only [Act.put, zD, zE, zF]
    refine tkA 5 ?vv29 rfl ?hy29 hHeld ?_
    case hy29 => (intro w hSw; (try dsimp only at hSw); first | (go_simp; done) | (go_simp; with_reducible rfl))
    try simp only [zA, zB, zC, Act.put, zD, zE, zF]
    refine tkA 7 ?vv31 rfl ?hy31 hHeld ?_
    case hy31 => (intro w hSw; (try dsimp only at hSw); first | (go_simp; done) | (go_simp; with_reducible rfl))
    try simp only [zA, zB, zC, Act.put]
    refine wpAnyH_done (by kernel_rfl) ?_ _
    clear hHeld
    show wpList _ _ _ _ _ _
    go_wp2_with fail
    have K4 : KnV ((W2.alloc (.cells #[.slice adT N.nT capT, .slice (some ⟨gN, 0, none⟩) nN capN, .slice (some ⟨W2.heap.size + 1, 0, none⟩) nN nN] 138)).alloc (.cells (madeCells #[.int .i64 0, .bool false, .int .u32 0, .int .u32 0] (nN * 4)) 216)) (W2.heap.size + 1) nN (fillL nN 0) := by
      have h1 := kn_made (W2.alloc (.cells #[.slice adT N.nT capT, .slice (some ⟨gN, 0, none⟩) nN capN, .slice (some ⟨W2.heap.size + 1, 0, none⟩) nN nN] 138)) nN hn20
      rw [World.size_alloc] at h1
      exact h1
    have X4 : FcM ((W2.alloc (.cells #[.slice adT N.nT capT, .slice (some ⟨gN, 0, none⟩) nN capN, .slice (some ⟨W2.heap.size + 1, 0, none⟩) nN nN] 138)).alloc (.cells (madeCells #[.int .i64 0, .bool false, .int .u32 0, .int .u32 0] (nN * 4)) 216)).drew w1.heap.size W2.heap.size (W2.heap.size + 1) N tws pg adT capT gN capN (fillL N.nN 0) := by
      have e := fun j => box_at W2 #[.slice adT N.nT capT, .slice (some ⟨gN, 0, none⟩) nN capN, .slice (some ⟨W2.heap.size + 1, 0, none⟩) nN nN] 138 j
      rw [HN.out] at K4 e ⊢
      exact { gr := HP.out.below (bdr (bal (bal HW2.out))), n0 := by have := HW2.out.size; omega, ne := by omega, lf := by show _ < (World.alloc _ _).heap.size; rw [World.size_alloc, World.size_alloc]; omega, f0 := box_alloc _ (e 0), f1 := box_alloc _ (e 1), f2 := box_alloc _ (e 2), kn := K4.keeps ((Keeps.refl _ []).drew) (by simp) }
    have HB4 : Hid (Below w.heap.size w ((W2.alloc (.cells #[.slice adT N.nT capT, .slice (some ⟨gN, 0, none⟩) nN capN, .slice (some ⟨W2.heap.size + 1, 0, none⟩) nN nN] 138)).alloc (.cells (madeCells #[.int .i64 0, .bool false, .int .u32 0, .int .u32 0] (nN * 4)) 216)).drew) := hid (bdr (bal (bal HBW2.out)))
    have HC4 : Hid (Below w1.heap.size w1 ((W2.alloc (.cells #[.slice adT N.nT capT, .slice (some ⟨gN, 0, none⟩) nN capN, .slice (some ⟨W2.heap.size + 1, 0, none⟩) nN nN] 138)).alloc (.cells (madeCells #[.int .i64 0, .bool false, .int .u32 0, .int .u32 0] (nN * 4)) 216)).drew) := hid (bdr (bal (bal HW2.out)))
    have Z4 : Hid (((W2.alloc (.cells #[.slice adT N.nT capT, .slice (some ⟨gN, 0, none⟩) nN capN, .slice (some ⟨W2.heap.size + 1, 0, none⟩) nN nN] 138)).alloc (.cells (madeCells #[.int .i64 0, .bool false, .int .u32 0, .int .u32 0] (nN * 4)) 216)).drew.heap[w.heap.size]? = some (.cells #[.slice none 0 0, .slice none 0 0, .slice none 0 0] 138 (0, 0))) := hid (((bdr (bal (bal (Below.refl W2.heap.size W2)))).block w.heap.size (lt_of_block Z2.out)).trans Z2.out)
    clear K4
    refine (findLeast_any _ _ _ _ N tws pg adT capT gN capN X4).mono ?_
    rintro e w5 ⟨rfl, hk5, k1, hi1, hs1, hv1⟩
    have X5 := X4.keeps hk5 hv1
    have B5 : Below w.heap.size w w5 := HB4.out.trans (hk5.below HB4.out.size (fun q hq => by have := List.mem_singleton.1 hq; omega))
    have C5 : Below w1.heap.size w1 w5 := HC4.out.trans (hk5.below HC4.out.size (fun q hq => by have := List.mem_singleton.1 hq; omega))
    have Z5 := (hk5.block w.heap.size (lt_of_block Z4.out) (by simp; omega)).trans Z4.out
    have HX5 : Hid _ := hid (And.intro X5 (And.intro B5 (And.intro Z5 (And.intro hi1 (And.intro hs1 C5)))))
    have CR := findReached_any _ _ _ _ N tws pg adT capT gN capN k1 X5 (least_fr hi1)
    have HCR : Hid _ := hid CR
    clear CR X5 B5 Z5 C5 hi1 hs1 hv1 hk5 X4 HB4 Z4 HC4
    go_wp2_with fail
    refine HCR.out.mono ?_
    rintro e w6 ⟨rfl, hk6, k2, hi2, hs2, hv2⟩
    have X6 := HX5.out.1.keeps hk6 hv2
    have B6 : Below w.heap.size w w6 := HX5.out.2.1.trans (hk6.below HX5.out.2.1.size (fun q hq => by have := List.mem_singleton.1 hq; omega))
    have C6 : Below w1.heap.size w1 w6 := HX5.out.2.2.2.2.2.trans (hk6.below HX5.out.2.2.2.2.2.size (fun q hq => by have := List.mem_singleton.1 hq; omega))
    have Z6 := (hk6.block w.heap.size (lt_of_block HX5.out.2.2.1) (by simp; omega)).trans HX5.out.2.2.1
    have HFd : Hid (Found N k1 k2) := hid ⟨HX5.out.2.2.2.1, HX5.out.2.2.2.2.1, hi2, hs2⟩
    have CF := fault_any _ _ _ _ N tws pg adT capT gN capN k2 X6
    obtain ⟨nm, er, hpe⟩ : ∃ nm er, faultP pg k2 = (nm, er) := ⟨_, _, rfl⟩
    rw [hpe] at CF
    have HX6 : Hid _ := hid (And.intro X6 (And.intro B6 (And.intro Z6 C6)))
    have HPE : Hid _ := hid hpe
    have HCF : Hid _ := hid CF
    clear X6 B6 Z6 C6 hi2 hs2 hv2 hk6 hpe CF HCR HX5
    by_cases her : er = 0
    · subst her
      go_wp2_with fail
      refine HCF.out.mono ?_
      rintro e w7 ⟨rfl, hb7⟩
      have X7 := HX6.out.1.below hb7
      have B7 : Below w.heap.size w w7 := HX6.out.2.1.trans (hb7.mono HX6.out.2.1.size)
      have C7 : Below w1.heap.size w1 w7 := HX6.out.2.2.2.trans (hb7.mono HX6.out.2.2.2.size)
      have Z7 := (hb7.block w.heap.size (lt_of_block HX6.out.2.2.1)).trans HX6.out.2.2.1
      have CH := findFirst_any _ _ _ _ N tws pg adT capT gN capN k2 X7 (fun n => by rw [HFd.out.i2.fh, least_fh HFd.out.i1])
      have HX7 : Hid _ := hid (And.intro X7 (And.intro B7 (And.intro Z7 C7)))
      have HCH : Hid _ := hid CH
      clear X7 B7 Z7 C7 CH hb7 HX6 HCF
      go_wp2_with fail
      refine HCH.out.mono ?_
      rintro e w8 ⟨rfl, hk8, k3, hi3, hs3, hv3⟩
      have X8 := HX7.out.1.keeps hk8 hv3
      have B8 : Below w.heap.size w w8 := HX7.out.2.1.trans (hk8.below HX7.out.2.1.size (fun q hq => by have := List.mem_singleton.1 hq; omega))
      have C8 : Below w1.heap.size w1 w8 := HX7.out.2.2.2.trans (hk8.below HX7.out.2.2.2.size (fun q hq => by have := List.mem_singleton.1 hq; omega))
      have Z8 := (hk8.block w.heap.size (lt_of_block HX7.out.2.2.1) (by simp; omega)).trans HX7.out.2.2.1
      have CW := findFollow_any _ _ _ _ N tws pg adT capT gN capN k3 X8 hi3.lt (fun n => by rw [hi3.fo, HFd.out.i2.fo, least_fo HFd.out.i1])
      have HX8 : Hid _ := hid (And.intro X8 (And.intro B8 (And.intro Z8 (And.intro hi3 (And.intro hs3 C8)))))
      have HCW : Hid _ := hid CW
      clear X8 B8 Z8 C8 CW hi3 hs3 hv3 hk8 HX7 HCH
      go_wp2_with fail
      refine HCW.out.mono ?_
      rintro e w9 ⟨rfl, hk9, k4, hi4, hs4, hv4⟩
      have X9 := HX8.out.1.keeps hk9 hv4
      have B9 : Below w.heap.size w w9 := HX8.out.2.1.trans (hk9.below HX8.out.2.1.size (fun q hq => by have := List.mem_singleton.1 hq; omega))
      have C9 : Below w1.heap.size w1 w9 := HX8.out.2.2.2.2.2.trans (hk9.below HX8.out.2.2.2.2.2.size (fun q hq => by have := List.mem_singleton.1 hq; omega))
      have Z9 := (hk9.block w.heap.size (lt_of_block HX8.out.2.2.1) (by simp; omega)).trans HX8.out.2.2.1
      have q0 := X9.f0
      have q1 := X9.f1
      have q2 := X9.f2
      have r0 : w9.cell? ⟨w.heap.size, 0, none⟩ = some (.slice none 0 0) := block_cell Z9
      have r1 : w9.cell? ⟨w.heap.size, 1, none⟩ = some (.slice none 0 0) := block_cell Z9
      have r2 : w9.cell? ⟨w.heap.size, 2, none⟩ = some (.slice none 0 0) := block_cell Z9
      have t0 : w9.frozen? ⟨w.heap.size, 0, none⟩ = false := block_free Z9
      have t1 : w9.frozen? ⟨w.heap.size, 1, none⟩ = false := block_free Z9
      have t2 : w9.frozen? ⟨w.heap.size, 2, none⟩ = false := block_free Z9
      have HX9 : Hid _ := hid (And.intro X9 (And.intro B9 (And.intro hi4 (And.intro hs4 (And.intro Z9 C9)))))
      clear X9 B9 Z9 C9 hi4 hs4 hv4 hk9 HCW
      go_wp2_with fail
      have hrow := cells_set (j := 2) (cells_set (j := 1) (cells_set (j := 0) HX9.out.2.2.2.2.1 (.slice adT N.nT capT)) (.slice (some ⟨gN, 0, none⟩) N.nN capN)) (.slice (some ⟨W2.heap.size + 1, 0, none⟩) N.nN N.nN)
      have hkw' : Keeps w9 (((w9.setCell ⟨w.heap.size, 0, none⟩ (.slice adT N.nT capT)).setCell ⟨w.heap.size, 1, none⟩ (.slice (some ⟨gN, 0, none⟩) N.nN capN)).setCell ⟨w.heap.size, 2, none⟩ (.slice (some ⟨W2.heap.size + 1, 0, none⟩) N.nN N.nN)) [w.heap.size] := (((Keeps.refl w9 [w.heap.size]).setCell (by simp) _).setCell (by simp) _).setCell (by simp) _
      refine ⟨rfl, _, results_cell2 (p := 2) (t := 3) (u := 4) (ty := 138) rfl _ _ w.heap.size _ _ _ _ rfl hrow Tryz.underlying138 rfl (by kernel_rfl), ?_⟩
      refine ⟨HX9.out.2.1.trans (hkw'.below HX9.out.2.1.size (fun q hq => by have := List.mem_singleton.1 hq; omega)), k1, k2, HFd.out, .inr ⟨by rw [HPE.out], k3, k4, w1.heap.size, _, adT, capT, gN, capN, HX8.out.2.2.2.1, HX8.out.2.2.2.2.1, HX9.out.2.2.1, HX9.out.2.2.2.1, rfl, by omega, HPR.out _ (fun q hq1 hq2 => ?_), HX9.out.1.kn.keeps hkw' (by simp; omega), by omega⟩⟩
      have hc9 := HX9.out.2.2.2.2.2
      rw [World.size_alloc] at hq1
      exact (hkw'.block q (by have := hc9.size; omega) (by simp; omega)).trans (hc9.block q hq2)
    · have hne : ((er : Int) == 0) = false := by simpa using her
      go_wp2_with (refine HCF.out.mono ?_; rintro e w7 ⟨rfl, hb7⟩; have Z7 := (hb7.block w.heap.size (lt_of_block HX6.out.2.2.1)).trans HX6.out.2.2.1; have r0 : w7.cell? ⟨w.heap.size, 0, none⟩ = some (.slice none 0 0) := block_cell Z7; have r1 : w7.cell? ⟨w.heap.size, 1, none⟩ = some (.slice none 0 0) := block_cell Z7; have r2 : w7.cell? ⟨w.heap.size, 2, none⟩ = some (.slice none 0 0) := block_cell Z7; have t0 : w7.frozen? ⟨w.heap.size, 0, none⟩ = false := block_free Z7; have t1 : w7.frozen? ⟨w.heap.size, 1, none⟩ = false := block_free Z7; have t2 : w7.frozen? ⟨w.heap.size, 2, none⟩ = false := block_free Z7; have HB7 : Hid (Below w.heap.size w w7) := hid (HX6.out.2.1.trans (hb7.mono HX6.out.2.1.size)); have HZ7 : Hid _ := hid Z7; clear hb7 Z7 HCF)
      have hrow := cells_set (j := 2) (cells_set (j := 1) (cells_set (j := 0) HZ7.out (.slice none 0 0)) (.slice none 0 0)) (.slice none 0 0)
      have hkw' : Keeps w7 (((w7.setCell ⟨w.heap.size, 0, none⟩ (.slice none 0 0)).setCell ⟨w.heap.size, 1, none⟩ (.slice none 0 0)).setCell ⟨w.heap.size, 2, none⟩ (.slice none 0 0)) [w.heap.size] := (((Keeps.refl w7 [w.heap.size]).setCell (by simp) _).setCell (by simp) _).setCell (by simp) _
      refine ⟨rfl, _, results_cell2 (p := 2) (t := 3) (u := 4) (ty := 138) rfl _ _ w.heap.size _ _ _ _ rfl hrow Tryz.underlying138 rfl (by kernel_rfl), ?_⟩
      exact ⟨HB7.out.trans (hkw'.below HB7.out.size (fun q hq => by have := List.mem_singleton.1 hq; omega)), k1, k2, HFd.out, .inl ⟨by rw [HPE.out]; exact her, by rw [HPE.out]; rfl⟩⟩

end Go.Proofs.YtjjggdcnpndgjaaGreatDoor

namespace Go.Proofs.YtjjggdcnpndgjaaGreatDoor
open Go.RowKit Go.Shelf

theorem begT_none {N : NG} {E : Nat → Bool} {t : Nat} (ht : N.nT ≤ t) : ∀ ps : List Pt, PsOk N ps → begT E (fun _ => false) t ps = false
  | [], _ => rfl
  | .tok u :: ps, h => by
    have := h.2 u (List.mem_cons_self ..)
    simp only [begT]
    simp; omega
  | .nam n :: ps, h => by
    simp only [begT, begT_none ht ps h.tail]
    simp

theorem mem_bits {x t : Nat} (h : t ∈ bitsOf x) : x.testBit t = true := by
  unfold bitsOf at h
  exact (List.mem_filter.1 h).2

theorem first_bits {N : NG} (hN : N.Ok) {k0 k : List Fa} (h : FirstInv N k0 k) (n t : Nat) (ht : N.nT ≤ t) : (fhAt k n).testBit t = false := by
  cases hb : (fhAt k n).testBit t with
  | false => rfl
  | true =>
    have h1 := h.sound t (fun _ => false) (fun r hr hb => by rw [begT_none ht r.2 (hN.ps hr)] at hb; cases hb) n hb
    cases h1

theorem follow_bits {N : NG} (hN : N.Ok) {k0 k : List Fa} (hf : ∀ n t, N.nT ≤ t → (fhAt k0 n).testBit t = false) (h : FollowInv N k0 k) (n t : Nat) (ht : N.nT < t) : (foAt k n).testBit t = false := by
  cases hb : (foAt k n).testBit t with
  | false => rfl
  | true =>
    have h1 := h.sound t (fun _ => false) ⟨fun e => by omega, fun r hr pre m post e hq => by
      have hp : PsOk N post := ⟨fun q hq => hN.pn r hr q (by rw [e]; exact List.mem_append_right _ (List.mem_cons_of_mem _ hq)), fun q hq => hN.pt r hr q (by rw [e]; exact List.mem_append_right _ (List.mem_cons_of_mem _ hq))⟩
      have hz : (fun n => (fhAt k0 n).testBit t) = fun _ => false := by funext n; exact hf n t (by omega)
      rw [hz, begT_none (by omega) post hp] at hq
      simp at hq⟩ n hb
    cases h1

end Go.Proofs.YtjjggdcnpndgjaaGreatDoor

namespace Go.Proofs.YtjjggdcnpndgjaaGreatDoor

structure Done (N : NG) (k1 k2 k3 k4 : List Fa) : Prop where
  fd : Found N k1 k2
  i3 : FirstInv N k2 k3
  s3 : ∀ r ∈ N.rules, stepFirst k3 r = k3
  i4 : FollowInv N k3 k4
  s4 : ∀ r ∈ N.rules, stepFollow k4 r = k4

theorem em_same {N : NG} (hN : N.Ok) {k1 k2 : List Fa} (h : Found N k1 k2) : emP k2 = bAt (closedN N false) := by
  funext n
  obtain ⟨_, h2, _⟩ := least_done hN h.i1 h.s1
  have h3 := h2.unique (closedN_lfp N hN false).1 n
  rw [← h3]
  unfold emP
  rw [h.i2.fl]

theorem Done.em {N : NG} (hN : N.Ok) {k1 k2 k3 k4 : List Fa} (h : Done N k1 k2 k3 k4) : emP k4 = bAt (closedN N false) := by
  rw [emP_same h.i4.fl, emP_same h.i3.fl, em_same hN h.fd]

theorem Done.first {N : NG} (hN : N.Ok) {k1 k2 k3 k4 : List Fa} (h : Done N k1 k2 k3 k4) (n t : Nat) : (fhAt k4 n).testBit t = col (headsN N (bAt (closedN N false))) t n := by
  have h1 := first_done hN h.i3 h.s3 t
  rw [em_same hN h.fd] at h1
  rw [h.i4.fh]
  exact h1.unique ((headsN_lfp N hN _).2 t) n

theorem Done.follow {N : NG} (hN : N.Ok) (hT : N.nT ≤ 20) {k1 k2 k3 k4 : List Fa} (h : Done N k1 k2 k3 k4) (n t : Nat) : (foAt k4 n).testBit t = col (tailsN N (headsN N (bAt (closedN N false))) (bAt (closedN N false))) t n := by
  have h1 := follow_done hN hT h.i4 h.s4 t
  rw [emP_same h.i3.fl, em_same hN h.fd] at h1
  have h2 : (fun n => (fhAt k3 n).testBit t) = col (headsN N (bAt (closedN N false))) t := by
    funext n
    rw [← h.first hN n t, h.i4.fh]
  rw [h2] at h1
  exact h1.unique ((tailsN_lfp N hN _ (headsN_lfp N hN _).1 _).2 t) n

theorem Done.least {N : NG} (hN : N.Ok) {k1 k2 k3 k4 : List Fa} (h : Done N k1 k2 k3 k4) (n : Nat) : min (flAt k4 n) 201 = lAt (leastsN N) n := by
  obtain ⟨_, _, h3⟩ := least_done hN h.fd.i1 h.fd.s1
  rw [h.i4.fl, h.i3.fl, h.fd.i2.fl]
  exact h3.unique (leastsN_gfp N hN).1 n

end Go.Proofs.YtjjggdcnpndgjaaGreatDoor

namespace Go.Proofs.YtjjggdcnpndgjaaGreatDoor

theorem offAt_spec {n : Nat} {q : Nat → Bool} {i : Nat} (h : offAt n q = some i) : i < n ∧ q i = false ∧ ∀ j, j < i → q j = true := by
  unfold offAt at h
  rw [List.find?_eq_some_iff_getElem] at h
  obtain ⟨h1, m, hm, h2, h3⟩ := h
  simp at hm h2
  subst h2
  refine ⟨hm, by simpa using h1, fun j hj => ?_⟩
  have := h3 j hj
  simpa using this

theorem offAt_all {n : Nat} {q : Nat → Bool} (h : offAt n q = none) : ∀ j, j < n → q j = true := by
  intro j hj
  unfold offAt at h
  rw [List.find?_eq_none] at h
  have := h j (List.mem_range.2 hj)
  simpa using this

theorem idxF_off {p : Fa → Bool} {k : List Fa} {n : Nat} {q : Nat → Bool} (hl : k.length = n) (h : ∀ (i : Nat) a, k[i]? = some a → p a = !q i) : idxF p k = match offAt n q with
    | some i => (i : Int)
    | none => -1 := by
  cases ho : offAt n q with
  | some i =>
    obtain ⟨h1, h2, h3⟩ := offAt_spec ho
    refine idxF_at (a := k[i]) (List.getElem?_eq_getElem (by omega)) ?_ (fun m b hm hb => ?_)
    · rw [h i _ (List.getElem?_eq_getElem (by omega)), h2]; rfl
    · rw [h m b hb, h3 m hm]; rfl
  | none =>
    refine idxF_no fun m b hb => ?_
    rw [h m b hb, offAt_all ho m (by have := (List.getElem?_eq_some_iff.1 hb).1; omega)]; rfl

theorem fault_same {G : Gr} {N : NG} (hN : N.Ok) {pg : List Nm} {k1 k2 : List Fa} (h : Found N k1 k2) (hnm : ∀ i, i < N.nN → nmW pg i = nth G.names i) : faultP pg k2 = wasteB G N := by
  obtain ⟨l1, _, l3⟩ := least_done hN h.i1 h.s1
  have e1 := fun n => l1.unique (closedN_lfp N hN true).1 n
  have e2 := fun n => (reach_done hN h.i2 h.s2).unique (foundN_lfp N hN).1 n
  have e3 := fun n => l3.unique (leastsN_gfp N hN).1 n
  have hle := h.i1.le
  have i1 := idxF_off (p := fp1) (q := bAt (closedN N true)) h.i2.len (fun i a ha => by
    have h1 := fl_at ha
    rw [h.i2.fl] at h1
    rw [← e1 i, h1]
    unfold fp1
    by_cases hz : a.least = 202
    · simp [hz]
    · have : ((a.least : Int) == 202) = false := by simp; omega
      rw [this]; simp [hz])
  have i2 := idxF_off (p := fp2) (q := bAt (foundN N)) h.i2.len (fun i a ha => by
    rw [← e2 i, fr_at ha]; rfl)
  unfold faultP wasteB
  rw [i1, i2]
  cases h1 : offAt N.nN (bAt (closedN N true)) with
  | some i =>
    simp only
    rw [if_pos (by omega), hnm i (offAt_spec h1).1]
  | none =>
    simp only
    rw [if_neg (by decide)]
    cases h2 : offAt N.nN (bAt (foundN N)) with
    | some i =>
      simp only
      rw [if_pos (by omega), hnm i (offAt_spec h2).1]
    | none =>
      simp only
      rw [if_neg (by decide)]
      have i3 := idxF_off (p := fp3) (q := fun i => decide (lAt (leastsN N) i ≤ 200)) h.i2.len (fun i a ha => by
        have h3 := fl_at ha
        rw [h.i2.fl] at h3
        have hi : i < N.nN := by rw [← h.i2.len]; exact (List.getElem?_eq_some_iff.1 ha).1
        have h4 := offAt_all h1 i hi
        rw [← e1 i] at h4
        have h5 := of_decide_eq_true h4
        have h6 := e3 i
        have h7 := hle i
        rw [h3] at h5 h6 h7
        simp only [← h6]
        unfold fp3
        by_cases hz : a.least = 201
        · simp [hz]
        · have h8 : ((a.least : Int) == 201) = false := by simp; omega
          rw [h8]
          have h9 : min a.least 201 ≤ 200 := by omega
          simp [h9])
      rw [i3]
      cases h3 : offAt N.nN (fun i => decide (lAt (leastsN N) i ≤ 200)) with
      | some i =>
        simp only
        rw [if_pos (by omega), hnm i (offAt_spec h3).1]
      | none =>
        simp only
        rw [if_neg (by decide)]

end Go.Proofs.YtjjggdcnpndgjaaGreatDoor

namespace Go.Proofs.YtjjggdcnpndgjaaGreatDoor

/-- The words of a set, as the reference lists them. -/
theorem wds_same {tws : List ByteArray} {nT x : Nat} {row : List Bool} (hl : tws.length = nT) (hT : nT ≤ 20) (hr : ∀ t, t ≤ nT → bAt row t = x.testBit t) (hx : ∀ t, nT < t → x.testBit t = false) : wdsOf tws nT (bitsOf x) = listB tws row := by
  unfold wdsOf bitsOf listB
  obtain ⟨d, e⟩ : ∃ d, 21 = nT + 1 + d := ⟨20 - nT, by omega⟩
  rw [e, List.range_add, List.range_succ, hl]
  simp only [List.filter_append, List.map_append]
  have h1 : ((List.range d).map (nT + 1 + ·)).filter (fun i => x.testBit i) = [] := filter_none fun i hi => by
    obtain ⟨j, _, rfl⟩ := List.mem_map.1 hi
    exact hx _ (by omega)
  have h2 : (List.range nT).filter (fun i => x.testBit i) = (List.range nT).filter (fun t => bAt row t) := List.filter_congr fun i hi => (hr i (by have := List.mem_range.1 hi; omega)).symm
  have h3 : ((List.range nT).filter (fun t => bAt row t)).map (wordT tws nT) = ((List.range nT).filter (fun t => bAt row t)).map fun t => nth tws t := List.map_congr_left fun t ht => by
    have := List.mem_range.1 (List.mem_filter.1 ht).1
    unfold wordT
    rw [if_neg (by omega)]
  rw [h1, h2, h3, hr nT (Nat.le_refl _)]
  cases hb : x.testBit nT
  · simp [hb]
  · simp [hb, wordT]

theorem rows_same {G : Gr} {N : NG} (hN : N.Ok) (hT : N.nT ≤ 20) {tws : List ByteArray} {pg : List Nm} {k1 k2 k3 k4 : List Fa} (h : Done N k1 k2 k3 k4) (htw : tokWs G.toks = tws) (hl : tws.length = N.nT) (hnm : ∀ i, i < N.nN → nmW pg i = nth G.names i) (hok : (wasteB G N).2 = 0) :
    toldR (factP tws pg N.nT k4) N.nN N.nN = factsB G N N.nN := by
  have h200 : ∀ i, i < N.nN → lAt (leastsN N) i ≤ 200 := by
    intro i hi
    unfold wasteB at hok
    cases h1 : offAt N.nN (bAt (closedN N true)) with
    | some i => rw [h1] at hok; simp at hok
    | none =>
      rw [h1] at hok
      simp only at hok
      cases h2 : offAt N.nN (bAt (foundN N)) with
      | some i => rw [h2] at hok; simp at hok
      | none =>
        rw [h2] at hok
        simp only at hok
        cases h3 : offAt N.nN (fun i => decide (lAt (leastsN N) i ≤ 200)) with
        | some i => rw [h3] at hok; simp at hok
        | none => exact of_decide_eq_true (offAt_all h3 i hi)
  have hfb := first_bits hN h.i3
  unfold toldR factsB
  refine List.map_congr_left fun i hi => ?_
  have hi := List.mem_range.1 hi
  rw [if_pos hi]
  unfold factP factOf
  have e1 := congrFun (h.em hN) i
  have e2 := h.least hN i
  have e3 := h200 i hi
  have e4 : wdsOf tws N.nT (bitsOf (fhAt k4 i)) = listB tws (mAt (headsN N (bAt (closedN N false))) i) := wds_same hl hT (fun t _ => (h.first hN i t).symm) (fun t ht => by rw [h.i4.fh]; exact hfb i t (by omega))
  have e5 : wdsOf tws N.nT (bitsOf (foAt k4 i)) = listB tws (mAt (tailsN N (headsN N (bAt (closedN N false))) (bAt (closedN N false))) i) := wds_same hl hT (fun t _ => (h.follow hN hT i t).symm) (fun t ht => follow_bits hN hfb h.i4 i t ht)
  rw [e1, e4, e5, hnm i hi, htw]
  congr 1
  omega

end Go.Proofs.YtjjggdcnpndgjaaGreatDoor

namespace Go.Proofs.YtjjggdcnpndgjaaGreatDoor
open Go.RowKit Go.Shelf

set_option maxHeartbeats 1000000 in
set_option maxRecDepth 100000 in
/-- darn.Facts of a grammar. -/
theorem dfacts_ok (s : ByteArray) (w : World) (N : NG) (tws : List ByteArray) (pg : List Nm) (hT : TabAt 1 Lib.deBruijn32tab w) (h0 : 1 < w.heap.size)
    (R : List FactR) (hN : N.Ok)
    (hS : Calls Tryz.prog 68 #[.string s] w fun e w' => Below w.heap.size w w' ∧ ∃ k2 k3 k4 n₀ kb adT capT gN capN, FirstInv N k2 k3 ∧ FollowInv N k3 k4 ∧ toldR (factP tws pg N.nT k4) N.nN N.nN = R ∧ e = .returned (.tuple #[.agg #[.slice adT N.nT capT, .slice (some ⟨gN, 0, none⟩) N.nN capN, .slice (some ⟨kb, 0, none⟩) N.nN N.nN], .string ByteArray.empty, .int .i64 0]) ∧ n₀ ≤ kb ∧ PGr w' n₀ N tws pg adT capT gN capN ∧ KnV w' kb N.nN k4) :
    Calls Tryz.prog 28 #[.string s] w fun e w' => ∃ v ps, e = .returned (.tuple #[v, .int .i64 0]) ∧ FcV w' w.heap.size v R ps ∧ Below w.heap.size w w' := by
  have HS : Hid _ := hid hS
  have HT : Hid _ := hid hT
  have HNO : Hid _ := hid hN
  clear hS hT hN
  go_enter Tryz.func28, Tryz.ntmps28
  go_wp2_with (go_at_call 68; refine HS.out.mono ?_; rintro e w1 ⟨hb1, k2, k3, k4, n₀, kb, adT, capT, gN, capN, hi3, hi4, hR, rfl, hn0, hP, hK⟩; have HX : Hid _ := hid (And.intro hb1 (And.intro hn0 (And.intro hP hK))); have HI : Hid _ := hid (And.intro hi3 (And.intro hi4 HNO.out)); have HR : Hid _ := hid hR; clear hb1 hn0 hP hK hi3 hi4 hR HS)
  have hkl := HX.out.2.2.2.lt
  have X : FcM (w1.alloc (.cells #[.slice adT N.nT capT, .slice (some ⟨gN, 0, none⟩) N.nN capN, .slice (some ⟨kb, 0, none⟩) N.nN N.nN] 138)) n₀ w1.heap.size kb N tws pg adT capT gN capN k4 :=
    { gr := HX.out.2.2.1.below ((Below.refl n₀ w1).alloc (by have := HX.out.2.1; omega) _), n0 := HX.out.2.1, ne := by omega, lf := by rw [World.size_alloc]; omega, f0 := box_at w1 _ _ 0, f1 := box_at w1 _ _ 1, f2 := box_at w1 _ _ 2, kn := HX.out.2.2.2.keeps ((Keeps.refl w1 []).alloc _) (by simp) }
  have hbw : Below w.heap.size w (w1.alloc (.cells #[.slice adT N.nT capT, .slice (some ⟨gN, 0, none⟩) N.nN capN, .slice (some ⟨kb, 0, none⟩) N.nN N.nN] 138)) := bal HX.out.1
  have hfb := first_bits HI.out.2.2 HI.out.1
  have CT := told_any _ n₀ w1.heap.size kb N tws pg adT capT gN capN k4 X (TabAt.below HT.out hbw h0)
    (fun n => ⟨by rw [HI.out.2.1.fh]; exact HI.out.1.lt n, fun t ht => by
      have h1 := mem_bits ht
      rw [HI.out.2.1.fh] at h1
      rcases Nat.lt_or_ge N.nT t with h2 | h2
      · rw [hfb n t (by omega)] at h1; cases h1
      · exact h2⟩)
    (fun n => ⟨HI.out.2.1.lt n, fun t ht => by
      have h1 := mem_bits ht
      rcases Nat.lt_or_ge N.nT t with h2 | h2
      · rw [follow_bits HI.out.2.2 hfb HI.out.2.1 n t h2] at h1; cases h1
      · exact h2⟩)
  have HCT : Hid _ := hid CT
  have HBW : Hid _ := hid hbw
  clear CT hfb X hbw
  refine HCT.out.mono ?_
  rintro e w2 ⟨v, ps, rfl, hv, hb2⟩
  have HV : Hid _ := hid (hv.base HBW.out.size)
  have HB2 : Hid _ := hid (HBW.out.trans (hb2.mono HBW.out.size))
  clear hv hb2
  go_wp2
  go_ret2
  exact ⟨_, ps, rfl, by rw [← HR.out]; exact HV.out, HB2.out⟩

end Go.Proofs.YtjjggdcnpndgjaaGreatDoor
