/- What (*Facts) methods lean on; leastOfPart and leastOf. (*Facts).leastOf: what a list of parts least costs. findLeast's step, and findLeast. findLeast. findReached's step. findReached. -/
import Derived.Test.YtjjggdcnpndgjaaGreatDoorJPset2
import Derived.Test.YtjjggdcnpndgjaaGreatDoorJ1
import Derived.Test.YtjjggdcnpndgjaaGreatDoorJ6
namespace Go.Proofs.YtjjggdcnpndgjaaGreatDoor
open Go.RowKit Go.Shelf

/-- A Facts in memory: block fb; what is known of its names: block kb. -/
structure FcM (w : World) (n₀ fb kb : Nat) (N : NG) (tws : List ByteArray) (pg : List Nm) (adT : Option Addr) (capT gN capN : Nat) (k : List Fa) : Prop where
  gr : PGr w n₀ N tws pg adT capT gN capN
  n0 : n₀ ≤ kb
  ne : fb ≠ kb
  lf : fb < w.heap.size
  f0 : w.cell? ⟨fb, 0, none⟩ = some (.slice adT N.nT capT)
  f1 : w.cell? ⟨fb, 1, none⟩ = some (.slice (some ⟨gN, 0, none⟩) N.nN capN)
  f2 : w.cell? ⟨fb, 2, none⟩ = some (.slice (some ⟨kb, 0, none⟩) N.nN N.nN)
  kn : KnV w kb N.nN k

theorem FcM.ln {w : World} {n₀ fb kb : Nat} {N : NG} {tws : List ByteArray} {pg : List Nm} {adT : Option Addr} {capT gN capN : Nat} {k : List Fa} (h : FcM w n₀ fb kb N tws pg adT capT gN capN k) : n₀ ≤ w.heap.size := by
  have := h.n0
  have := h.kn.lt
  omega

theorem FcM.keeps {w w' : World} {n₀ fb kb : Nat} {N : NG} {tws : List ByteArray} {pg : List Nm} {adT : Option Addr} {capT gN capN : Nat} {k k' : List Fa} (h : FcM w n₀ fb kb N tws pg adT capT gN capN k) (hk : Keeps w w' [kb]) (hn : KnV w' kb N.nN k') : FcM w' n₀ fb kb N tws pg adT capT gN capN k' where
  gr := h.gr.below (hk.below h.ln (fun q hq => by have := List.mem_singleton.1 hq; have := h.n0; omega))
  n0 := h.n0
  ne := h.ne
  lf := Nat.lt_of_lt_of_le h.lf hk.size
  f0 := (hk.cell (by exact h.lf) (by simpa using h.ne)).trans h.f0
  f1 := (hk.cell (by exact h.lf) (by simpa using h.ne)).trans h.f1
  f2 := (hk.cell (by exact h.lf) (by simpa using h.ne)).trans h.f2
  kn := hn

theorem FcM.below {w w' : World} {n₀ fb kb : Nat} {N : NG} {tws : List ByteArray} {pg : List Nm} {adT : Option Addr} {capT gN capN : Nat} {k : List Fa} (h : FcM w n₀ fb kb N tws pg adT capT gN capN k) (hb : Below w.heap.size w w') : FcM w' n₀ fb kb N tws pg adT capT gN capN k :=
  h.keeps (Keeps.of_below hb _) (h.kn.keeps (Keeps.of_below hb []) (by simp))

/-- A part whose number is one of the grammar's. -/
def PtOk (N : NG) : Pt → Prop
  | .tok t => t < N.nT
  | .nam n => n < N.nN

theorem PsOk.at {N : NG} {ps : List Pt} (h : PsOk N ps) {i : Nat} {p : Pt} (hp : ps[i]? = some p) : PtOk N p := by
  have hm := List.mem_of_getElem? hp
  cases p with
  | tok t => exact h.2 t hm
  | nam n => exact h.1 n hm

theorem fl_at {k : List Fa} {n : Nat} {a : Fa} (h : k[n]? = some a) : flAt k n = a.least := by unfold flAt; rw [h]; rfl
theorem fr_at {k : List Fa} {n : Nat} {a : Fa} (h : k[n]? = some a) : frAt k n = a.reached := by unfold frAt; rw [h]; rfl
theorem fh_at {k : List Fa} {n : Nat} {a : Fa} (h : k[n]? = some a) : fhAt k n = a.first := by unfold fhAt; rw [h]; rfl
theorem fo_at {k : List Fa} {n : Nat} {a : Fa} (h : k[n]? = some a) : foAt k n = a.follow := by unfold foAt; rw [h]; rfl

set_option maxHeartbeats 1000000 in
set_option maxRecDepth 100000 in
theorem part_any (w : World) (n₀ fb kb : Nat) (N : NG) (tws : List ByteArray) (pg : List Nm) (adT : Option Addr) (capT gN capN : Nat) (k : List Fa) (h : FcM w n₀ fb kb N tws pg adT capT gN capN k) (p : Pt) (hp : PtOk N p) :
    Calls Tryz.prog 206 #[.pointer (some ⟨fb, 0, none⟩), .agg #[.bool (isNam p), .int .i64 (numOf p)]] w fun e w' => e = .returned (.int .i64 (costP N k p)) ∧ Below w.heap.size w w' := by
  have hlf := h.lf
  have h0 := h.f0
  have h2 := h.f2
  have hnN := h.gr.leN
  have hnT := h.gr.leT
  have hkb := h.kn.lt
  have H : Hid _ := hid h
  clear h
  cases p with
  | tok t =>
    have ht : t < N.nT := hp
    obtain ⟨gT, rfl, hgT, _, hT⟩ := H.out.gr.toks t ht
    have hgw : gT < w.heap.size := by have := H.out.ln; omega
    simp only [isNam, numOf]
    have hr : Hid (costP N k (.tok t) = N.put t) := hid rfl
    obtain ⟨nT, hn1⟩ : ∃ n, n = N.nT := ⟨_, rfl⟩
    rw [← hn1] at h0 ht hnT
    have H1 : Hid (nT = N.nT) := hid hn1
    clear hn1 h2
    go_enter Tryz.func206, Tryz.ntmps206
    go_wp2
    go_quiet (fail)
    go_wp2
    go_ret
    exact ⟨by rw [hr.out]; rfl, by first | exact ((Below.refl _ _).alloc (Nat.le_refl _) _) | exact ((Below.refl _ _).alloc (Nat.le_refl _) _).trans (below_draws _ _ |>.mono (by simp))⟩
  | nam n =>
    have hn : n < N.nN := hp
    obtain ⟨a, ha⟩ : ∃ a, k[n]? = some a := ⟨_, List.getElem?_eq_getElem (by rw [H.out.kn.1]; exact hn)⟩
    have c0 := (H.out.kn.cells ha).1
    simp only [isNam, numOf]
    have hr : Hid (costP N k (.nam n) = a.least) := hid (fl_at ha)
    obtain ⟨nN, hn1⟩ : ∃ n, n = N.nN := ⟨_, rfl⟩
    rw [← hn1] at h2 hn hnN
    have H1 : Hid (nN = N.nN) := hid hn1
    clear hn1 h0 ha
    go_enter Tryz.func206, Tryz.ntmps206
    go_wp2
    go_quiet (fail)
    go_wp2
    go_ret
    exact ⟨by rw [hr.out]; rfl, by first | exact ((Below.refl _ _).alloc (Nat.le_refl _) _) | exact ((Below.refl _ _).alloc (Nat.le_refl _) _).trans (below_draws _ _ |>.mono (by simp))⟩

end Go.Proofs.YtjjggdcnpndgjaaGreatDoor

namespace Go.Proofs.YtjjggdcnpndgjaaGreatDoor
open Go.RowKit Go.Shelf

theorem drop_at {α : Type} {l : List α} {j : Nat} {x : α} (h : l[j]? = some x) : l.drop j = x :: l.drop (j + 1) := by
  obtain ⟨hj, rfl⟩ := List.getElem?_eq_some_iff.1 h
  exact List.drop_eq_getElem_cons hj

set_option maxHeartbeats 1000000 in
set_option maxRecDepth 100000 in
theorem leastOf_any (w : World) (n₀ fb kb : Nat) (N : NG) (tws : List ByteArray) (pg : List Nm) (adT : Option Addr) (capT gN capN : Nat) (k : List Fa) (h : FcM w n₀ fb kb N tws pg adT capT gN capN k) (hfl : ∀ n, flAt k n ≤ 202) (v : Value) (ps : List Pt) (hv : PartsV w n₀ v ps) (hps : PsOk N ps) (hlen : ps.length ≤ 8) :
    Calls Tryz.prog 155 #[.pointer (some ⟨fb, 0, none⟩), v] w fun e w' => e = .returned (.int .i64 (leastOfP N k ps 0)) ∧ Below w.heap.size w w' := by
  obtain ⟨ad, cap, rfl, hcap, hcs⟩ := hv
  obtain ⟨L, hL⟩ : ∃ L, L = ps.length := ⟨_, rfl⟩
  rw [← hL] at hcap hcs hlen ⊢
  have hlw := h.ln
  have H : Hid _ := hid h
  have HL : Hid (L = ps.length) := hid hL
  have HC : Hid _ := hid hcs
  have HP : Hid (PsOk N ps) := hid hps
  have HF : Hid (∀ n, flAt k n ≤ 202) := hid hfl
  clear h hL hcs hps hfl
  go_enter Tryz.func155, Tryz.ntmps155
  go_wp2
  go_loopw [5, 11] (fun s i wr => ∃ j sN : Nat, j ≤ L ∧ i = .int .i64 j ∧ s = .int .i64 sN ∧ sN ≤ 201 ∧ Hid (leastOfP N k ps 0 = leastOfP N k (ps.drop j) sN) ∧ Hid (Below w.heap.size w wr)) (fun _ i _ => L - (intOf i).toNat)
  case atStart => exact ⟨0, 0, Nat.zero_le _, rfl, rfl, by omega, rfl, Below.refl _ _⟩
  case round =>
    obtain ⟨j, sN, hj, rfl, rfl, hs, HE, HB⟩ := hrel
    by_cases hlt : j < L
    · obtain ⟨p, hp⟩ : ∃ p, ps[j]? = some p := ⟨_, List.getElem?_eq_getElem (by rw [← HL.out]; exact hlt)⟩
      obtain ⟨g, off, rfl, hg, hcl⟩ := HC.out (by omega)
      have hgw : g < wr.heap.size := by have := HB.out.size; omega
      have p0 := (HB.out.cell (p := ⟨g, off + j * 2, none⟩) (by show g < w.heap.size; omega)).trans (hcl j p hp).1
      have p1 := (HB.out.cell (p := ⟨g, off + j * 2 + 1, none⟩) (by show g < w.heap.size; omega)).trans (hcl j p hp).2
      have HPt : Hid (PtOk N p) := hid (HP.out.at hp)
      have HD : Hid (ps.drop j = p :: ps.drop (j + 1)) := hid (drop_at hp)
      have HK : Hid (FcM wr n₀ fb kb N tws pg adT capT gN capN k) := hid (H.out.below HB.out)
      have CP := part_any (wr.alloc (.cells #[.bool (isNam p), .int .i64 (numOf p)] 235)) n₀ fb kb N tws pg adT capT gN capN k (HK.out.below ((Below.refl _ _).alloc (Nat.le_refl _) _)) p HPt.out
      have hc2 : costP N k p ≤ 202 := by
        have h1 := HPt.out
        cases p with
        | tok t => have := H.out.gr.ok.put2 t h1; show N.put t ≤ 202; omega
        | nam n => exact HF.out n
      obtain ⟨c, hc⟩ : ∃ c, c = costP N k p := ⟨_, rfl⟩
      rw [← hc] at CP hc2
      have HC2 : Hid (c = costP N k p) := hid hc
      have hsz : wr.heap.size ≤ (wr.alloc (.cells #[.bool (isNam p), .int .i64 (numOf p)] 235)).heap.size := by simp
      clear hcl hp hc
      by_cases h202 : c = 202
      · have HE2 : Hid (leastOfP N k ps 0 = 202) := hid (by
          rw [HE.out, HD.out]
          simp only [leastOfP]
          rw [if_pos (by rw [← HC2.out]; exact h202)])
        subst h202
        go_wp2_with (go_at_call 206; refine CP.mono ?_; rintro e w2 ⟨rfl, hb2⟩; have HB2 : Hid (Below w.heap.size w w2) := hid ((HB.out.alloc HB.out.size _).trans (hb2.mono (by have := HB.out.size; omega))); clear hb2 CP)
        go_ret
        exact ⟨by rw [HE2.out]; rfl, HB2.out⟩
      · have HE2 : Hid (leastOfP N k ps 0 = leastOfP N k (ps.drop (j + 1)) (min (sN + c) 201)) := hid (by
          rw [HE.out, HD.out]
          simp only [leastOfP]
          rw [if_neg (by rw [← HC2.out]; exact h202), ← HC2.out])
        have hne : ((c : Int) == 202) = false := by simp; omega
        go_wp2_with (go_at_call 206; refine CP.mono ?_; rintro e w2 ⟨rfl, hb2⟩; have HB2 : Hid (Below w.heap.size w w2) := hid ((HB.out.alloc HB.out.size _).trans (hb2.mono (by have := HB.out.size; omega))); clear hb2 CP)
        go_roundw
        case rel => exact ⟨j + 1, min (sN + c) 201, by omega, by go_num, by go_num, by omega, HE2, HB2⟩
        case measure => simp [intOf]; omega
    · have HE2 : Hid (leastOfP N k ps 0 = sN) := hid (by
        rw [HE.out, List.drop_eq_nil_of_le (by rw [← HL.out]; omega)]
        rfl)
      go_wp2
      go_ret
      exact ⟨by rw [HE2.out]; rfl, HB.out⟩

end Go.Proofs.YtjjggdcnpndgjaaGreatDoor

namespace Go.Proofs.YtjjggdcnpndgjaaGreatDoor
open Go.RowKit Go.Shelf

theorem KnV.least {w : World} {kb n : Nat} {k : List Fa} (h : KnV w kb n k) {i : Nat} (hi : i < n) {a : Fa} (ha : k[i]? = some a) (c x : Nat) (hx : x = min a.least c) :
    KnV (w.setCell ⟨kb, i * 4, none⟩ (.int .i64 x)) kb n (k.modify i fun a => { a with least := min a.least c }) ∧ Keeps w (w.setCell ⟨kb, i * 4, none⟩ (.int .i64 x)) [kb] :=
  h.put hi _ 0 (by omega) _ (fun b hb => by rw [ha] at hb; cases hb; rw [hx]; rfl)

set_option maxHeartbeats 1000000 in
set_option maxRecDepth 100000 in
theorem least1_any (w : World) (n₀ fb kb : Nat) (N : NG) (tws : List ByteArray) (pg : List Nm) (adT : Option Addr) (capT gN capN : Nat) (k : List Fa) (h : FcM w n₀ fb kb N tws pg adT capT gN capN k) (hfl : ∀ n, flAt k n ≤ 202)
    (Bx : Nat) (hBx : w.cell? ⟨Bx, 0, none⟩ = some (.pointer (some ⟨fb, 0, none⟩))) (v : Value) (r : Nat × List Pt) (hr : r ∈ N.rules) (hv : PartsV w n₀ v r.2) :
    Calls Tryz.prog 154 #[.pointer (some ⟨kb, r.1 * 4, none⟩), v, .pointer (some ⟨Bx, 0, none⟩)] w fun e w' => e = .returned (.tuple #[]) ∧ KnV w' kb N.nN (stepLeast N k r) ∧ Keeps w w' [kb] := by
  obtain ⟨n, ps⟩ := r
  have hn : n < N.nN := h.gr.ok.lt _ hr
  simp only at hv ⊢
  have hps : PsOk N ps := h.gr.ok.ps hr
  have hlen : ps.length ≤ 8 := h.gr.ok.parts _ hr
  obtain ⟨a, ha⟩ : ∃ a, k[n]? = some a := ⟨_, List.getElem?_eq_getElem (by rw [h.kn.1]; exact hn)⟩
  have c0 := (h.kn.cells ha).1
  have fz := h.kn.free (n * 4)
  have hkw := h.kn.lt
  have hBw := World.block_lt_of_cell? w _ hBx
  have CL := leastOf_any w.drew n₀ fb kb N tws pg adT capT gN capN k (h.below ⟨rfl, rfl, rfl, Nat.le_refl _, fun _ _ => rfl⟩) hfl v ps (hv.below ⟨rfl, rfl, rfl, Nat.le_refl _, fun _ _ => rfl⟩) hps hlen
  obtain ⟨ad, cap, hve, _⟩ := hv
  subst hve
  have H : Hid _ := hid h
  have HA : Hid _ := hid ha
  have HN : Hid (n < N.nN) := hid hn
  obtain ⟨c, hc⟩ : ∃ c, c = leastOfP N k ps 0 := ⟨_, rfl⟩
  rw [← hc] at CL
  have HCE : Hid (c = leastOfP N k ps 0) := hid hc
  have HCL : Hid _ := hid CL
  clear h hfl hr hps hlen ha hn hc CL
  have hst : stepLeast N k (n, ps) = k.modify n fun a => { a with least := min a.least c } := by rw [HCE.out]; rfl
  have HST : Hid _ := hid hst
  clear hst
  go_enter Tryz.func154, Tryz.ntmps154
  refine wp_region_last (fun w' => w'.cell? ⟨kb, n * 4, none⟩ = some (.int .i64 a.least) ∧ w'.cell? ⟨Bx, 0, none⟩ = some (.pointer (some ⟨fb, 0, none⟩)) ∧ w'.frozen? ⟨kb, n * 4, none⟩ = false ∧ Below w.heap.size w w') (by kernel_rfl) (by kernel_rfl) ⟨c0, hBx, fz, ⟨rfl, rfl, rfl, Nat.le_refl _, fun _ _ => rfl⟩⟩ (fun hHeld => ?_)
  simp only [cutLast, idle, lastOf]
  refine tkA 0 ?vv24 rfl ?hy24 hHeld ?_
  case hy24 => (intro w hSw; (try dsimp only at hSw); first | (go_simp; done) | (go_simp; with_reducible rfl))
  try simp only [zA, zC, Act.put, zD, zE, zF]
  refine tkA 1 ?vv14 rfl ?hy14 hHeld ?_
  case hy14 => (intro w hSw; (try dsimp only at hSw); first | (go_simp; done) | (go_simp; with_reducible rfl))
  try simp only [zA, zB, zC, Act.put, zD, zE, zF]
  refine tkA 2 ?vv15 rfl ?hy15 hHeld ?_
  case hy15 => (intro w hSw; (try dsimp only at hSw); first | (go_simp; done) | (go_simp; with_reducible rfl))
  try simp only [zA, zB, zC, Act.put, zD, zE, zF]
  refine tkA 3 ?vv16 rfl ?hy16 hHeld ?_
  case hy16 => (intro w hSw; (try dsimp only at hSw); first | (go_simp; done) | (go_simp; with_reducible rfl))
  try simp only [zA, zB, zC, Act.put, zD, zE, zF]
  refine tkA 4 ?vv17 rfl ?hy17 hHeld ?_
  case hy17 => (intro w hSw; (try dsimp only at hSw); first | (go_simp; done) | (go_simp; with_reducible rfl))
  try simp only [zA, zB, zC, Act.put, zD, zE, zF]
  refine tkA 5 ?vv18 rfl ?hy18 hHeld ?_
  case hy18 => (intro w hSw; (try dsimp only at hSw); first | (go_simp; done) | (go_simp; with_reducible rfl))
  try simp only [zA, zB, zC, Act.put, zD, zE, zF]
  refine tkA 6 ?vv19 rfl ?hy19 hHeld ?_
  case hy19 => (intro w hSw; (try dsimp only at hSw); first | (go_simp; done) | (go_simp; with_reducible rfl))
  try simp only [zA, zB, zC, Act.put, zD, zE, zF]
  refine wpAnyH_ready (rs := [7]) (by kernel_rfl) (by simp) ?_
  refine AllReadyH.cons rfl (fun K hK => ?_) AllReadyH.nil
  try simp only [zA, zB, zC]
  rw [if_pos (by rfl)]; go_simp; refine HCL.out.mono ?_; rintro e w2 ⟨rfl, hb2⟩
  refine hK.out _ _ ?_ (fun hHeld => ?_)
  · exact ⟨(hb2.cell (by exact hkw)).trans hHeld.1, (hb2.cell (by exact hBw)).trans hHeld.2.1, (World.frozen?_of_block (w := w.drew) (hb2.block kb hkw)).trans hHeld.2.2.1, hHeld.2.2.2.trans hb2⟩
  clear hK K
  try simp only [zA, zB, zC, Act.put, zD, zE, zF]
  refine tkA 8 ?vv20 rfl ?hy20 hHeld ?_
  case hy20 => (intro w hSw; (try dsimp only at hSw); first | (go_simp; done) | (go_simp; with_reducible rfl))
  try simp only [zA, zB, zC, Act.put, zD, zE, zF]
  refine tkA 9 ?vv21 rfl ?hy21 hHeld ?_
  case hy21 => (intro w hSw; (try dsimp only at hSw); first | (go_simp; done) | (go_simp; with_reducible rfl))
  try simp only [zA, zB, zC, Act.put, zD, zE, zF]
  refine tkA 10 ?vv22 rfl ?hy22 hHeld ?_
  case hy22 => (intro w hSw; (try dsimp only at hSw); first | (go_simp; done) | (go_simp; with_reducible rfl))
  try simp only [zA, zB, zC, Act.put, zD, zE, zF]
  refine tkA 11 ?vv23 rfl ?hy23 hHeld ?_
  case hy23 => (intro w hSw; (try dsimp only at hSw); first | (go_simp; done) | (go_simp; with_reducible rfl))
  try simp only [zA, zB, zC, Act.put]
  refine wpAnyH_done (by kernel_rfl) ?_ _
  have HB2 : Hid _ := hid hHeld.2.2.2
  have hz1 := hHeld.1
  have hz2 := hHeld.2.2.1
  clear hHeld
  show wpList _ _ _ _ _ _
  go_wp2
  all_goals go_end0
  · obtain ⟨h1, h2⟩ := KnV.least (H.out.kn.keeps (Keeps.of_below HB2.out []) (by simp)) HN.out HA.out c c (by omega)
    exact ⟨rfl, by rw [HST.out]; exact h1, (Keeps.of_below HB2.out _).trans h2⟩
  · obtain ⟨h1, h2⟩ := KnV.least (H.out.kn.keeps (Keeps.of_below HB2.out []) (by simp)) HN.out HA.out c a.least (by omega)
    exact ⟨rfl, by rw [HST.out]; exact h1, (Keeps.of_below HB2.out _).trans h2⟩

end Go.Proofs.YtjjggdcnpndgjaaGreatDoor

namespace Go.Proofs.YtjjggdcnpndgjaaGreatDoor
open Go.RowKit Go.Shelf

/-- Nothing is known; of the first j names what they least cost is barren. -/
def fillL (n j : Nat) : List Fa := (List.range n).map fun i => { least := if i < j then 202 else 0, reached := false, first := 0, follow := 0 }

theorem fillL_len (n j : Nat) : (fillL n j).length = n := by simp [fillL]

theorem fillL_at {n j i : Nat} (h : i < n) : (fillL n j)[i]? = some { least := if i < j then 202 else 0, reached := false, first := 0, follow := 0 } := by
  simp [fillL, h]

theorem fillL_next {n j : Nat} : (fillL n j).modify j (fun a => { a with least := 202 }) = fillL n (j + 1) := by
  apply List.ext_getElem?
  intro i
  rw [modify_at]
  by_cases hi : i < n
  · rw [fillL_at hi, fillL_at hi]
    split
    · rename_i e
      subst e
      simp
    · rename_i e
      congr 2
      by_cases h1 : i < j
      · rw [if_pos h1, if_pos (by omega)]
      · rw [if_neg h1, if_neg (by omega)]
  · rw [List.getElem?_eq_none (by rw [fillL_len]; omega), List.getElem?_eq_none (by rw [fillL_len]; omega)]
    simp

theorem fillL_fl (n : Nat) (m : Nat) : flAt (fillL n n) m = 202 := by
  unfold flAt
  by_cases h : m < n
  · rw [fillL_at h]; simp [h]
  · rw [List.getElem?_eq_none (by rw [fillL_len]; omega)]; rfl

theorem fillL_inv (N : NG) : LeastInv N (fillL N.nN N.nN) where
  len := fillL_len _ _
  only := fun a ha => by
    obtain ⟨i, _, rfl⟩ := List.mem_map.1 ha
    exact ⟨rfl, rfl, rfl⟩
  le := fun n => by rw [fillL_fl]; omega
  bar := fun T _ n h => absurd (fillL_fl _ n) h
  nul := fun T _ n h => by rw [fillL_fl] at h; omega
  gr := fun T hT _ n => by rw [fillL_fl]; have := hT n; omega

set_option maxHeartbeats 1000000 in
set_option maxRecDepth 100000 in
theorem findLeast_any (w : World) (n₀ fb kb : Nat) (N : NG) (tws : List ByteArray) (pg : List Nm) (adT : Option Addr) (capT gN capN : Nat) (h : FcM w n₀ fb kb N tws pg adT capT gN capN (fillL N.nN 0)) :
    Calls Tryz.prog 106 #[.pointer (some ⟨fb, 0, none⟩)] w fun e w' => e = .returned (.tuple #[]) ∧ Keeps w w' [kb] ∧ ∃ k, LeastInv N k ∧ (∀ r ∈ N.rules, stepLeast N k r = k) ∧ KnV w' kb N.nN k := by
  have hlf := h.lf
  have h2 := h.f2
  have hnN := h.gr.leN
  have hkb := h.kn.lt
  have hne := h.ne
  have H : Hid _ := hid h
  obtain ⟨nN, hn1⟩ : ∃ n, n = N.nN := ⟨_, rfl⟩
  rw [← hn1] at h2 hnN
  have HN : Hid (nN = N.nN) := hid hn1
  clear h hn1
  go_enter Tryz.func106, Tryz.ntmps106
  go_wp2
  go_loopw [8] (fun i wr => ∃ j : Nat, j ≤ nN ∧ i = .int .i64 j ∧ Hid (Keeps w wr [kb]) ∧ Hid (KnV wr kb nN (fillL nN j)) ∧ wr.cell? ⟨w.heap.size, 0, none⟩ = some (.pointer (some ⟨fb, 0, none⟩)) ∧ wr.cell? ⟨fb, 2, none⟩ = some (.slice (some ⟨kb, 0, none⟩) nN nN)) (fun i _ => nN - (intOf i).toNat)
  case atStart => exact ⟨0, Nat.zero_le _, rfl, (Keeps.refl _ _).alloc _, hid (by rw [HN.out]; exact H.out.kn.keeps ((Keeps.refl w []).alloc _) (by simp)), box_new _ _ _, box_alloc _ h2⟩
  case round =>
    obtain ⟨j, hj, rfl, HK, HV, hb, hf⟩ := hrel
    have hfz := HV.out.free (j * 4)
    by_cases hlt : j < nN
    · have hc := (HV.out.cells (fillL_at hlt)).1
      have hbs := World.block_lt_of_cell? wr _ hb
      go_wp2
      go_roundw
      case rel =>
        obtain ⟨h3, h4⟩ := HV.out.put hlt (fun a => { a with least := 202 }) 0 (by omega) (.int .i64 202) (fun a _ => rfl)
        rw [fillL_next] at h3
        refine ⟨j + 1, by omega, by go_num, hid (HK.out.trans h4), h3, ?_, ?_⟩
        · exact (h4.cell (by exact hbs) (by show w.heap.size ∉ [kb]; simp; omega)).trans hb
        · exact (h4.cell (by show fb < wr.heap.size; have := HK.out.size; omega) (by simpa using hne)).trans hf
      case measure => simp [intOf]; omega
    · obtain rfl : j = nN := by omega
      have HX : Hid (FcM wr n₀ fb kb N tws pg adT capT gN capN (fillL N.nN N.nN)) := hid (H.out.keeps HK.out (by have h3 := HV.out; rw [HN.out] at h3; exact h3))
      have hbs : w.heap.size < wr.heap.size := World.block_lt_of_cell? wr _ hb
      have CS := settle_any N tws pg adT capT gN capN kb fb n₀ wr HX.out.gr HX.out.n0 HX.out.lf HX.out.ne HX.out.ln HX.out.f0 HX.out.f1 HX.out.f2 154 #[.pointer (some ⟨w.heap.size, 0, none⟩)] (enters_of Tryz.func154 (by kernel_rfl) rfl)
        (stepLeast N) (msum (·.least)) (LeastInv N) (fun k hk r hr => stepLeast_ok HX.out.gr.ok hk hr)
        (fun W k r v hW hk hI hr hv => least1_any W n₀ fb kb N tws pg adT capT gN capN k (HX.out.keeps hW hk) hI.le w.heap.size ((hW.cell (by exact hbs) (by show w.heap.size ∉ [kb]; simp; omega)).trans hb) v r hr hv)
        HX.out.gr.ok.pos (fillL N.nN N.nN) HX.out.kn (fillL_inv N)
      have HCS : Hid _ := hid CS
      clear CS
      go_wp2_with (go_at_call 153; refine HCS.out.mono ?_; rintro e w2 ⟨rfl, hk2, hr2⟩; have HR : Hid _ := hid (And.intro hk2 hr2); clear hk2 hr2)
      go_end0
      exact ⟨rfl, HK.out.trans HR.out.1, HR.out.2⟩

end Go.Proofs.YtjjggdcnpndgjaaGreatDoor

namespace Go.Proofs.YtjjggdcnpndgjaaGreatDoor
open Go.RowKit Go.Shelf

set_option maxHeartbeats 2000000 in
set_option maxRecDepth 100000 in
theorem reach1_any (w : World) (n₀ fb kb : Nat) (N : NG) (tws : List ByteArray) (pg : List Nm) (adT : Option Addr) (capT gN capN : Nat) (k : List Fa) (h : FcM w n₀ fb kb N tws pg adT capT gN capN k)
    (Bx : Nat) (hBx : w.cell? ⟨Bx, 0, none⟩ = some (.pointer (some ⟨fb, 0, none⟩))) (hBk : Bx ≠ kb) (v : Value) (r : Nat × List Pt) (hr : r ∈ N.rules) (hv : PartsV w n₀ v r.2) :
    Calls Tryz.prog 156 #[.pointer (some ⟨kb, r.1 * 4, none⟩), v, .pointer (some ⟨Bx, 0, none⟩)] w fun e w' => e = .returned (.tuple #[]) ∧ KnV w' kb N.nN (stepReach k r) ∧ Keeps w w' [kb] := by
  obtain ⟨m, ps⟩ := r
  have hm : m < N.nN := h.gr.ok.lt _ hr
  simp only at hv ⊢
  have hps : PsOk N ps := h.gr.ok.ps hr
  have hlen : ps.length ≤ 8 := h.gr.ok.parts _ hr
  have hkw := h.kn.lt
  have hfw := h.lf
  have hne := h.ne
  have hlw := h.ln
  have hnk := h.n0
  have h2 := h.f2
  have hBw : Bx < w.heap.size := World.block_lt_of_cell? w _ hBx
  obtain ⟨ad, cap, rfl, hcap, hcs⟩ := hv
  obtain ⟨L, hL⟩ : ∃ L, L = ps.length := ⟨_, rfl⟩
  rw [← hL] at hcap hcs hlen ⊢
  obtain ⟨nN, hn1⟩ : ∃ n, n = N.nN := ⟨_, rfl⟩
  have hn20 := h.gr.leN
  have hkn := h.kn
  rw [← hn1] at h2 hm hn20 hkn ⊢
  have HN : Hid (nN = N.nN) := hid hn1
  have HKN : Hid (KnV w kb nN k) := hid hkn
  have HL : Hid (L = ps.length) := hid hL
  have HC : Hid _ := hid hcs
  have HP : Hid (PsOk N ps) := hid hps
  have HB0 : Hid (w.cell? ⟨Bx, 0, none⟩ = some (.pointer (some ⟨fb, 0, none⟩))) := hid hBx
  have HF0 : Hid (w.cell? ⟨fb, 2, none⟩ = some (.slice (some ⟨kb, 0, none⟩) nN nN)) := hid h2
  clear h hr hL hcs hps hn1 hkn hBx h2
  show Calls _ _ _ _ fun e w' => e = .returned (.tuple #[]) ∧ KnV w' kb nN (reachP m ps k) ∧ Keeps w w' [kb]
  go_enter Tryz.func156, Tryz.ntmps156
  go_wp2
  go_loopw [9] (fun i wr => ∃ (j : Nat) (kj : List Fa), j ≤ L ∧ i = .int .i64 j ∧ Hid (reachP m ps k = reachP m (ps.drop j) kj) ∧ Hid (KnV wr kb nN kj) ∧ Hid (Keeps w wr [kb])) (fun i _ => L - (intOf i).toNat)
  case atStart => exact ⟨0, k, Nat.zero_le _, rfl, rfl, HKN, Keeps.refl _ _⟩
  case round =>
    obtain ⟨j, kj, hj, rfl, HE, HV, HK⟩ := hrel
    by_cases hlt : j < L
    · obtain ⟨p, hp⟩ : ∃ p, ps[j]? = some p := ⟨_, List.getElem?_eq_getElem (by rw [← HL.out]; exact hlt)⟩
      obtain ⟨g, off, rfl, hg, hcl⟩ := HC.out (by omega)
      have hszw := HK.out.size
      have hgw : g < wr.heap.size := by omega
      have hgk : g ∉ [kb] := by simp; omega
      have p0 := (HK.out.cell (p := ⟨g, off + j * 2, none⟩) (by show g < w.heap.size; omega) hgk).trans (hcl j p hp).1
      have p1 := (HK.out.cell (p := ⟨g, off + j * 2 + 1, none⟩) (by show g < w.heap.size; omega) hgk).trans (hcl j p hp).2
      have bx := (HK.out.cell (p := ⟨Bx, 0, none⟩) (by exact hBw) (by simpa using hBk)).trans HB0.out
      have fx := (HK.out.cell (p := ⟨fb, 2, none⟩) (by exact hfw) (by simpa using hne)).trans HF0.out
      have hpt := HP.out.at hp
      have HD : Hid (ps.drop j = p :: ps.drop (j + 1)) := hid (drop_at hp)
      obtain ⟨a, ha⟩ : ∃ a, kj[m]? = some a := ⟨_, List.getElem?_eq_getElem (by rw [HV.out.1]; exact hm)⟩
      have c1 := (HV.out.cells ha).2.1
      clear hcl hp
      cases p with
      | tok t =>
        simp only [isNam, numOf] at p0 p1
        have HE2 : Hid (reachP m ps k = reachP m (ps.drop (j + 1)) kj) := hid (by rw [HE.out, HD.out]; rfl)
        clear hpt ha
        go_wp2
        go_roundw
        case rel => exact ⟨j + 1, kj, by omega, by go_num, HE2, hid (HV.out.keeps ((Keeps.refl _ []).alloc _) (by simp)), hid (HK.out.alloc _)⟩
        case measure => simp [intOf]; omega
      | nam n =>
        simp only [isNam, numOf] at p0 p1
        have hn : n < nN := by rw [HN.out]; exact hpt
        have hra := fr_at ha
        obtain ⟨b, hb⟩ : ∃ b, kj[n]? = some b := ⟨_, List.getElem?_eq_getElem (by rw [HV.out.1]; exact hn)⟩
        have cb := (HV.out.cells hb).2.1
        have fz := HV.out.free (n * 4 + 1)
        have hkr := HV.out.lt
        cases hre : a.reached
        · rw [hre] at c1 hra
          have HE2 : Hid (reachP m ps k = reachP m (ps.drop (j + 1)) kj) := hid (by rw [HE.out, HD.out]; simp only [reachP]; rw [if_neg (by rw [hra]; decide)])
          clear hpt ha hra hb
          go_wp2
          go_roundw
          case rel => exact ⟨j + 1, kj, by omega, by go_num, HE2, hid (HV.out.keeps ((Keeps.refl _ []).alloc _) (by simp)), hid (HK.out.alloc _)⟩
          case measure => simp [intOf]; omega
        · rw [hre] at c1 hra
          have HE2 : Hid (reachP m ps k = reachP m (ps.drop (j + 1)) (kj.modify n setR)) := hid (by rw [HE.out, HD.out]; simp only [reachP]; rw [if_pos hra])
          clear hpt ha hra hb
          go_wp2
          have dx := box_alloc (.cells #[.bool true, .int .i64 n] 235) bx
          have ex := box_alloc (.cells #[.bool true, .int .i64 n] 235) fx
          have nx := box_at wr #[.bool true, .int .i64 n] 235 1
          have cx := box_alloc (.cells #[.bool true, .int .i64 n] 235) cb
          have zx : (wr.alloc (.cells #[.bool true, .int .i64 n] 235)).frozen? ⟨kb, n * 4 + 1, none⟩ = false := (World.frozen?_of_block (w := wr) (Below.heap_alloc wr _ kb hkr)).trans fz
          have HW : Hid (Keeps wr (wr.alloc (.cells #[.bool true, .int .i64 n] 235)) []) := hid ((Keeps.refl _ _).alloc _)
          obtain ⟨W1, hW1⟩ : ∃ W1, wr.alloc (.cells #[.bool true, .int .i64 n] 235) = W1 := ⟨_, rfl⟩
          rw [hW1] at dx ex nx cx zx HW ⊢
          clear hW1 bx fx cb fz c1 p0 p1
          refine wp_region_last (fun w' => w'.cell? ⟨Bx, 0, none⟩ = some (.pointer (some ⟨fb, 0, none⟩)) ∧ w'.cell? ⟨fb, 2, none⟩ = some (.slice (some ⟨kb, 0, none⟩) nN nN) ∧ w'.cell? ⟨wr.heap.size, 1, none⟩ = some (.int .i64 n)) (by kernel_rfl) (by kernel_rfl) ⟨dx, ex, nx⟩ (fun hHeld => ?_)
          simp only [cutLast, idle, lastOf]
          refine tkA 0 ?vv9 rfl ?hy9 hHeld ?_
          case hy9 => (intro w hSw; (try dsimp only at hSw); first | (go_simp; done) | (go_simp; with_reducible rfl))
          try simp only [zA, zC, Act.put, zD, zE, zF]
          refine tkA 1 ?vv1 rfl ?hy1 hHeld ?_
          case hy1 => (intro w hSw; (try dsimp only at hSw); first | (go_simp; done) | (go_simp; with_reducible rfl))
          try simp only [zA, zB, zC, Act.put, zD, zE, zF]
          refine tkA 2 ?vv2 rfl ?hy2 hHeld ?_
          case hy2 => (intro w hSw; (try dsimp only at hSw); first | (go_simp; done) | (go_simp; with_reducible rfl))
          try simp only [zA, zB, zC, Act.put, zD, zE, zF]
          refine tkA 3 ?vv3 rfl ?hy3 hHeld ?_
          case hy3 => (intro w hSw; (try dsimp only at hSw); first | (go_simp; done) | (go_simp; with_reducible rfl))
          try simp only [zA, zB, zC, Act.put, zD, zE, zF]
          refine tkA 4 ?vv4 rfl ?hy4 hHeld ?_
          case hy4 => (intro w hSw; (try dsimp only at hSw); first | (go_simp; done) | (go_simp; with_reducible rfl))
          try simp only [zA, zB, zC, Act.put, zD, zE, zF]
          refine tkA 5 ?vv5 rfl ?hy5 hHeld ?_
          case hy5 => (intro w hSw; (try dsimp only at hSw); first | (go_simp; done) | (go_simp; with_reducible rfl))
          try simp only [zA, zB, zC, Act.put, zD, zE, zF]
          refine tkA 6 ?vv6 rfl ?hy6 hHeld ?_
          case hy6 => (intro w hSw; (try dsimp only at hSw); first | (go_simp; done) | (go_simp; with_reducible rfl))
          try simp only [zA, zB, zC, Act.put, zD, zE, zF]
          refine tkA 7 ?vv7 rfl ?hy7 hHeld ?_
          case hy7 => (intro w hSw; (try dsimp only at hSw); first | (go_simp; done) | (go_simp; with_reducible rfl))
          try simp only [zA, zB, zC, Act.put, zD, zE, zF]
          refine tkA 8 ?vv8 rfl ?hy8 hHeld ?_
          case hy8 => (intro w hSw; (try dsimp only at hSw); first | (go_simp; done) | (go_simp; with_reducible rfl))
          try simp only [zA, zB, zC, Act.put]
          refine wpAnyH_done (by kernel_rfl) ?_ _
          clear hHeld
          show wpList _ _ _ _ _ _
          go_wp2
          go_roundw
          case rel =>
            obtain ⟨h3, h4⟩ := (HV.out.keeps (HW.out.drew) (by simp)).put hn setR 1 (by omega) (.bool true) (fun a _ => rfl)
            exact ⟨j + 1, _, by omega, by go_num, HE2, h3, hid (HK.out.trans ((HW.out.drew.mono (fun k h => by cases h)).trans h4))⟩
          case measure => simp [intOf]; omega
    · have HE2 : Hid (reachP m ps k = kj) := hid (by
        rw [HE.out, List.drop_eq_nil_of_le (by rw [← HL.out]; omega)]
        rfl)
      go_wp2
      go_end0
      exact ⟨rfl, by rw [HE2.out]; exact HV.out, HK.out⟩

end Go.Proofs.YtjjggdcnpndgjaaGreatDoor

namespace Go.Proofs.YtjjggdcnpndgjaaGreatDoor
open Go.RowKit Go.Shelf

set_option maxHeartbeats 1000000 in
set_option maxRecDepth 100000 in
theorem findReached_any (w : World) (n₀ fb kb : Nat) (N : NG) (tws : List ByteArray) (pg : List Nm) (adT : Option Addr) (capT gN capN : Nat) (k0 : List Fa) (h : FcM w n₀ fb kb N tws pg adT capT gN capN k0) (h0 : ∀ n, frAt k0 n = false) :
    Calls Tryz.prog 107 #[.pointer (some ⟨fb, 0, none⟩)] w fun e w' => e = .returned (.tuple #[]) ∧ Keeps w w' [kb] ∧ ∃ k, ReachInv N k0 k ∧ (∀ r ∈ N.rules, stepReach k r = k) ∧ KnV w' kb N.nN k := by
  have hlf := h.lf
  have h2 := h.f2
  have hnN := h.gr.leN
  have hkb := h.kn.lt
  have hne := h.ne
  have hpos := h.gr.ok.pos
  obtain ⟨a, ha⟩ : ∃ a, k0[0]? = some a := ⟨_, List.getElem?_eq_getElem (by rw [h.kn.1]; exact hpos)⟩
  have c1 : w.cell? ⟨kb, 1, none⟩ = some (.bool a.reached) := by have := (h.kn.cells ha).2.1; simpa using this
  have fz : w.frozen? ⟨kb, 1, none⟩ = false := h.kn.free 1
  have H : Hid _ := hid h
  obtain ⟨nN, hn1⟩ : ∃ n, n = N.nN := ⟨_, rfl⟩
  rw [← hn1] at h2 hnN hpos
  have HN : Hid (nN = N.nN) := hid hn1
  have H0 : Hid _ := hid h0
  clear h hn1 ha h0
  obtain ⟨W1, hW1⟩ : ∃ W1, (w.alloc (.cells #[.pointer (some ⟨fb, 0, none⟩)] 212)).setCell ⟨kb, 1, none⟩ (.bool true) = W1 := ⟨_, rfl⟩
  obtain ⟨h3, h4⟩ := (H.out.kn.keeps ((Keeps.refl w []).alloc (.cells #[.pointer (some ⟨fb, 0, none⟩)] 212)) (by simp)).put H.out.gr.ok.pos setR 1 (by omega) (.bool true) (fun a _ => rfl)
  rw [Nat.zero_mul, Nat.zero_add, hW1] at h3 h4
  have hK1 : Keeps w W1 [kb] := ((Keeps.refl w [kb]).alloc _).trans h4
  have hb : W1.cell? ⟨w.heap.size, 0, none⟩ = some (.pointer (some ⟨fb, 0, none⟩)) := (h4.cell (by simp) (by simp; omega)).trans (box_new w _ _)
  have hbs : w.heap.size < W1.heap.size := World.block_lt_of_cell? W1 _ hb
  have hX := H.out.keeps hK1 h3
  have CS := settle_any N tws pg adT capT gN capN kb fb n₀ W1 hX.gr hX.n0 hX.lf hX.ne hX.ln hX.f0 hX.f1 hX.f2 156 #[.pointer (some ⟨w.heap.size, 0, none⟩)] (enters_of Tryz.func156 (by kernel_rfl) rfl)
    stepReach (msum offR) (ReachInv N k0) (fun k hk r hr => stepReach_ok hk hr)
    (fun W k r v hW hk hI hr hv => reach1_any W n₀ fb kb N tws pg adT capT gN capN k (hX.keeps hW hk) w.heap.size ((hW.cell (by exact hbs) (by show w.heap.size ∉ [kb]; simp; omega)).trans hb) (by omega) v r hr hv)
    hX.gr.ok.pos (k0.modify 0 setR) hX.kn (reach_start hX.gr.ok H.out.kn.1 H0.out)
  have HCS : Hid _ := hid CS
  have HK1 : Hid _ := hid hK1
  clear CS hX hK1 h3 h4
  go_enter Tryz.func107, Tryz.ntmps107
  have h1 : (0 : Int) < nN := by omega
  go_wp2_with (first
    | (rw [hW1]; go_at_call 153; refine HCS.out.mono ?_; rintro e w2 ⟨rfl, hk2, hr2⟩; have HR : Hid _ := hid (And.intro hk2 hr2); clear hk2 hr2)
    | (go_at_call 153; refine HCS.out.mono ?_; rintro e w2 ⟨rfl, hk2, hr2⟩; have HR : Hid _ := hid (And.intro hk2 hr2); clear hk2 hr2))
  go_end0
  exact ⟨rfl, HK1.out.trans HR.out.1, HR.out.2⟩

end Go.Proofs.YtjjggdcnpndgjaaGreatDoor
