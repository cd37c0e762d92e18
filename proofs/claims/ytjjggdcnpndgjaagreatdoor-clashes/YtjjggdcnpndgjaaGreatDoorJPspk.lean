/- The tokens that speak for a rule; whether parts derive the empty row; counting nodes: the table's helpers, walked. -/
import Derived.Test.YtjjggdcnpndgjaaGreatDoorJ11
namespace Go.Proofs.YtjjggdcnpndgjaaGreatDoor
open Go.RowKit

set_option maxHeartbeats 2000000 in
set_option maxRecDepth 100000 in
theorem speaking_any (w : World) (n₀ fb kb : Nat) (N : NG) (tws : List ByteArray) (pg : List Nm) (adT : Option Addr) (capT gN capN : Nat) (k : List Fa) (h : FcM w n₀ fb kb N tws pg adT capT gN capN k) (hfh : ∀ n, fhAt k n < 2 ^ 21) (hfo : ∀ n, foAt k n < 2 ^ 21)
    (n r : Nat) (nm : Nm) (ps : List Pt) (hn : pg[n]? = some nm) (hnN : n < N.nN) (hr : nm.2[r]? = some ps) (hps : PsOk N ps) (hlen : ps.length ≤ 8) :
    Calls Tryz.prog 127 #[.pointer (some ⟨fb, 0, none⟩), .int .i64 n, .int .i64 r] w fun e w' => e = .returned (.int .u32 (aheadP k ps (foAt k n))) ∧ Below w.heap.size w w' := by
  have hlw := h.ln
  have hlf := h.lf
  have hkw := h.kn.lt
  have hn20 := h.gr.leN
  have f1 := h.f1
  have f2 := h.f2
  have hgN := h.gr.hgN
  obtain ⟨_, v, c1, gR, capR, rfl, hgR, hcR, hrl⟩ := h.gr.names n nm hn
  obtain ⟨p, c2, hp⟩ := hrl r ps hr
  obtain ⟨a, ha⟩ : ∃ a, k[n]? = some a := ⟨_, List.getElem?_eq_getElem (by rw [h.kn.1]; exact hnN)⟩
  obtain ⟨_, _, _, c3⟩ := h.kn.cells ha
  have hfo' := hfo n
  rw [fo_at ha] at hfo' ⊢
  have CA : Hid (Calls Tryz.prog 165 #[.pointer (some ⟨fb, 0, none⟩), p, .int .u32 a.follow] w.drew fun e w' => e = .returned (.int .u32 (aheadP k ps a.follow)) ∧ Below w.drew.heap.size w.drew w') := hid (
    ahead_any w.drew n₀ fb kb N tws pg adT capT gN capN k (h.below (bdr (Below.refl _ _))) hfh p ps (hp.below ((bdr (Below.refl _ _)).mono hlw)) hps hlen a.follow hfo')
  have hrL := (List.getElem?_eq_some_iff.1 hr).1
  obtain ⟨nL, hnL⟩ : ∃ m, m = nm.2.length := ⟨_, rfl⟩
  rw [← hnL] at c1 hcR hrL
  obtain ⟨nN, hn1⟩ : ∃ m, m = N.nN := ⟨_, rfl⟩
  rw [← hn1] at f1 f2 hn20 hnN
  clear h hfh hfo hrl hp hps hlen hfo' ha hn hr hnL hn1
  go_enter Tryz.func127, Tryz.ntmps127
  go_wp2
  refine wp_region_held_drew (S := fun w' => (w'.cell? ⟨fb, 1, none⟩ = some (.slice (some ⟨gN, 0, none⟩) nN capN) ∧ w'.cell? ⟨fb, 2, none⟩ = some (.slice (some ⟨kb, 0, none⟩) nN nN) ∧ w'.cell? ⟨gN, n * 2 + 1, none⟩ = some (.slice (some ⟨gR, 0, none⟩) nL capR) ∧ w'.cell? ⟨gR, r, none⟩ = some p ∧ w'.cell? ⟨kb, n * 4 + 3, none⟩ = some (.int .u32 a.follow)) ∧ Below w.heap.size w w') (by kernel_rfl) ⟨⟨f1, f2, c1, c2, c3⟩, bdr (Below.refl _ _)⟩ (fun hHeld => ?_)
  have k1 : fb < w.drew.heap.size := hlf
  have k2 : gN < w.drew.heap.size := by show gN < w.heap.size; omega
  have k3 : gR < w.drew.heap.size := by show gR < w.heap.size; omega
  have k4 : kb < w.drew.heap.size := hkw
  refine tkA 0 ?vv30 rfl ?hy30 hHeld ?_
  case hy30 => (intro w hSw; (try dsimp only at hSw); first | (go_simp; done) | (go_simp; with_reducible rfl))
  try simp only [zA, zC, Act.put, zD, zE, zF]
  refine tkA 1 ?vv1 rfl ?hy1 hHeld ?_
  case hy1 => (intro w hSw; (try dsimp only at hSw); first | (go_simp; done) | (go_simp; with_reducible rfl))
  try simp only [zA, zB, zC, Act.put, zD, zE, zF]
  refine tkA 2 ?vv2 rfl ?hy2 hHeld ?_
  case hy2 => (intro w hSw; (try dsimp only at hSw); first | (go_simp; done) | (go_simp; with_reducible rfl))
  try simp only [zA, zB, zC, Act.put, zD, zE, zF]
  refine tkA 3 ?vv3 rfl ?hy3 hHeld ?_
  case hy3 => (intro w hSw; (try dsimp only at hSw); first | (go_simp; done) | (go_simp; with_reducible rfl))
  try simp only [zA, zB, zC, Act.put, zD, zE, zF]
  refine tkA 4 ?vv4 rfl ?hy4 hHeld ?_
  case hy4 => (intro w hSw; (try dsimp only at hSw); first | (go_simp; done) | (go_simp; with_reducible rfl))
  try simp only [zA, zB, zC, Act.put, zD, zE, zF]
  refine tkA 5 ?vv5 rfl ?hy5 hHeld ?_
  case hy5 => (intro w hSw; (try dsimp only at hSw); first | (go_simp; done) | (go_simp; with_reducible rfl))
  try simp only [zA, zB, zC, Act.put, zD, zE, zF]
  refine tkA 6 ?vv6 rfl ?hy6 hHeld ?_
  case hy6 => (intro w hSw; (try dsimp only at hSw); first | (go_simp; done) | (go_simp; with_reducible rfl))
  try simp only [zA, zB, zC, Act.put, zD, zE, zF]
  refine tkA 7 ?vv7 rfl ?hy7 hHeld ?_
  case hy7 => (intro w hSw; (try dsimp only at hSw); first | (go_simp; done) | (go_simp; with_reducible rfl))
  try simp only [zA, zB, zC, Act.put, zD, zE, zF]
  refine tkA 8 ?vv8 rfl ?hy8 hHeld ?_
  case hy8 => (intro w hSw; (try dsimp only at hSw); first | (go_simp; done) | (go_simp; with_reducible rfl))
  try simp only [zA, zB, zC, Act.put, zD, zE, zF]
  refine tkA 9 ?vv9 rfl ?hy9 hHeld ?_
  case hy9 => (intro w hSw; (try dsimp only at hSw); first | (go_simp; done) | (go_simp; with_reducible rfl))
  try simp only [zA, zB, zC, Act.put, zD, zE, zF]
  refine tkA 10 ?vv10 rfl ?hy10 hHeld ?_
  case hy10 => (intro w hSw; (try dsimp only at hSw); first | (go_simp; done) | (go_simp; with_reducible rfl))
  try simp only [zA, zB, zC, Act.put, zD, zE, zF]
  refine tkA 11 ?vv11 rfl ?hy11 hHeld ?_
  case hy11 => (intro w hSw; (try dsimp only at hSw); first | (go_simp; done) | (go_simp; with_reducible rfl))
  try simp only [zA, zB, zC, Act.put, zD, zE, zF]
  refine tkA 12 ?vv12 rfl ?hy12 hHeld ?_
  case hy12 => (intro w hSw; (try dsimp only at hSw); first | (go_simp; done) | (go_simp; with_reducible rfl))
  try simp only [zA, zB, zC, Act.put, zD, zE, zF]
  refine tkA 13 ?vv13 rfl ?hy13 hHeld ?_
  case hy13 => (intro w hSw; (try dsimp only at hSw); first | (go_simp; done) | (go_simp; with_reducible rfl))
  try simp only [zA, zB, zC, Act.put, zD, zE, zF]
  refine tkA 14 ?vv14 rfl ?hy14 hHeld ?_
  case hy14 => (intro w hSw; (try dsimp only at hSw); first | (go_simp; done) | (go_simp; with_reducible rfl))
  try simp only [zA, zB, zC, Act.put, zD, zE, zF]
  refine tkA 15 ?vv15 rfl ?hy15 hHeld ?_
  case hy15 => (intro w hSw; (try dsimp only at hSw); first | (go_simp; done) | (go_simp; with_reducible rfl))
  try simp only [zA, zB, zC, Act.put, zD, zE, zF]
  refine tkA 16 ?vv16 rfl ?hy16 hHeld ?_
  case hy16 => (intro w hSw; (try dsimp only at hSw); first | (go_simp; done) | (go_simp; with_reducible rfl))
  try simp only [zA, zB, zC, Act.put, zD, zE, zF]
  refine tkA 17 ?vv17 rfl ?hy17 hHeld ?_
  case hy17 => (intro w hSw; (try dsimp only at hSw); first | (go_simp; done) | (go_simp; with_reducible rfl))
  try simp only [zA, zB, zC, Act.put, zD, zE, zF]
  refine tkA 18 ?vv18 rfl ?hy18 hHeld ?_
  case hy18 => (intro w hSw; (try dsimp only at hSw); first | (go_simp; done) | (go_simp; with_reducible rfl))
  try simp only [zA, zB, zC, Act.put, zD, zE, zF]
  refine tkA 19 ?vv19 rfl ?hy19 hHeld ?_
  case hy19 => (intro w hSw; (try dsimp only at hSw); first | (go_simp; done) | (go_simp; with_reducible rfl))
  try simp only [zA, zB, zC, Act.put, zD, zE, zF]
  refine tkA 20 ?vv20 rfl ?hy20 hHeld ?_
  case hy20 => (intro w hSw; (try dsimp only at hSw); first | (go_simp; done) | (go_simp; with_reducible rfl))
  try simp only [zA, zB, zC, Act.put, zD, zE, zF]
  refine wpAnyH_ready (rs := [21]) (by kernel_rfl) (by simp) ?_
  refine AllReadyH.cons rfl (fun K hK => ?_) AllReadyH.nil
  try simp only [zA, zB, zC]
  go_simp; refine CA.out.mono ?_; rintro e w5 ⟨rfl, hb5⟩; try dsimp only
  refine hK.out _ _ ?_ (fun hHeld => ?_)
  · exact ⟨⟨(hb5.cell (by exact k1)).trans hHeld.1.1, (hb5.cell (by exact k1)).trans hHeld.1.2.1, (hb5.cell (by exact k2)).trans hHeld.1.2.2.1, (hb5.cell (by exact k3)).trans hHeld.1.2.2.2.1, (hb5.cell (by exact k4)).trans hHeld.1.2.2.2.2⟩, hHeld.2.trans (hb5.mono hHeld.2.size)⟩
  clear hK K
  try simp only [zA, zB, zC, Act.put, zD, zE, zF]
  refine tkA 22 ?vv21 rfl ?hy21 hHeld ?_
  case hy21 => (intro w hSw; (try dsimp only at hSw); first | (go_simp; done) | (go_simp; with_reducible rfl))
  try simp only [zA, zB, zC, Act.put, zD, zE, zF]
  refine wpAnyH_done (by kernel_rfl) ?_ _
  have HBE : Hid _ := hid hHeld.2
  clear hHeld hb5
  go_wp2
  go_ret
  exact ⟨rfl, HBE.out⟩

theorem empties_any (w : World) (n₀ fb kb : Nat) (N : NG) (tws : List ByteArray) (pg : List Nm) (adT : Option Addr) (capT gN capN : Nat) (k : List Fa) (h : FcM w n₀ fb kb N tws pg adT capT gN capN k) (hfh : ∀ n, fhAt k n < 2 ^ 21) (v : Value) (ps : List Pt) (hv : PartsV w n₀ v ps) (hps : PsOk N ps) (hlen : ps.length ≤ 8) :
    Calls Tryz.prog 131 #[.pointer (some ⟨fb, 0, none⟩), v] w fun e w' => e = .returned (.bool (nulB (emP k) ps)) ∧ Below w.heap.size w w' := by
  have CB := begins_any w n₀ fb kb N tws pg adT capT gN capN k h hfh v ps hv hps hlen
  rw [(beginsP_spec k ps 0).1] at CB
  have HCB : Hid _ := hid CB
  obtain ⟨ad, cap, rfl, _, _⟩ := hv
  clear h hfh hps hlen CB
  go_enter Tryz.func131, Tryz.ntmps131
  go_wp2_with (go_at_call 162; refine HCB.out.mono ?_; rintro e w2 ⟨rfl, hb2⟩; have HB : Hid _ := hid hb2; clear hb2)
  go_ret
  exact ⟨rfl, HB.out⟩

/-- Nodes are counted up to one more than a tree may have. -/
def addN (a b : Nat) : Nat := min (a + b) 939524097

theorem addNodes_any (a b : Nat) (ha : a ≤ 939524097) (hb : b ≤ 939524097) (w : World) : Calls Tryz.prog 184 #[.int .i64 a, .int .i64 b] w fun e w' => e = .returned (.int .i64 (addN a b)) ∧ w = w' := by
  go_enter Tryz.func184, Tryz.ntmps184
  rcases Nat.lt_or_ge 939524097 (a + b) with h0 | h0
  · have h1 : ¬ ((a : Int) + (b : Int) ≤ 939524097) := by omega
    have e : addN a b = 939524097 := by unfold addN; omega
    go_wp2
    go_ret
    exact ⟨by first | rfl | (rw [e]; rfl), rfl⟩
  · have h1 : (a : Int) + (b : Int) ≤ 939524097 := by omega
    have e : ((addN a b : Nat) : Int) = (a : Int) + (b : Int) := by unfold addN; omega
    go_wp2
    go_ret
    exact ⟨by first | rfl | (rw [e]; rfl), rfl⟩

/-- The counts of the empty trees, in the table's box. -/
def EmC (w : World) (tb : Nat) : Prop := ∀ m, m < 20 → ∃ x : Nat, x ≤ 939524097 ∧ w.cell? ⟨tb, 423 + m, none⟩ = some (.int .i64 x)

theorem EmC.below {w w' : World} {tb B : Nat} (h : EmC w tb) (hb : Below B w w') (ht : tb < B) : EmC w' tb := fun m hm => by
  obtain ⟨x, h1, h2⟩ := h m hm
  exact ⟨x, h1, (hb.cell (by exact ht)).trans h2⟩

set_option maxHeartbeats 2000000 in
set_option maxRecDepth 100000 in
theorem emptyNodes_any (w : World) (n₀ tb : Nat) (N : NG) (hT20 : N.nT ≤ 20) (hN20 : N.nN ≤ 20) (hn0 : n₀ ≤ w.heap.size) (htb : tb < w.heap.size) (hE : EmC w tb) (v : Value) (ps : List Pt) (hv : PartsV w n₀ v ps) (hps : PsOk N ps) (hlen : ps.length ≤ 8) :
    Calls Tryz.prog 132 #[.pointer (some ⟨tb, 0, none⟩), v] w fun e w' => (∃ x : Nat, x ≤ 939524097 ∧ e = .returned (.int .i64 x)) ∧ Below w.heap.size w w' := by
  obtain ⟨ad, cap, rfl, hcap, hcs⟩ := hv
  obtain ⟨L, hL⟩ : ∃ L, L = ps.length := ⟨_, rfl⟩
  rw [← hL] at hcap hcs hlen ⊢
  have HL : Hid (L = ps.length) := hid hL
  have HC : Hid _ := hid hcs
  have HP : Hid (PsOk N ps) := hid hps
  have HE : Hid (EmC w tb) := hid hE
  clear hL hcs hps hE
  go_enter Tryz.func132, Tryz.ntmps132
  go_wp2
  go_loopw [5, 10] (fun s i wr => ∃ j f : Nat, j ≤ L ∧ i = .int .i64 j ∧ s = .int .i64 f ∧ f ≤ 939524097 ∧ Hid (Below w.heap.size w wr)) (fun _ i _ => L - (intOf i).toNat)
  case atStart => exact ⟨0, 1, Nat.zero_le _, rfl, rfl, by omega, Below.refl _ _⟩
  case round =>
    obtain ⟨j, f, hj, rfl, rfl, hf, HB⟩ := hrel
    by_cases hlt : j < L
    · obtain ⟨p, hp⟩ : ∃ p, ps[j]? = some p := ⟨_, List.getElem?_eq_getElem (by rw [← HL.out]; exact hlt)⟩
      obtain ⟨g, off, rfl, hg, hcl⟩ := HC.out (by omega)
      have hszw := HB.out.size
      have hgw : g < wr.heap.size := by omega
      have p0 := (HB.out.cell (p := ⟨g, off + j * 2, none⟩) (by show g < w.heap.size; omega)).trans (hcl j p hp).1
      have p1 := (HB.out.cell (p := ⟨g, off + j * 2 + 1, none⟩) (by show g < w.heap.size; omega)).trans (hcl j p hp).2
      have hpn : numOf p < 20 := by
        have := HP.out.at hp
        cases p with
        | tok t => have h1 : t < N.nT := this; show t < 20; omega
        | nam n => have h1 : n < N.nN := this; show n < 20; omega
      obtain ⟨x, hx, hxc⟩ := HE.out.below HB.out htb (numOf p) hpn
      obtain ⟨pi, hpi⟩ : ∃ b, isNam p = b := ⟨_, rfl⟩
      obtain ⟨pn, hpn'⟩ : ∃ b, numOf p = b := ⟨_, rfl⟩
      rw [hpi] at p0
      rw [hpn'] at p1 hpn hxc
      have htw : tb < wr.heap.size := by omega
      have hpn3 : (pn : Int) < 20 := by omega
      clear hcl hp hpi hpn'
      go_wp2
      obtain ⟨W2, hW2⟩ : ∃ W2, wr.alloc (.cells #[.bool pi, .int .i64 pn] 235) = W2 := ⟨_, rfl⟩
      have d1 : W2.cell? ⟨wr.heap.size, 1, none⟩ = some (.int .i64 pn) := by rw [← hW2]; exact box_at wr _ _ 1
      have d2 : W2.cell? ⟨tb, 423 + pn, none⟩ = some (.int .i64 x) := by rw [← hW2]; exact box_alloc _ hxc
      have hBW2 : Below w.heap.size w W2 := by rw [← hW2]; exact bal HB.out
      have q1 : wr.heap.size < W2.drew.heap.size := World.block_lt_of_cell? _ _ d1
      have q2 : tb < W2.drew.heap.size := World.block_lt_of_cell? _ _ d2
      rw [hW2]
      clear hW2 p0 p1 hxc
      refine wp_region_held_drew (S := fun w' => (w'.cell? ⟨wr.heap.size, 1, none⟩ = some (.int .i64 pn) ∧ w'.cell? ⟨tb, 423 + pn, none⟩ = some (.int .i64 x)) ∧ Below w.heap.size w w') (by kernel_rfl) ⟨⟨d1, d2⟩, bdr hBW2⟩ (fun hHeld => ?_)
      refine tkA 0 ?vv31 rfl ?hy31 hHeld ?_
      case hy31 => (intro w hSw; (try dsimp only at hSw); first | (go_simp; done) | (go_simp; with_reducible rfl))
      try simp only [zA, zC, Act.put, zD, zE, zF]
      refine tkA 1 ?vv22 rfl ?hy22 hHeld ?_
      case hy22 => (intro w hSw; (try dsimp only at hSw); first | (go_simp; done) | (go_simp; with_reducible rfl))
      try simp only [zA, zB, zC, Act.put, zD, zE, zF]
      refine tkA 2 ?vv23 rfl ?hy23 hHeld ?_
      case hy23 => (intro w hSw; (try dsimp only at hSw); first | (go_simp; done) | (go_simp; with_reducible rfl))
      try simp only [zA, zB, zC, Act.put, zD, zE, zF]
      refine tkA 3 ?vv24 rfl ?hy24 hHeld ?_
      case hy24 => (intro w hSw; (try dsimp only at hSw); first | (go_simp; done) | (go_simp; with_reducible rfl))
      try simp only [zA, zB, zC, Act.put, zD, zE, zF]
      refine tkA 4 ?vv25 rfl ?hy25 hHeld ?_
      case hy25 => (intro w hSw; (try dsimp only at hSw); first | (go_simp; done) | (go_simp; with_reducible rfl))
      try simp only [zA, zB, zC, Act.put, zD, zE, zF]
      refine tkA 5 ?vv26 rfl ?hy26 hHeld ?_
      case hy26 => (intro w hSw; (try dsimp only at hSw); first | (go_simp; done) | (go_simp; with_reducible rfl))
      try simp only [zA, zB, zC, Act.put, zD, zE, zF]
      refine tkA 6 ?vv27 rfl ?hy27 hHeld ?_
      case hy27 => (intro w hSw; (try dsimp only at hSw); first | (go_simp; done) | (go_simp; with_reducible rfl))
      try simp only [zA, zB, zC, Act.put, zD, zE, zF]
      refine tkA 7 ?vv28 rfl ?hy28 hHeld ?_
      case hy28 => (intro w hSw; (try dsimp only at hSw); first | (go_simp; done) | (go_simp; with_reducible rfl))
      try simp only [zA, zB, zC, Act.put, zD, zE, zF]
      refine wpAnyH_ready (rs := [8]) (by kernel_rfl) (by simp) ?_
      refine AllReadyH.cons rfl (fun K hK => ?_) AllReadyH.nil
      try simp only [zA, zB, zC]
      go_simp; refine (addNodes_any f x hf hx _).mono ?_; rintro e w5 ⟨rfl, rfl⟩; try dsimp only
      refine hK.out _ _ ?_ (fun hHeld => ?_)
      · exact hHeld
      clear hK K
      try simp only [zA, zB, zC, Act.put, zD, zE, zF]
      refine tkA 9 ?vv29 rfl ?hy29 hHeld ?_
      case hy29 => (intro w hSw; (try dsimp only at hSw); first | (go_simp; done) | (go_simp; with_reducible rfl))
      try simp only [zA, zB, zC, Act.put, zD, zE, zF]
      refine wpAnyH_done (by kernel_rfl) ?_ _
      have HBE : Hid _ := hid hHeld.2
      have haN : addN f x ≤ 939524097 := by unfold addN; omega
      obtain ⟨y, hy⟩ : ∃ y, addN f x = y := ⟨_, rfl⟩
      rw [hy] at haN ⊢
      clear hHeld d1 d2 hy
      go_wp2
      go_roundw
      case rel => exact ⟨j + 1, y, by omega, by go_num, rfl, haN, HBE⟩
      case measure => simp [intOf]; omega
    · go_wp2
      go_ret
      exact ⟨⟨f, hf, rfl⟩, HB.out⟩

end Go.Proofs.YtjjggdcnpndgjaaGreatDoor
