/- only, nullable. begins. ahead; findFirst's step. findFollow's step. findFirst, findFollow. -/
import Derived.Test.YtjjggdcnpndgjaaGreatDoorJ10
import Derived.Laws.BitsAllLaws
namespace Go.Proofs.YtjjggdcnpndgjaaGreatDoor
open Go.RowKit Go.Shelf

set_option maxHeartbeats 1000000 in
theorem only_any (w : World) (t : Nat) (ht : t ≤ 20) : Calls Tryz.prog 163 #[.int .i64 t] w fun e w' => e = .returned (.int .u32 ((1 <<< t : Nat) : Int)) ∧ w = w' := by
  go_enter Tryz.func163, Tryz.ntmps163
  go_wp2
  go_ret
  refine ⟨?_, rfl⟩
  have h : (2 : Nat) ^ t < 4294967296 := Nat.lt_of_le_of_lt (Nat.pow_le_pow_right (by omega) ht) (by decide)
  have h2 : (2 : Int) ^ t % 4294967296 = (((2 : Nat) ^ t : Nat) : Int) := by
    rw [Int.natCast_pow]
    refine Int.emod_eq_of_lt (Int.pow_nonneg (show (0 : Int) ≤ 2 by decide)) ?_
    have h2 : (((2 : Nat) ^ t : Nat) : Int) < 4294967296 := by omega
    rw [Int.natCast_pow] at h2
    exact h2
  rw [Nat.one_shiftLeft, ← h2]
  rfl

theorem nullable_any (w : World) (a : Int) (b : Bool) (c d : Int) : Calls Tryz.prog 111 #[.agg #[.int .i64 a, .bool b, .int .u32 c, .int .u32 d]] w fun e w' => e = .returned (.bool (a == 0)) ∧ Below w.heap.size w w' := by
  go_enter Tryz.func111, Tryz.ntmps111
  go_wp2
  go_ret
  exact ⟨rfl, (Below.refl _ _).alloc (Nat.le_refl _) _⟩

end Go.Proofs.YtjjggdcnpndgjaaGreatDoor

namespace Go.Proofs.YtjjggdcnpndgjaaGreatDoor
open Go.RowKit Go.Shelf

theorem or_u32 {a b : Nat} (ha : a < 2 ^ 21) (hb : b < 2 ^ 21) : bits .or .u32 (a : Int) (b : Int) = ((a ||| b : Nat) : Int) := u32_or_nat a b (by omega) (by omega)

theorem one_lt {t : Nat} (h : t ≤ 20) : (1 : Nat) <<< t < 2 ^ 21 := by rw [Nat.one_shiftLeft]; exact Nat.pow_lt_pow_right (by omega) (by omega)

theorem bal {w X : World} {o : Obj} (h : Below w.heap.size w X) : Below w.heap.size w (X.alloc o) := h.alloc h.size _
theorem bdr {w X : World} (h : Below w.heap.size w X) : Below w.heap.size w X.drew := ⟨h.os, h.tape, h.output, h.size, h.block⟩

/-- What begins a part, and whether it derives the empty row. -/
def firstP (k : List Fa) : Pt → Nat × Bool
  | .tok t => (1 <<< t, false)
  | .nam n => (fhAt k n, emP k n)
theorem firstP_lt {N : NG} (hT : N.nT ≤ 20) {k : List Fa} (hf : ∀ n, fhAt k n < 2 ^ 21) {p : Pt} (hp : PtOk N p) : (firstP k p).1 < 2 ^ 21 := by
  cases p with
  | tok t => have : t < N.nT := hp; exact one_lt (by omega)
  | nam n => exact hf n

theorem beginsP_cons (k : List Fa) (p : Pt) (ps : List Pt) (f : Nat) : beginsP k (p :: ps) f = if (firstP k p).2 = true then beginsP k ps (f ||| (firstP k p).1) else (f ||| (firstP k p).1, false) := by
  cases p with
  | tok t => rfl
  | nam n =>
    simp only [beginsP, firstP, emP, decide_eq_true_eq]

set_option maxHeartbeats 2000000 in
set_option maxRecDepth 100000 in
theorem ffirst_any (w : World) (n₀ fb kb : Nat) (N : NG) (tws : List ByteArray) (pg : List Nm) (adT : Option Addr) (capT gN capN : Nat) (k : List Fa) (h : FcM w n₀ fb kb N tws pg adT capT gN capN k) (p : Pt) (hp : PtOk N p) :
    Calls Tryz.prog 198 #[.pointer (some ⟨fb, 0, none⟩), .agg #[.bool (isNam p), .int .i64 (numOf p)]] w fun e w' => e = .returned (.tuple #[.int .u32 (firstP k p).1, .bool (firstP k p).2]) ∧ Below w.heap.size w w' := by
  have hlw := h.ln
  have hlf := h.lf
  have hkw := h.kn.lt
  have hT20 := h.gr.leT
  have hn20 := h.gr.leN
  cases p with
  | tok t =>
    have ht : t < N.nT := hp
    have CO := only_any (w.alloc (.cells #[.bool false, .int .i64 t] 235)) t (by omega)
    obtain ⟨x, hx⟩ : ∃ x : Nat, 1 <<< t = x := ⟨_, rfl⟩
    have HX : Hid (firstP k (.tok t) = (x, false)) := hid (by rw [← hx]; rfl)
    rw [hx] at CO
    simp only [isNam, numOf]
    clear h hp hx
    go_enter Tryz.func198, Tryz.ntmps198
    go_wp2_with (go_at_call 163; refine CO.mono ?_; rintro e w2 ⟨rfl, rfl⟩; clear CO)
    go_ret2
    exact ⟨by rw [HX.out]; rfl, bal (Below.refl _ _)⟩
  | nam n =>
    have hn : n < N.nN := hp
    have fx := h.f2
    obtain ⟨a, ha⟩ : ∃ a, k[n]? = some a := ⟨_, List.getElem?_eq_getElem (by rw [h.kn.1]; exact hn)⟩
    obtain ⟨c0, c1, c2, c3⟩ := h.kn.cells ha
    have HX : Hid (firstP k (.nam n) = (a.first, (a.least : Int) == 0)) := hid (by
      show (fhAt k n, emP k n) = _
      unfold emP
      rw [fl_at ha, fh_at ha]
      congr 1
      rw [Bool.eq_iff_iff]
      simp)
    obtain ⟨nN, hn1⟩ : ∃ n, n = N.nN := ⟨_, rfl⟩
    rw [← hn1] at fx hn20 hn
    simp only [isNam, numOf]
    clear h hp ha hn1
    go_enter Tryz.func198, Tryz.ntmps198
    go_wp2
    refine wp_region_last (fun w' => w'.cell? ⟨fb, 2, none⟩ = some (.slice (some ⟨kb, 0, none⟩) nN nN) ∧ w'.cell? ⟨w.heap.size, 1, none⟩ = some (.int .i64 n) ∧ w'.cell? ⟨kb, n * 4, none⟩ = some (.int .i64 a.least) ∧ w'.cell? ⟨kb, n * 4 + 1, none⟩ = some (.bool a.reached) ∧ w'.cell? ⟨kb, n * 4 + 2, none⟩ = some (.int .u32 a.first) ∧ w'.cell? ⟨kb, n * 4 + 3, none⟩ = some (.int .u32 a.follow)) (by kernel_rfl) (by kernel_rfl) ⟨box_alloc _ fx, box_at _ _ _ 1, box_alloc _ c0, box_alloc _ c1, box_alloc _ c2, box_alloc _ c3⟩ (fun hHeld => ?_)
    simp only [cutLast, idle, lastOf]
    refine tkA 0 ?vv13 rfl ?hy13 hHeld ?_
    case hy13 => (intro w hSw; (try dsimp only at hSw); first | (go_simp; done) | (go_simp; with_reducible rfl))
    try simp only [zA, zC, Act.put, zD, zE, zF]
    refine tkA 1 ?vv1 rfl ?hy1 hHeld ?_
    case hy1 => (intro w hSw; (try dsimp only at hSw); first | (go_simp; done) | (go_simp; with_reducible rfl))
    try simp only [zA, zB, zC, Act.put, zD, zE, zF]
    refine tkA 2 ?vv2 rfl ?hy2 hHeld ?_
    case hy2 => (intro w hSw; (try dsimp only at hSw); first | (go_simp; done) | (go_simp; with_reducible rfl))
    try simp only [zA, zB, zC, Act.put, zD, zE, zF]
    refine tkA 3 ?vv3 rfl ?hy3 hHeld ?_
    case hy3 => (intro w hSw; (try dsimp only at hSw); first | (go_simp; done) | (go_simp; with_reducible rfl))
    try simp only [zA, zB, zC, Act.put, zD, zE, zF]
    refine tkA 4 ?vv4 rfl ?hy4 hHeld ?_
    case hy4 => (intro w hSw; (try dsimp only at hSw); first | (go_simp; done) | (go_simp; with_reducible rfl))
    try simp only [zA, zB, zC, Act.put, zD, zE, zF]
    refine tkA 5 ?vv5 rfl ?hy5 hHeld ?_
    case hy5 => (intro w hSw; (try dsimp only at hSw); first | (go_simp; done) | (go_simp; with_reducible rfl))
    try simp only [zA, zB, zC, Act.put, zD, zE, zF]
    refine tkA 6 ?vv6 rfl ?hy6 hHeld ?_
    case hy6 => (intro w hSw; (try dsimp only at hSw); first | (go_simp; done) | (go_simp; with_reducible rfl))
    try simp only [zA, zB, zC, Act.put, zD, zE, zF]
    refine tkA 7 ?vv7 rfl ?hy7 hHeld ?_
    case hy7 => (intro w hSw; (try dsimp only at hSw); first | (go_simp; done) | (go_simp; with_reducible rfl))
    try simp only [zA, zB, zC, Act.put, zD, zE, zF]
    refine wpAnyH_ready (rs := [8]) (by kernel_rfl) (by simp) ?_
    refine AllReadyH.cons rfl (fun K hK => ?_) AllReadyH.nil
    try simp only [zA, zB, zC]
    go_simp
    refine hK.out _ _ ?_ (fun hHeld => ?_)
    · go_keep
    clear hK K
    try simp only [zA, zB, zC, Act.put, zD, zE, zF]
    refine tkA 9 ?vv12 rfl ?hy12 hHeld ?_
    case hy12 => (intro w hSw; (try dsimp only at hSw); first | (go_simp; done) | (go_simp; with_reducible rfl))
    try simp only [zA, zB, zC, Act.put]
    refine wpAnyH_done (by kernel_rfl) ?_ _
    clear hHeld
    show wpList _ _ _ _ _ _
    go_wp2
    obtain ⟨W2, hW2⟩ : ∃ W2, ((w.alloc (.cells #[.bool true, .int .i64 n] 235)).alloc (.cells #[.int .i64 a.least, .bool a.reached, .int .u32 a.first, .int .u32 a.follow] 216)).drew = W2 := ⟨_, rfl⟩
    have dd : ∀ j : Nat, W2.cell? ⟨w.heap.size + 1, j, none⟩ = (#[Value.int .i64 a.least, .bool a.reached, .int .u32 a.first, .int .u32 a.follow] : Array Value)[j]? := fun j => by
      rw [← hW2]
      have h1 := box_at (w.alloc (.cells #[.bool true, .int .i64 n] 235)) #[.int .i64 a.least, .bool a.reached, .int .u32 a.first, .int .u32 a.follow] 216 j
      rw [World.size_alloc] at h1
      exact h1
    have d0 : W2.cell? ⟨w.heap.size + 1, 0, none⟩ = some (.int .i64 a.least) := dd 0
    have d1 : W2.cell? ⟨w.heap.size + 1, 1, none⟩ = some (.bool a.reached) := dd 1
    have d2 : W2.cell? ⟨w.heap.size + 1, 2, none⟩ = some (.int .u32 a.first) := dd 2
    have d3 : W2.cell? ⟨w.heap.size + 1, 3, none⟩ = some (.int .u32 a.follow) := dd 3
    have hBW2 : Below w.heap.size w W2 := by rw [← hW2]; exact bdr (bal (bal (Below.refl _ _)))
    have hlw2 : w.heap.size + 1 < W2.heap.size := World.block_lt_of_cell? _ _ d0
    rw [hW2]
    clear hW2 dd c0 c1 c2 c3 fx
    refine wp_region_held_drew (S := fun w' => w'.cell? ⟨w.heap.size + 1, 0, none⟩ = some (.int .i64 a.least) ∧ w'.cell? ⟨w.heap.size + 1, 1, none⟩ = some (.bool a.reached) ∧ w'.cell? ⟨w.heap.size + 1, 2, none⟩ = some (.int .u32 a.first) ∧ w'.cell? ⟨w.heap.size + 1, 3, none⟩ = some (.int .u32 a.follow) ∧ Below w.heap.size w w') (by kernel_rfl) ⟨d0, d1, d2, d3, bdr hBW2⟩ (fun hHeld => ?_)
    refine tkA 0 ?vv14 rfl ?hy14 hHeld ?_
    case hy14 => (intro w hSw; (try dsimp only at hSw); first | (go_simp; done) | (go_simp; with_reducible rfl))
    try simp only [zA, zC, Act.put, zD, zE, zF]
    refine tkA 1 ?vv8 rfl ?hy8 hHeld ?_
    case hy8 => (intro w hSw; (try dsimp only at hSw); first | (go_simp; done) | (go_simp; with_reducible rfl))
    try simp only [zA, zB, zC, Act.put, zD, zE, zF]
    refine tkA 2 ?vv9 rfl ?hy9 hHeld ?_
    case hy9 => (intro w hSw; (try dsimp only at hSw); first | (go_simp; done) | (go_simp; with_reducible rfl))
    try simp only [zA, zB, zC, Act.put, zD, zE, zF]
    refine wpAnyH_ready (rs := [3]) (by kernel_rfl) (by simp) ?_
    refine AllReadyH.cons rfl (fun K hK => ?_) AllReadyH.nil
    try simp only [zA, zB, zC]
    go_simp; refine (nullable_any _ _ _ _ _).mono ?_; rintro e w5 ⟨rfl, hb5⟩; try dsimp only
    refine hK.out _ _ ?_ (fun hHeld => ?_)
    · exact ⟨(hb5.cell (by exact hlw2)).trans hHeld.1, (hb5.cell (by exact hlw2)).trans hHeld.2.1, (hb5.cell (by exact hlw2)).trans hHeld.2.2.1, (hb5.cell (by exact hlw2)).trans hHeld.2.2.2.1, hHeld.2.2.2.2.trans (hb5.mono hHeld.2.2.2.2.size)⟩
    clear hK K
    try simp only [zA, zB, zC, Act.put, zD, zE, zF]
    refine tkA 4 ?vv10 rfl ?hy10 hHeld ?_
    case hy10 => (intro w hSw; (try dsimp only at hSw); first | (go_simp; done) | (go_simp; with_reducible rfl))
    try simp only [zA, zB, zC, Act.put, zD, zE, zF]
    refine tkA 5 ?vv11 rfl ?hy11 hHeld ?_
    case hy11 => (intro w hSw; (try dsimp only at hSw); first | (go_simp; done) | (go_simp; with_reducible rfl))
    try simp only [zA, zB, zC, Act.put, zD, zE, zF]
    refine wpAnyH_done (by kernel_rfl) ?_ _
    have HBE : Hid _ := hid hHeld.2.2.2.2
    clear hHeld d0 d1 d2 d3 hb5 hBW2
    go_wp2
    go_ret2
    exact ⟨by rw [HX.out]; rfl, HBE.out⟩

set_option maxHeartbeats 2000000 in
set_option maxRecDepth 100000 in
theorem begins_any (w : World) (n₀ fb kb : Nat) (N : NG) (tws : List ByteArray) (pg : List Nm) (adT : Option Addr) (capT gN capN : Nat) (k : List Fa) (h : FcM w n₀ fb kb N tws pg adT capT gN capN k) (hfh : ∀ n, fhAt k n < 2 ^ 21) (v : Value) (ps : List Pt) (hv : PartsV w n₀ v ps) (hps : PsOk N ps) (hlen : ps.length ≤ 8) :
    Calls Tryz.prog 162 #[.pointer (some ⟨fb, 0, none⟩), v] w fun e w' => e = .returned (.tuple #[.int .u32 (beginsP k ps 0).1, .bool (beginsP k ps 0).2]) ∧ Below w.heap.size w w' := by
  obtain ⟨ad, cap, rfl, hcap, hcs⟩ := hv
  obtain ⟨L, hL⟩ : ∃ L, L = ps.length := ⟨_, rfl⟩
  rw [← hL] at hcap hcs hlen ⊢
  have hlw := h.ln
  have hlf := h.lf
  have hkw := h.kn.lt
  have hT20 := h.gr.leT
  have hn20 := h.gr.leN
  have H : Hid _ := hid h
  have HL : Hid (L = ps.length) := hid hL
  have HC : Hid _ := hid hcs
  have HP : Hid (PsOk N ps) := hid hps
  have HF : Hid (∀ n, fhAt k n < 2 ^ 21) := hid hfh
  obtain ⟨nN, hn1⟩ : ∃ n, n = N.nN := ⟨_, rfl⟩
  rw [← hn1] at hn20
  have HN : Hid (nN = N.nN) := hid hn1
  clear h hL hcs hps hfh hn1
  go_enter Tryz.func162, Tryz.ntmps162
  go_wp2
  go_loopw [6, 13] (fun s i wr => ∃ j f : Nat, j ≤ L ∧ i = .int .i64 j ∧ s = .int .u32 f ∧ f < 2 ^ 21 ∧ Hid (beginsP k ps 0 = beginsP k (ps.drop j) f) ∧ Hid (Below w.heap.size w wr)) (fun _ i _ => L - (intOf i).toNat)
  case atStart => exact ⟨0, 0, Nat.zero_le _, rfl, rfl, by decide, rfl, Below.refl _ _⟩
  case round =>
    obtain ⟨j, f, hj, rfl, rfl, hf, HE, HB⟩ := hrel
    have HFl : Hid (f < 2 ^ 21) := hid hf
    clear hf
    by_cases hlt : j < L
    · obtain ⟨p, hp⟩ : ∃ p, ps[j]? = some p := ⟨_, List.getElem?_eq_getElem (by rw [← HL.out]; exact hlt)⟩
      obtain ⟨g, off, rfl, hg, hcl⟩ := HC.out (by omega)
      have hszw := HB.out.size
      have hgw : g < wr.heap.size := by omega
      have p0 := (HB.out.cell (p := ⟨g, off + j * 2, none⟩) (by show g < w.heap.size; omega)).trans (hcl j p hp).1
      have p1 := (HB.out.cell (p := ⟨g, off + j * 2 + 1, none⟩) (by show g < w.heap.size; omega)).trans (hcl j p hp).2
      have hpt : PtOk N p := by
        have := HP.out.at hp
        cases p with
        | tok t => exact this
        | nam n => exact this
      have hfl := firstP_lt hT20 HF.out hpt
      have or1 := or_u32 HFl.out hfl
      have HO : Hid (f ||| (firstP k p).1 < 2 ^ 21) := hid (Nat.or_lt_two_pow HFl.out hfl)
      have hD : beginsP k ps 0 = if (firstP k p).2 = true then beginsP k (ps.drop (j + 1)) (f ||| (firstP k p).1) else (f ||| (firstP k p).1, false) := by
        rw [HE.out, drop_at hp, beginsP_cons]
      have HD : Hid _ := hid hD
      have CF : Hid (Calls Tryz.prog 198 #[.pointer (some ⟨fb, 0, none⟩), .agg #[.bool (isNam p), .int .i64 (numOf p)]] (wr.alloc (.cells #[.bool (isNam p), .int .i64 (numOf p)] 235)) fun e w' => e = .returned (.tuple #[.int .u32 (firstP k p).1, .bool (firstP k p).2]) ∧ Below (wr.alloc (.cells #[.bool (isNam p), .int .i64 (numOf p)] 235)).heap.size (wr.alloc (.cells #[.bool (isNam p), .int .i64 (numOf p)] 235)) w') := hid (
        ffirst_any _ n₀ fb kb N tws pg adT capT gN capN k (H.out.below (bal HB.out)) p hpt)
      obtain ⟨pi, hpi⟩ : ∃ b, isNam p = b := ⟨_, rfl⟩
      obtain ⟨pn, hpn⟩ : ∃ b, numOf p = b := ⟨_, rfl⟩
      obtain ⟨x, e, hxe⟩ : ∃ x e, firstP k p = (x, e) := ⟨_, _, rfl⟩
      rw [hpi, hpn, hxe] at CF
      rw [hxe] at HD HO or1
      rw [hpi] at p0
      rw [hpn] at p1
      simp only at CF HD HO or1
      clear hcl hp hpt hfl hD hpi hpn hxe
      cases e
      · have HE2 : Hid (beginsP k ps 0 = (f ||| x, false)) := hid (by rw [HD.out]; simp)
        go_wp2_with (go_at_call 198; refine CF.out.mono ?_; rintro e w2 ⟨rfl, hb2⟩; have HB2 : Hid _ := hid (HB.out.trans (((bal (Below.refl _ _)).trans (hb2.mono (by simp))).mono HB.out.size)); clear hb2 CF)
        go_ret2
        exact ⟨by rw [HE2.out]; rfl, HB2.out⟩
      · have HE2 : Hid (beginsP k ps 0 = beginsP k (ps.drop (j + 1)) (f ||| x)) := hid (by rw [HD.out]; simp)
        go_wp2_with (go_at_call 198; refine CF.out.mono ?_; rintro e w2 ⟨rfl, hb2⟩; have HB2 : Hid _ := hid (HB.out.trans (((bal (Below.refl _ _)).trans (hb2.mono (by simp))).mono HB.out.size)); clear hb2 CF)
        go_roundw
        case rel => exact ⟨j + 1, f ||| x, by omega, by go_num, rfl, HO.out, HE2, HB2⟩
        case measure => simp [intOf]; omega
    · have HE2 : Hid (beginsP k ps 0 = (f, true)) := hid (by
        rw [HE.out, List.drop_eq_nil_of_le (by rw [← HL.out]; omega)]
        rfl)
      go_wp2
      go_ret2
      exact ⟨by rw [HE2.out]; rfl, HB.out⟩

end Go.Proofs.YtjjggdcnpndgjaaGreatDoor

namespace Go.Proofs.YtjjggdcnpndgjaaGreatDoor
open Go.RowKit Go.Shelf

set_option maxHeartbeats 1000000 in
set_option maxRecDepth 100000 in
theorem ahead_any (w : World) (n₀ fb kb : Nat) (N : NG) (tws : List ByteArray) (pg : List Nm) (adT : Option Addr) (capT gN capN : Nat) (k : List Fa) (h : FcM w n₀ fb kb N tws pg adT capT gN capN k) (hfh : ∀ n, fhAt k n < 2 ^ 21) (v : Value) (ps : List Pt) (hv : PartsV w n₀ v ps) (hps : PsOk N ps) (hlen : ps.length ≤ 8) (fo : Nat) (hfo : fo < 2 ^ 21) :
    Calls Tryz.prog 165 #[.pointer (some ⟨fb, 0, none⟩), v, .int .u32 fo] w fun e w' => e = .returned (.int .u32 (aheadP k ps fo)) ∧ Below w.heap.size w w' := by
  have CB := begins_any w n₀ fb kb N tws pg adT capT gN capN k h hfh v ps hv hps hlen
  have hlt := beginsP_lt h.gr.leT hfh ps 0 hps (by decide)
  have or1 := or_u32 hlt hfo
  have HE : Hid (aheadP k ps fo = if (beginsP k ps 0).2 = true then (beginsP k ps 0).1 ||| fo else (beginsP k ps 0).1) := hid rfl
  obtain ⟨ad, cap, rfl, _, _⟩ := hv
  obtain ⟨b, e, hbe⟩ : ∃ b e, beginsP k ps 0 = (b, e) := ⟨_, _, rfl⟩
  rw [hbe] at CB or1 HE
  simp only at CB or1 HE
  have HCB : Hid _ := hid CB
  clear h hfh hps hlen hfo hlt CB hbe
  cases e
  · have HE2 : Hid (aheadP k ps fo = b) := hid (by rw [HE.out]; simp)
    go_enter Tryz.func165, Tryz.ntmps165
    go_wp2_with (go_at_call 162; refine HCB.out.mono ?_; rintro e w2 ⟨rfl, hb2⟩; have HB : Hid _ := hid hb2; clear hb2)
    go_ret
    exact ⟨by rw [HE2.out]; rfl, HB.out⟩
  · have HE2 : Hid (aheadP k ps fo = b ||| fo) := hid (by rw [HE.out]; simp)
    go_enter Tryz.func165, Tryz.ntmps165
    go_wp2_with (go_at_call 162; refine HCB.out.mono ?_; rintro e w2 ⟨rfl, hb2⟩; have HB : Hid _ := hid hb2; clear hb2)
    go_ret
    exact ⟨by rw [HE2.out]; rfl, HB.out⟩

theorem KnV.first {w : World} {kb n : Nat} {k : List Fa} (h : KnV w kb n k) {i : Nat} (hi : i < n) {a : Fa} (ha : k[i]? = some a) (x : Nat) :
    KnV (w.setCell ⟨kb, i * 4 + 2, none⟩ (.int .u32 ((a.first ||| x : Nat) : Int))) kb n (k.modify i fun a => { a with first := a.first ||| x }) ∧ Keeps w (w.setCell ⟨kb, i * 4 + 2, none⟩ (.int .u32 ((a.first ||| x : Nat) : Int))) [kb] :=
  h.put hi _ 2 (by omega) _ (fun b hb => by rw [ha] at hb; cases hb; rfl)

theorem KnV.follow {w : World} {kb n : Nat} {k : List Fa} (h : KnV w kb n k) {i : Nat} (hi : i < n) {a : Fa} (ha : k[i]? = some a) (x : Nat) :
    KnV (w.setCell ⟨kb, i * 4 + 3, none⟩ (.int .u32 ((a.follow ||| x : Nat) : Int))) kb n (k.modify i (orF x)) ∧ Keeps w (w.setCell ⟨kb, i * 4 + 3, none⟩ (.int .u32 ((a.follow ||| x : Nat) : Int))) [kb] :=
  h.put hi _ 3 (by omega) _ (fun b hb => by rw [ha] at hb; cases hb; rfl)

set_option maxHeartbeats 1000000 in
set_option maxRecDepth 100000 in
theorem first1_any (w : World) (n₀ fb kb : Nat) (N : NG) (tws : List ByteArray) (pg : List Nm) (adT : Option Addr) (capT gN capN : Nat) (k : List Fa) (h : FcM w n₀ fb kb N tws pg adT capT gN capN k) (hfh : ∀ n, fhAt k n < 2 ^ 21)
    (Bx : Nat) (hBx : w.cell? ⟨Bx, 0, none⟩ = some (.pointer (some ⟨fb, 0, none⟩))) (v : Value) (r : Nat × List Pt) (hr : r ∈ N.rules) (hv : PartsV w n₀ v r.2) :
    Calls Tryz.prog 161 #[.pointer (some ⟨kb, r.1 * 4, none⟩), v, .pointer (some ⟨Bx, 0, none⟩)] w fun e w' => e = .returned (.tuple #[]) ∧ KnV w' kb N.nN (stepFirst k r) ∧ Keeps w w' [kb] := by
  obtain ⟨m, ps⟩ := r
  have hm : m < N.nN := h.gr.ok.lt _ hr
  simp only at hv ⊢
  have hps : PsOk N ps := h.gr.ok.ps hr
  have CB := begins_any w n₀ fb kb N tws pg adT capT gN capN k h hfh v ps hv hps (h.gr.ok.parts _ hr)
  obtain ⟨a, ha⟩ : ∃ a, k[m]? = some a := ⟨_, List.getElem?_eq_getElem (by rw [h.kn.1]; exact hm)⟩
  have hal : a.first < 2 ^ 21 := by rw [← fh_at ha]; exact hfh m
  have or1 := or_u32 hal (beginsP_lt h.gr.leT hfh ps 0 hps (by decide))
  have c2 := (h.kn.cells ha).2.2.1
  have fz := h.kn.free (m * 4 + 2)
  have hkw := h.kn.lt
  obtain ⟨ad, cap, rfl, _, _⟩ := hv
  have hst : stepFirst k (m, ps) = k.modify m fun a => { a with first := a.first ||| (beginsP k ps 0).1 } := rfl
  obtain ⟨b, e, hbe⟩ : ∃ b e, beginsP k ps 0 = (b, e) := ⟨_, _, rfl⟩
  rw [hbe] at CB or1 hst
  simp only at CB or1 hst
  have HCB : Hid _ := hid CB
  have HST : Hid _ := hid hst
  have HA : Hid _ := hid ha
  have HM : Hid (m < N.nN) := hid hm
  have H : Hid _ := hid h
  clear h hfh hr hps hal CB hst ha hbe hm
  go_enter Tryz.func161, Tryz.ntmps161
  go_wp2_with (go_at_call 162; refine HCB.out.mono ?_; rintro e w2 ⟨rfl, hb2⟩; replace c2 := (hb2.cell (p := ⟨kb, m * 4 + 2, none⟩) (by exact hkw)).trans c2; replace fz := (World.frozen?_of_block (w := w) (a := ⟨kb, m * 4 + 2, none⟩) (hb2.block kb hkw)).trans fz; have HB : Hid _ := hid hb2; clear hb2)
  go_end0
  obtain ⟨h1, h2⟩ := KnV.first (H.out.kn.keeps (Keeps.of_below HB.out []) (by simp)) HM.out HA.out b
  exact ⟨rfl, by rw [HST.out]; exact h1, (Keeps.of_below HB.out _).trans h2⟩

end Go.Proofs.YtjjggdcnpndgjaaGreatDoor

namespace Go.Proofs.YtjjggdcnpndgjaaGreatDoor
open Go.RowKit Go.Shelf

set_option maxHeartbeats 2000000 in
set_option maxRecDepth 100000 in
theorem follow1_any (w : World) (n₀ fb kb : Nat) (N : NG) (tws : List ByteArray) (pg : List Nm) (adT : Option Addr) (capT gN capN : Nat) (k : List Fa) (h : FcM w n₀ fb kb N tws pg adT capT gN capN k) (hfh : ∀ n, fhAt k n < 2 ^ 21) (hfo : ∀ n, foAt k n < 2 ^ 21)
    (Bx : Nat) (hBx : w.cell? ⟨Bx, 0, none⟩ = some (.pointer (some ⟨fb, 0, none⟩))) (hBk : Bx ≠ kb) (v : Value) (r : Nat × List Pt) (hr : r ∈ N.rules) (hv : PartsV w n₀ v r.2) :
    Calls Tryz.prog 164 #[.pointer (some ⟨kb, r.1 * 4, none⟩), v, .pointer (some ⟨Bx, 0, none⟩)] w fun e w' => e = .returned (.tuple #[]) ∧ KnV w' kb N.nN (stepFollow k r) ∧ Keeps w w' [kb] := by
  obtain ⟨m, ps⟩ := r
  have hm : m < N.nN := h.gr.ok.lt _ hr
  simp only at hv ⊢
  have hps : PsOk N ps := h.gr.ok.ps hr
  have hlen : ps.length ≤ 8 := h.gr.ok.parts _ hr
  have hkw := h.kn.lt
  have hfw := h.lf
  have hne := h.ne
  have hlw := h.ln
  have hnk := h.n0
  have h2 := h.f2
  have hT20 := h.gr.leT
  have hBw : Bx < w.heap.size := World.block_lt_of_cell? w _ hBx
  have HPV : Hid (PartsV w n₀ v ps) := hid hv
  obtain ⟨ad, cap, rfl, hcap, hcs⟩ := hv
  obtain ⟨L, hL⟩ : ∃ L, L = ps.length := ⟨_, rfl⟩
  rw [← hL] at hcap hcs hlen HPV ⊢
  obtain ⟨nN, hn1⟩ : ∃ n, n = N.nN := ⟨_, rfl⟩
  have hn20 := h.gr.leN
  have hkn := h.kn
  rw [← hn1] at h2 hm hn20 hkn ⊢
  have H : Hid _ := hid h
  have HFF : Hid ((∀ n, fhAt k n < 2 ^ 21) ∧ (∀ n, foAt k n < 2 ^ 21)) := hid ⟨hfh, hfo⟩
  have HN : Hid (nN = N.nN) := hid hn1
  have HKN : Hid (KnV w kb nN k) := hid hkn
  have HL : Hid (L = ps.length) := hid hL
  have HC : Hid _ := hid hcs
  have HP : Hid (PsOk N ps) := hid hps
  have HB0 : Hid (w.cell? ⟨Bx, 0, none⟩ = some (.pointer (some ⟨fb, 0, none⟩))) := hid hBx
  have HF0 : Hid (w.cell? ⟨fb, 2, none⟩ = some (.slice (some ⟨kb, 0, none⟩) nN nN)) := hid h2
  clear h hr hL hcs hps hn1 hkn hBx h2 hfh hfo
  show Calls _ _ _ _ fun e w' => e = .returned (.tuple #[]) ∧ KnV w' kb nN (followP m ps k) ∧ Keeps w w' [kb]
  go_enter Tryz.func164, Tryz.ntmps164
  go_wp2
  go_loopw [9] (fun i wr => ∃ (j : Nat) (kj : List Fa), j ≤ L ∧ i = .int .i64 j ∧ Hid (followP m ps k = followP m (ps.drop j) kj ∧ (∀ n, flAt kj n = flAt k n) ∧ (∀ n, fhAt kj n = fhAt k n) ∧ (∀ n, foAt kj n < 2 ^ 21)) ∧ Hid (KnV wr kb nN kj) ∧ Hid (Keeps w wr [kb])) (fun i _ => L - (intOf i).toNat)
  case atStart => exact ⟨0, k, Nat.zero_le _, rfl, ⟨rfl, fun _ => rfl, fun _ => rfl, HFF.out.2⟩, HKN, Keeps.refl _ _⟩
  case round =>
    obtain ⟨j, kj, hj, rfl, HE, HV, HK⟩ := hrel
    by_cases hlt : j < L
    · obtain ⟨p, hp⟩ : ∃ p, ps[j]? = some p := ⟨_, List.getElem?_eq_getElem (by rw [← HL.out]; exact hlt)⟩
      obtain ⟨g, off, rfl, hg, hcl⟩ := HC.out (by omega)
      have hszw := HK.out.size
      have hgw : g < wr.heap.size := by omega
      have hgk : g ∉ [kb] := by simp; omega
      have p0 := (HK.out.cell (p := ⟨g, off + j * 2, none⟩) (by show g < w.heap.size; omega) hgk).trans (hcl j p hp).1
      have p1 := (HK.out.cell (p := ⟨g, off + j * 2 + 1, none⟩) (by show g < w.heap.size; omega) hgk).trans (hcl j p hp).2
      have bx := (HK.out.cell (p := ⟨Bx, 0, none⟩) (by exact hBw) (by simpa using hBk)).trans HB0.out
      have fx := (HK.out.cell (p := ⟨fb, 2, none⟩) (by exact hfw) (by simpa using hne)).trans HF0.out
      have hpt := HP.out.at hp
      have HD : Hid (ps.drop j = p :: ps.drop (j + 1)) := hid (drop_at hp)
      have HCL : Hid _ := hid hcl
      clear hcl hp
      cases p with
      | tok t =>
        simp only [isNam, numOf] at p0 p1
        have HE2 : Hid (followP m ps k = followP m (ps.drop (j + 1)) kj ∧ (∀ n, flAt kj n = flAt k n) ∧ (∀ n, fhAt kj n = fhAt k n) ∧ (∀ n, foAt kj n < 2 ^ 21)) := hid ⟨by rw [HE.out.1, HD.out]; rfl, HE.out.2⟩
        clear hpt
        go_wp2
        go_roundw
        case rel => exact ⟨j + 1, kj, by omega, by go_num, HE2, hid (HV.out.keeps ((Keeps.refl _ []).alloc _) (by simp)), hid (HK.out.alloc _)⟩
        case measure => simp [intOf]; omega
      | nam n =>
        simp only [isNam, numOf] at p0 p1
        have hn : n < nN := by rw [HN.out]; exact hpt
        obtain ⟨a, ha⟩ : ∃ a, kj[m]? = some a := ⟨_, List.getElem?_eq_getElem (by rw [HV.out.1]; exact hm)⟩
        obtain ⟨b, hb⟩ : ∃ b, kj[n]? = some b := ⟨_, List.getElem?_eq_getElem (by rw [HV.out.1]; exact hn)⟩
        have ca := (HV.out.cells ha).2.2.2
        have cb := (HV.out.cells hb).2.2.2
        have fz := HV.out.free (n * 4 + 3)
        have hkr := HV.out.lt
        have HAB : Hid (kj[m]? = some a ∧ kj[n]? = some b) := hid ⟨ha, hb⟩
        clear hpt ha hb
        go_wp2
        have hwr : IntKind.i64.wrap ((j : Int) + 1) = (j : Int) + 1 := by rw [IntKind.wrap_i64]; omega
        have hb1 : (0 : Int) ≤ (j : Int) + 1 := by omega
        have hb2 : (j : Int) + 1 ≤ (L : Int) := by omega
        have htn : ((j : Int) + 1).toNat = j + 1 := by omega
        obtain ⟨AD, hAD⟩ : ∃ AD, (if cap = j + 1 then some (⟨g, off, none⟩ : Addr) else some ⟨g, off + (j + 1) * 2, none⟩) = AD := ⟨_, rfl⟩
        have dx := box_alloc (.cells #[.bool true, .int .i64 n] 235) bx
        have ex := box_alloc (.cells #[.bool true, .int .i64 n] 235) fx
        have nx := box_at wr #[.bool true, .int .i64 n] 235 1
        have ax := box_alloc (.cells #[.bool true, .int .i64 n] 235) ca
        have cx := box_alloc (.cells #[.bool true, .int .i64 n] 235) cb
        have zx : (wr.alloc (.cells #[.bool true, .int .i64 n] 235)).frozen? ⟨kb, n * 4 + 3, none⟩ = false := (World.frozen?_of_block (w := wr) (Below.heap_alloc wr _ kb hkr)).trans fz
        have HW : Hid (Keeps wr (wr.alloc (.cells #[.bool true, .int .i64 n] 235)) []) := hid ((Keeps.refl _ _).alloc _)
        have hs1 : (wr.alloc (.cells #[.bool true, .int .i64 n] 235)).heap.size = wr.heap.size + 1 := World.size_alloc _ _
        obtain ⟨W1, hW1⟩ : ∃ W1, wr.alloc (.cells #[.bool true, .int .i64 n] 235) = W1 := ⟨_, rfl⟩
        rw [hW1] at dx ex nx ax cx zx HW hs1 ⊢
        clear hW1 bx fx ca cb fz p0 p1
        have hKW1 : Keeps w W1.drew [kb] := (HK.out.trans (HW.out.mono (fun q h => by cases h))).drew
        have hKV1 : KnV W1.drew kb N.nN kj := by have h1 := HV.out.keeps HW.out.drew (by simp); rw [HN.out] at h1; exact h1
        have hfa : a.follow < 2 ^ 21 := by rw [← fo_at HAB.out.1]; exact HE.out.2.2.2 m
        have hfb : b.follow < 2 ^ 21 := by rw [← fo_at HAB.out.2]; exact HE.out.2.2.2 n
        have hfh2 : ∀ q, fhAt kj q < 2 ^ 21 := fun q => by rw [HE.out.2.2.1]; exact HFF.out.1 q
        have hpo : PsOk N (ps.drop (j + 1)) := ⟨fun q hq => HP.out.1 q (List.mem_of_mem_drop hq), fun q hq => HP.out.2 q (List.mem_of_mem_drop hq)⟩
        have hpv : PartsV W1.drew n₀ (.slice AD (L - (j + 1)) (cap - (j + 1))) (ps.drop (j + 1)) :=
          ⟨AD, cap - (j + 1), by rw [List.length_drop, ← HL.out], by rw [List.length_drop, ← HL.out]; omega, fun h0 => ⟨g, off + (j + 1) * 2, by rw [List.length_drop, ← HL.out] at h0; rw [← hAD, if_neg (by omega)], hg, fun i p hp => by
            rw [List.getElem?_drop] at hp
            obtain ⟨q0, q1⟩ := HCL.out (j + 1 + i) p hp
            rw [show off + (j + 1) * 2 + i * 2 = off + (j + 1 + i) * 2 from by omega]
            exact ⟨(hKW1.cell (by show g < w.heap.size; omega) hgk).trans q0, (hKW1.cell (by show g < w.heap.size; omega) hgk).trans q1⟩⟩⟩
        have CA := ahead_any W1.drew n₀ fb kb N tws pg adT capT gN capN kj (H.out.keeps hKW1 hKV1) hfh2 (.slice AD (L - (j + 1)) (cap - (j + 1))) (ps.drop (j + 1)) hpv hpo (by rw [List.length_drop, ← HL.out]; omega) a.follow hfa
        have hcl := aheadP_lt H.out.gr.leT hfh2 hpo hfa
        have hsl := orF_lt H.out.gr.leT hfh2 HE.out.2.2.2 hpo m n
        have hfst : followP m ps k = followP m (ps.drop (j + 1)) (kj.modify n (orF (aheadP kj (ps.drop (j + 1)) a.follow))) := by rw [HE.out.1, HD.out]; simp only [followP]; rw [fo_at HAB.out.1]
        rw [fo_at HAB.out.1] at hsl
        obtain ⟨c, hc⟩ : ∃ c, aheadP kj (ps.drop (j + 1)) a.follow = c := ⟨_, rfl⟩
        rw [hc] at CA hcl hsl hfst
        have or1 := or_u32 hfb hcl
        have HE2 : Hid (followP m ps k = followP m (ps.drop (j + 1)) (kj.modify n (orF c)) ∧ (∀ q, flAt (kj.modify n (orF c)) q = flAt k q) ∧ (∀ q, fhAt (kj.modify n (orF c)) q = fhAt k q) ∧ (∀ q, foAt (kj.modify n (orF c)) q < 2 ^ 21)) :=
          hid ⟨hfst, fun q => (fl_keep (f := orF c) (fun _ => rfl) q).trans (HE.out.2.1 q), fun q => (fh_keep (f := orF c) (fun _ => rfl) q).trans (HE.out.2.2.1 q), hsl.2⟩
        have HCA : Hid _ := hid CA
        have hBx1 : Bx < W1.heap.size := World.block_lt_of_cell? W1 _ dx
        have hfw1 : fb < W1.heap.size := World.block_lt_of_cell? W1 _ ex
        have hkw1 : kb < W1.heap.size := World.block_lt_of_cell? W1 _ cx
        have hnw1 : wr.heap.size < W1.heap.size := by omega
        clear CA hcl hsl hfst hc hpv hpo hfh2 hfa hfb hKV1 hKW1
        refine wp_region_last (fun w' => w'.cell? ⟨Bx, 0, none⟩ = some (.pointer (some ⟨fb, 0, none⟩)) ∧ w'.cell? ⟨fb, 2, none⟩ = some (.slice (some ⟨kb, 0, none⟩) nN nN) ∧ w'.cell? ⟨wr.heap.size, 1, none⟩ = some (.int .i64 n) ∧ w'.cell? ⟨kb, n * 4 + 3, none⟩ = some (.int .u32 b.follow) ∧ w'.cell? ⟨kb, m * 4 + 3, none⟩ = some (.int .u32 a.follow) ∧ w'.frozen? ⟨kb, n * 4 + 3, none⟩ = false ∧ Below W1.heap.size W1 w') (by kernel_rfl) (by kernel_rfl) ⟨dx, ex, nx, cx, ax, zx, bdr (Below.refl _ _)⟩ (fun hHeld => ?_)
        simp only [cutLast, idle, lastOf]
        refine tkA 0 ?vv30 rfl ?hy30 hHeld ?_
        case hy30 => (intro w hSw; (try dsimp only at hSw); first | (go_simp; done) | (go_simp; with_reducible rfl))
        try simp only [zA, zC, Act.put, zD, zE, zF]
        refine tkA 1 ?vv9 rfl ?hy9 hHeld ?_
        case hy9 => (intro w hSw; (try dsimp only at hSw); first | (go_simp; done) | (go_simp; with_reducible rfl))
        try simp only [zA, zB, zC, Act.put, zD, zE, zF]
        refine tkA 2 ?vv10 rfl ?hy10 hHeld ?_
        case hy10 => (intro w hSw; (try dsimp only at hSw); first | (go_simp; done) | (go_simp; with_reducible rfl))
        try simp only [zA, zB, zC, Act.put, zD, zE, zF]
        refine tkA 3 ?vv11 rfl ?hy11 hHeld ?_
        case hy11 => (intro w hSw; (try dsimp only at hSw); first | (go_simp; done) | (go_simp; with_reducible rfl))
        try simp only [zA, zB, zC, Act.put, zD, zE, zF]
        refine tkA 4 ?vv12 rfl ?hy12 hHeld ?_
        case hy12 => (intro w hSw; (try dsimp only at hSw); first | (go_simp; done) | (go_simp; with_reducible rfl))
        try simp only [zA, zB, zC, Act.put, zD, zE, zF]
        refine tkA 5 ?vv13 rfl ?hy13 hHeld ?_
        case hy13 => (intro w hSw; (try dsimp only at hSw); first | (go_simp; done) | (go_simp; with_reducible rfl))
        try simp only [zA, zB, zC, Act.put, zD, zE, zF]
        refine tkA 6 ?vv14 rfl ?hy14 hHeld ?_
        case hy14 => (intro w hSw; (try dsimp only at hSw); first | (go_simp; done) | (go_simp; with_reducible rfl))
        try simp only [zA, zB, zC, Act.put, zD, zE, zF]
        refine tkA 7 ?vv15 rfl ?hy15 hHeld ?_
        case hy15 => (intro w hSw; (try dsimp only at hSw); first | (go_simp; done) | (go_simp; with_reducible rfl))
        try simp only [zA, zB, zC, Act.put, zD, zE, zF]
        refine tkA 8 ?vv16 rfl ?hy16 hHeld ?_
        case hy16 => (intro w hSw; (try dsimp only at hSw); first | (go_simp; done) | (go_simp; with_reducible rfl))
        try simp only [zA, zB, zC, Act.put, zD, zE, zF]
        refine tkA 9 ?vv17 rfl ?hy17 hHeld ?_
        case hy17 => (intro w hSw; (try dsimp only at hSw); first | (go_simp; done) | (go_simp; with_reducible rfl))
        try simp only [zA, zB, zC, Act.put, zD, zE, zF]
        refine tkA 10 ?vv18 rfl ?hy18 hHeld ?_
        case hy18 => (intro w hSw; (try dsimp only at hSw); first | (go_simp; done) | (go_simp; with_reducible rfl))
        try simp only [zA, zB, zC, Act.put, zD, zE, zF]
        refine tkA 11 ?vv19 rfl ?hy19 hHeld ?_
        case hy19 => (intro w hSw; (try dsimp only at hSw); first | (go_simp; done) | (go_simp; with_reducible rfl))
        try simp only [zA, zB, zC, Act.put, zD, zE, zF]
        refine tkA 12 ?vv20 rfl ?hy20 hHeld ?_
        case hy20 => (intro w hSw; (try dsimp only at hSw); first | (go_simp; done) | (go_simp; with_reducible rfl))
        try simp only [zA, zB, zC, Act.put, zD, zE, zF]
        refine tkA 13 ?vv21 rfl ?hy21 hHeld ?_
        case hy21 => (intro w hSw; (try dsimp only at hSw); first | (go_simp; done) | (go_simp; with_reducible rfl))
        try simp only [zA, zB, zC, Act.put, zD, zE, zF]
        refine tkA 14 ?vv22 rfl ?hy22 hHeld ?_
        case hy22 => (intro w hSw; (try dsimp only at hSw); first | (go_simp; done) | (go_simp; with_reducible rfl))
        try simp only [zA, zB, zC, Act.put, zD, zE, zF]
        refine tkA 15 ?vv23 rfl ?hy23 hHeld ?_
        case hy23 => (intro w hSw; (try dsimp only at hSw); first | (go_simp; done) | (go_simp; with_reducible rfl))
        try simp only [zA, zB, zC, Act.put, zD, zE, zF]
        refine tkA 16 ?vv24 rfl ?hy24 hHeld ?_
        case hy24 => (intro w hSw; (try dsimp only at hSw); first | (go_simp; done) | (go_simp; with_reducible rfl))
        try simp only [zA, zB, zC, Act.put, zD, zE, zF]
        refine tkA 17 ?vv25 rfl ?hy25 hHeld ?_
        case hy25 => (intro w hSw; (try dsimp only at hSw); first | (go_simp; done) | (go_simp; with_reducible rfl))
        try simp only [zA, zB, zC, Act.put, zD, zE, zF]
        refine wpAnyH_ready (rs := [18]) (by kernel_rfl) (by simp) ?_
        refine AllReadyH.cons rfl (fun K hK => ?_) AllReadyH.nil
        try simp only [zA, zB, zC]
        rw [if_pos (by rfl)]; go_simp; refine HCA.out.mono ?_; rintro e w2 ⟨rfl, hb2⟩
        refine hK.out _ _ ?_ (fun hHeld => ?_)
        · exact ⟨(hb2.cell (by exact hBx1)).trans hHeld.1, (hb2.cell (by exact hfw1)).trans hHeld.2.1, (hb2.cell (by exact hnw1)).trans hHeld.2.2.1, (hb2.cell (by exact hkw1)).trans hHeld.2.2.2.1, (hb2.cell (by exact hkw1)).trans hHeld.2.2.2.2.1, (World.frozen?_of_block (w := W1.drew) (a := ⟨kb, n * 4 + 3, none⟩) (hb2.block kb hkw1)).trans hHeld.2.2.2.2.2.1, hHeld.2.2.2.2.2.2.trans hb2⟩
        clear hK K
        try simp only [zA, zB, zC, Act.put, zD, zE, zF]
        refine tkA 19 ?vv26 rfl ?hy26 hHeld ?_
        case hy26 => (intro w hSw; (try dsimp only at hSw); first | (go_simp; done) | (go_simp; with_reducible rfl))
        try simp only [zA, zB, zC, Act.put, zD, zE, zF]
        refine tkA 20 ?vv27 rfl ?hy27 hHeld ?_
        case hy27 => (intro w hSw; (try dsimp only at hSw); first | (go_simp; done) | (go_simp; with_reducible rfl))
        try simp only [zA, zB, zC, Act.put, zD, zE, zF]
        refine tkA 21 ?vv28 rfl ?hy28 hHeld ?_
        case hy28 => (intro w hSw; (try dsimp only at hSw); first | (go_simp; done) | (go_simp; with_reducible rfl))
        try simp only [zA, zB, zC, Act.put, zD, zE, zF]
        refine tkA 22 ?vv29 rfl ?hy29 hHeld ?_
        case hy29 => (intro w hSw; (try dsimp only at hSw); first | (go_simp; done) | (go_simp; with_reducible rfl))
        try simp only [zA, zB, zC, Act.put]
        refine wpAnyH_done (by kernel_rfl) ?_ _
        have HB2 : Hid _ := hid hHeld.2.2.2.2.2.2
        have zz := hHeld.2.2.2.2.2.1
        have zc := hHeld.2.2.2.1
        clear hHeld hb2 zx cx ax nx ex dx
        show wpList _ _ _ _ _ _
        go_wp2
        go_roundw
        case rel =>
          obtain ⟨h3, h4⟩ := KnV.follow (HV.out.keeps (HW.out.trans (Keeps.of_below HB2.out [])) (by simp)) hn HAB.out.2 c
          exact ⟨j + 1, _, by omega, by go_num, HE2, h3, hid (HK.out.trans (((HW.out.trans (Keeps.of_below HB2.out [])).mono (fun k h => by cases h)).trans h4))⟩
        case measure => simp [intOf]; omega
    · have HE2 : Hid (followP m ps k = kj) := hid (by
        rw [HE.out.1, List.drop_eq_nil_of_le (by rw [← HL.out]; omega)]
        rfl)
      go_wp2
      go_end0
      exact ⟨rfl, by rw [HE2.out]; exact HV.out, HK.out⟩

end Go.Proofs.YtjjggdcnpndgjaaGreatDoor

namespace Go.Proofs.YtjjggdcnpndgjaaGreatDoor
open Go.RowKit Go.Shelf

set_option maxHeartbeats 1000000 in
set_option maxRecDepth 100000 in
theorem findFirst_any (w : World) (n₀ fb kb : Nat) (N : NG) (tws : List ByteArray) (pg : List Nm) (adT : Option Addr) (capT gN capN : Nat) (k0 : List Fa) (h : FcM w n₀ fb kb N tws pg adT capT gN capN k0) (h0 : ∀ n, fhAt k0 n = 0) :
    Calls Tryz.prog 109 #[.pointer (some ⟨fb, 0, none⟩)] w fun e w' => e = .returned (.tuple #[]) ∧ Keeps w w' [kb] ∧ ∃ k, FirstInv N k0 k ∧ (∀ r ∈ N.rules, stepFirst k r = k) ∧ KnV w' kb N.nN k := by
  have hkb := h.kn.lt
  obtain ⟨W1, hW1⟩ : ∃ W1, w.alloc (.cells #[.pointer (some ⟨fb, 0, none⟩)] 212) = W1 := ⟨_, rfl⟩
  have hK1 : Keeps w W1 [kb] := by rw [← hW1]; exact (Keeps.refl w [kb]).alloc _
  have h3 : KnV W1 kb N.nN k0 := by rw [← hW1]; exact h.kn.keeps ((Keeps.refl w []).alloc _) (by simp)
  have hb : W1.cell? ⟨w.heap.size, 0, none⟩ = some (.pointer (some ⟨fb, 0, none⟩)) := by rw [← hW1]; exact box_new w _ _
  have hbs : w.heap.size < W1.heap.size := World.block_lt_of_cell? W1 _ hb
  have hX := h.keeps hK1 h3
  have CS := settle_any N tws pg adT capT gN capN kb fb n₀ W1 hX.gr hX.n0 hX.lf hX.ne hX.ln hX.f0 hX.f1 hX.f2 161 #[.pointer (some ⟨w.heap.size, 0, none⟩)] (enters_of Tryz.func161 (by kernel_rfl) rfl)
    stepFirst (msum leftH) (FirstInv N k0) (fun k hk r hr => stepFirst_ok hX.gr.ok hX.gr.leT hk hr)
    (fun W k r v hW hk hI hr hv => first1_any W n₀ fb kb N tws pg adT capT gN capN k (hX.keeps hW hk) hI.lt w.heap.size ((hW.cell (by exact hbs) (by show w.heap.size ∉ [kb]; simp; omega)).trans hb) v r hr hv)
    hX.gr.ok.pos k0 hX.kn (first_start h.kn.1 h0)
  have HCS : Hid _ := hid CS
  have HK1 : Hid _ := hid hK1
  clear CS hX hK1 h3 h h0
  go_enter Tryz.func109, Tryz.ntmps109
  go_wp2_with (go_at_call 153; refine HCS.out.mono ?_; rintro e w2 ⟨rfl, hk2, hr2⟩; have HR : Hid _ := hid (And.intro hk2 hr2); clear hk2 hr2)
  go_end0
  exact ⟨rfl, HK1.out.trans HR.out.1, HR.out.2⟩

theorem settleFollow (W1 : World) (n₀ fb kb : Nat) (N : NG) (tws : List ByteArray) (pg : List Nm) (adT : Option Addr) (capT gN capN : Nat) (k0 k1 : List Fa) (hX : FcM W1 n₀ fb kb N tws pg adT capT gN capN k1) (hI1 : FollowInv N k0 k1) (Bx : Nat) (hBk : Bx ≠ kb) (hb : W1.cell? ⟨Bx, 0, none⟩ = some (.pointer (some ⟨fb, 0, none⟩))) :
    Calls Tryz.prog 153 #[.pointer (some ⟨fb, 0, none⟩), .func (.func 164) #[] #[.pointer (some ⟨Bx, 0, none⟩)]] W1 fun e w' => e = .returned (.tuple #[]) ∧ Keeps W1 w' [kb] ∧ ∃ k, FollowInv N k0 k ∧ (∀ r ∈ N.rules, stepFollow k r = k) ∧ KnV w' kb N.nN k :=
  settle_any N tws pg adT capT gN capN kb fb n₀ W1 hX.gr hX.n0 hX.lf hX.ne hX.ln hX.f0 hX.f1 hX.f2 164 #[.pointer (some ⟨Bx, 0, none⟩)] (enters_of Tryz.func164 (by kernel_rfl) rfl)
    stepFollow (msum leftO) (FollowInv N k0) (fun k hk r hr => stepFollow_ok hX.gr.ok hX.gr.leT hk hr)
    (fun W k r v hW hk hI hr hv => follow1_any W n₀ fb kb N tws pg adT capT gN capN k (hX.keeps hW hk) hI.hlt hI.lt Bx ((hW.cell (by exact World.block_lt_of_cell? W1 _ hb) (by simpa using hBk)).trans hb) hBk v r hr hv)
    hX.gr.ok.pos k1 hX.kn hI1

theorem end_any (w : World) (adT : Option Addr) (nT capT gN nN capN : Nat) : Calls Tryz.prog 115 #[.agg #[.slice adT nT capT, .slice (some ⟨gN, 0, none⟩) nN capN]] w fun e w' => e = .returned (.int .i64 nT) ∧ Below w.heap.size w w' := by
  go_enter Tryz.func115, Tryz.ntmps115
  go_wp2
  go_ret
  exact ⟨rfl, (Below.refl _ _).alloc (Nat.le_refl _) _⟩

set_option maxHeartbeats 1000000 in
set_option maxRecDepth 100000 in
theorem findFollow_any (w : World) (n₀ fb kb : Nat) (N : NG) (tws : List ByteArray) (pg : List Nm) (adT : Option Addr) (capT gN capN : Nat) (k0 : List Fa) (h : FcM w n₀ fb kb N tws pg adT capT gN capN k0) (hh : ∀ n, fhAt k0 n < 2 ^ 21) (h0 : ∀ n, foAt k0 n = 0) :
    Calls Tryz.prog 110 #[.pointer (some ⟨fb, 0, none⟩)] w fun e w' => e = .returned (.tuple #[]) ∧ Keeps w w' [kb] ∧ ∃ k, FollowInv N k0 k ∧ (∀ r ∈ N.rules, stepFollow k r = k) ∧ KnV w' kb N.nN k := by
  have hkb := h.kn.lt
  have hT20 := h.gr.leT
  have hpos := h.gr.ok.pos
  have hFI := follow_start h.gr.ok h.gr.leT h.kn.1 hh h0
  obtain ⟨a, ha⟩ : ∃ a, k0[0]? = some a := ⟨_, List.getElem?_eq_getElem (by rw [h.kn.1]; exact hpos)⟩
  obtain ⟨W1, hW1⟩ : ∃ W1, w.alloc (.cells #[.pointer (some ⟨fb, 0, none⟩)] 212) = W1 := ⟨_, rfl⟩
  have hK1 : Keeps w W1 [kb] := by rw [← hW1]; exact (Keeps.refl w [kb]).alloc _
  have h3 : KnV W1 kb N.nN k0 := by rw [← hW1]; exact h.kn.keeps ((Keeps.refl w []).alloc _) (by simp)
  have hb : W1.cell? ⟨w.heap.size, 0, none⟩ = some (.pointer (some ⟨fb, 0, none⟩)) := by rw [← hW1]; exact box_new w _ _
  have hbs : w.heap.size < W1.heap.size := World.block_lt_of_cell? W1 _ hb
  have hX := h.keeps hK1 h3
  have f0 := hX.f0
  have f1 := hX.f1
  have f2 := hX.f2
  have hfw := hX.lf
  have hkw := hX.kn.lt
  have c3 : W1.cell? ⟨kb, 3, none⟩ = some (.int .u32 a.follow) := by have := (hX.kn.cells ha).2.2.2; simpa using this
  have fz : W1.frozen? ⟨kb, 3, none⟩ = false := hX.kn.free 3
  have HX : Hid _ := hid hX
  have HK1 : Hid _ := hid hK1
  obtain ⟨nN, hn1⟩ : ∃ n, n = N.nN := ⟨_, rfl⟩
  obtain ⟨nT, hn2⟩ : ∃ n, n = N.nT := ⟨_, rfl⟩
  rw [← hn1] at f1 f2 hpos
  rw [← hn2] at f0 hT20 hFI
  obtain ⟨x, hx⟩ : ∃ x : Nat, 1 <<< nT = x := ⟨_, rfl⟩
  have CO := fun W => only_any W nT hT20
  rw [hx] at hFI CO
  have HFI : Hid _ := hid hFI
  have HCO : Hid _ := hid CO
  have HN1 : Hid (nN = N.nN) := hid hn1
  clear hX hK1 h3 h h0 hh ha hFI hn1 hn2 CO hx
  go_enter Tryz.func110, Tryz.ntmps110
  go_wp2
  refine wp_region_last (fun w' => w'.cell? ⟨w.heap.size, 0, none⟩ = some (.pointer (some ⟨fb, 0, none⟩)) ∧ w'.cell? ⟨fb, 0, none⟩ = some (.slice adT nT capT) ∧ w'.cell? ⟨fb, 1, none⟩ = some (.slice (some ⟨gN, 0, none⟩) nN capN) ∧ w'.cell? ⟨fb, 2, none⟩ = some (.slice (some ⟨kb, 0, none⟩) nN nN) ∧ w'.cell? ⟨kb, 3, none⟩ = some (.int .u32 a.follow) ∧ w'.frozen? ⟨kb, 3, none⟩ = false ∧ Below W1.heap.size W1 w') (by kernel_rfl) (by kernel_rfl) ⟨hb, f0, f1, f2, c3, fz, bdr (Below.refl _ _)⟩ (fun hHeld => ?_)
  simp only [cutLast, idle, lastOf]
  refine tkA 0 ?vv11 rfl ?hy11 hHeld ?_
  case hy11 => (intro w hSw; (try dsimp only at hSw); first | (go_simp; done) | (go_simp; with_reducible rfl))
  try simp only [zA, zC, Act.put, zD, zE, zF]
  refine tkA 1 ?vv1 rfl ?hy1 hHeld ?_
  case hy1 => (intro w hSw; (try dsimp only at hSw); first | (go_simp; done) | (go_simp; with_reducible rfl))
  try simp only [zA, zB, zC, Act.put, zD, zE, zF]
  refine tkA 2 ?vv2 rfl ?hy2 hHeld ?_
  case hy2 => (intro w hSw; (try dsimp only at hSw); first | (go_simp; done) | (go_simp; with_reducible rfl))
  try simp only [zA, zB, zC, Act.put, zD, zE, zF]
  refine tkA 3 ?vv3 rfl ?hy3 hHeld ?_
  case hy3 => (intro w hSw; (try dsimp only at hSw); first | (go_simp; done) | (go_simp; with_reducible rfl))
  try simp only [zA, zB, zC, Act.put, zD, zE, zF]
  refine tkA 4 ?vv4 rfl ?hy4 hHeld ?_
  case hy4 => (intro w hSw; (try dsimp only at hSw); first | (go_simp; done) | (go_simp; with_reducible rfl))
  try simp only [zA, zB, zC, Act.put, zD, zE, zF]
  refine tkA 5 ?vv5 rfl ?hy5 hHeld ?_
  case hy5 => (intro w hSw; (try dsimp only at hSw); first | (go_simp; done) | (go_simp; with_reducible rfl))
  try simp only [zA, zB, zC, Act.put, zD, zE, zF]
  refine tkA 6 ?vv6 rfl ?hy6 hHeld ?_
  case hy6 => (intro w hSw; (try dsimp only at hSw); first | (go_simp; done) | (go_simp; with_reducible rfl))
  try simp only [zA, zB, zC, Act.put, zD, zE, zF]
  refine tkA 7 ?vv7 rfl ?hy7 hHeld ?_
  case hy7 => (intro w hSw; (try dsimp only at hSw); first | (go_simp; done) | (go_simp; with_reducible rfl))
  try simp only [zA, zB, zC, Act.put, zD, zE, zF]
  refine wpAnyH_ready (rs := [8]) (by kernel_rfl) (by simp) ?_
  refine AllReadyH.cons rfl (fun K hK => ?_) AllReadyH.nil
  try simp only [zA, zB, zC]
  rw [if_pos (by rfl)]; go_simp; refine (end_any _ _ _ _ _ _ _).mono ?_; rintro e w2 ⟨rfl, hb2⟩
  refine hK.out _ _ ?_ (fun hHeld => ?_)
  · exact ⟨(hb2.cell (by exact hbs)).trans hHeld.1, (hb2.cell (by exact hfw)).trans hHeld.2.1, (hb2.cell (by exact hfw)).trans hHeld.2.2.1, (hb2.cell (by exact hfw)).trans hHeld.2.2.2.1, (hb2.cell (by exact hkw)).trans hHeld.2.2.2.2.1, (World.frozen?_of_block (w := W1.drew) (a := ⟨kb, 3, none⟩) (hb2.block kb hkw)).trans hHeld.2.2.2.2.2.1, hHeld.2.2.2.2.2.2.trans hb2⟩
  clear hK K
  try simp only [zA, zB, zC, Act.put, zD, zE, zF]
  refine wpAnyH_ready (rs := [9]) (by kernel_rfl) (by simp) ?_
  refine AllReadyH.cons rfl (fun K hK => ?_) AllReadyH.nil
  try simp only [zA, zB, zC]
  rw [if_pos (by rfl)]; go_simp; refine (HCO.out _).mono ?_; rintro e w3 ⟨rfl, rfl⟩
  refine hK.out _ _ ?_ (fun hHeld => ?_)
  · exact hHeld
  clear hK K
  try simp only [zA, zB, zC, Act.put, zD, zE, zF]
  refine tkA 10 ?vv8 rfl ?hy8 hHeld ?_
  case hy8 => (intro w hSw; (try dsimp only at hSw); first | (go_simp; done) | (go_simp; with_reducible rfl))
  try simp only [zA, zB, zC, Act.put, zD, zE, zF]
  refine tkA 11 ?vv9 rfl ?hy9 hHeld ?_
  case hy9 => (intro w hSw; (try dsimp only at hSw); first | (go_simp; done) | (go_simp; with_reducible rfl))
  try simp only [zA, zB, zC, Act.put, zD, zE, zF]
  refine tkA 12 ?vv10 rfl ?hy10 hHeld ?_
  case hy10 => (intro w hSw; (try dsimp only at hSw); first | (go_simp; done) | (go_simp; with_reducible rfl))
  try simp only [zA, zB, zC, Act.put]
  refine wpAnyH_done (by kernel_rfl) ?_ _
  have HB2 : Hid _ := hid hHeld.2.2.2.2.2.2
  have zz := hHeld.2.2.2.2.2.1
  have zc := hHeld.2.2.2.2.1
  have zb := hHeld.1
  clear hHeld hb2 f0 f1 f2 c3 fz hb
  obtain ⟨h4, h5⟩ := (HX.out.kn.keeps (Keeps.of_below HB2.out []) (by simp)).put HX.out.gr.ok.pos (fun a => { a with follow := x }) 3 (by omega) (.int .u32 x) (fun a _ => rfl)
  rw [Nat.zero_mul, Nat.zero_add] at h4 h5
  have HKX : Hid _ := hid ((Keeps.of_below HB2.out [kb]).trans h5)
  have HV4 : Hid _ := hid h4
  have hz : w.heap.size ≠ kb := by omega
  have hzb : (w2.setCell ⟨kb, 3, none⟩ (.int .u32 x)).cell? ⟨w.heap.size, 0, none⟩ = some (.pointer (some ⟨fb, 0, none⟩)) := (h5.cell (by exact World.block_lt_of_cell? w2 _ zb) (by simpa using hz)).trans zb
  have CS := settleFollow (w2.setCell ⟨kb, 3, none⟩ (.int .u32 x)) n₀ fb kb N tws pg adT capT gN capN k0 _ (HX.out.keeps HKX.out HV4.out) HFI.out w.heap.size hz hzb
  have HCS : Hid _ := hid CS
  clear h4 h5 hzb CS
  show wpList _ _ _ _ _ _
  go_wp2_with (go_at_call 153; refine HCS.out.mono ?_; rintro e w3 ⟨rfl, hk2, hr2⟩; have HR : Hid _ := hid (And.intro hk2 hr2); clear hk2 hr2)
  go_end0
  exact ⟨rfl, HK1.out.trans (HKX.out.trans HR.out.1), HR.out.2⟩

end Go.Proofs.YtjjggdcnpndgjaaGreatDoor
