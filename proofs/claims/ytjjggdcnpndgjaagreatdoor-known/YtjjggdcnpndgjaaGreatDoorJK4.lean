/- The made grammar's text, walked. -/
import Derived.Test.YtjjggdcnpndgjaaGreatDoorJK3
import Derived.Test.YtjjggdcnpndgjaaGreatDoorJ19
import Derived.Test.YtjjggdcnpndgjaaGreatDoorJ18
namespace Go.Proofs.YtjjggdcnpndgjaaGreatDoor
open Go.RowKit

structure MkC (W : World) (n₀ b : Nat) (m : Mk) (gR cR gP cP gD cD gS cS : Nat) : Prop where
  ltb : b < n₀
  ltS : gS < n₀
  c0 : W.cell? ⟨b, 0, none⟩ = some (.slice (some ⟨gR, 0, none⟩) m.rules.length cR)
  c1 : W.cell? ⟨b, 1, none⟩ = some (.slice (some ⟨gP, 0, none⟩) m.puts.length cP)
  c2 : W.cell? ⟨b, 2, none⟩ = some (.slice (some ⟨gD, 0, none⟩) m.puts.length cD)
  c3 : W.cell? ⟨b, 3, none⟩ = some (.slice (some ⟨gS, 0, none⟩) m.puts.length cS)
  lR : m.rules.length ≤ cR
  lP : m.puts.length ≤ cP
  lD : m.puts.length ≤ cD
  lS : m.puts.length ≤ cS
  puts : ∀ t, t < m.puts.length → W.cell? ⟨gP, t, none⟩ = some (.int .i64 (m.puts.getD t 0 : Nat))
  drops : ∀ t, t < m.puts.length → W.cell? ⟨gD, t, none⟩ = some (.int .i64 (m.drops.getD t 0 : Nat))
  swaps : ∀ i, i < m.puts.length → ∃ gs cs, W.cell? ⟨gS, i, none⟩ = some (.slice (some ⟨gs, 0, none⟩) m.puts.length cs) ∧ m.puts.length ≤ cs ∧ gs < n₀ ∧ ∀ j, j < m.puts.length → W.cell? ⟨gs, j, none⟩ = some (.int .i64 (swpOf m i j : Nat))
  rules : ∀ n rs, m.rules[n]? = some rs → ∃ gn cn, W.cell? ⟨gR, n, none⟩ = some (.slice (some ⟨gn, 0, none⟩) rs.length cn) ∧ rs.length ≤ cn ∧
    ∀ k r, rs[k]? = some r → ∃ gr cr, W.cell? ⟨gn, k, none⟩ = some (.slice (some ⟨gr, 0, none⟩) r.length cr) ∧ r.length ≤ cr ∧ ∀ p a, r[p]? = some a → W.cell? ⟨gr, p, none⟩ = some (.string (wordP a))

theorem mkc_of {w : World} {n₀ b : Nat} {m : Mk} (h : MkV w n₀ b m) : ∃ gR cR gP cP gD cD gS cS, ∀ W, Below n₀ w W → MkC W n₀ b m gR cR gP cP gD cD gS cS := by
  obtain ⟨vR, c0, gR, cR, rfl, lR, hgR, hR⟩ := h.rules
  obtain ⟨vP, c1, gP, cP, rfl, lP, hgP, hP⟩ := h.puts
  obtain ⟨vD, c2, gD, cD, rfl, lD, hgD, hD⟩ := h.drops
  obtain ⟨vS, c3, gS, cS, rfl, lS, hgS, hS⟩ := h.swaps
  refine ⟨gR, cR, gP, cP, gD, cD, gS, cS, fun W hb => ⟨h.lt, hgS, (hb.cell (by exact h.lt)).trans c0, (hb.cell (by exact h.lt)).trans c1, (hb.cell (by exact h.lt)).trans c2, (hb.cell (by exact h.lt)).trans c3, lR, lP, lD, lS, ?_, ?_, ?_, ?_⟩⟩
  · intro t ht
    obtain ⟨x, h1, h2⟩ := hP t ht
    rw [(hb.cell (by exact hgP)).trans h1, h2]
  · intro t ht
    obtain ⟨x, h1, h2⟩ := hD t ht
    rw [(hb.cell (by exact hgD)).trans h1, h2]
  · intro i hi
    obtain ⟨x, h1, g, cap, h2, h3, h4, h5⟩ := hS i hi
    subst h2
    refine ⟨g, cap, (hb.cell (by exact hgS)).trans h1, h3, h4, fun j hj => ?_⟩
    obtain ⟨y, h6, h7⟩ := h5 j hj
    rw [(hb.cell (by exact h4)).trans h6, h7]
  · intro n rs hrs
    obtain ⟨x, h1, rs', h2, g, cap, h3, h4, h5, h6⟩ := hR n (List.getElem?_eq_some_iff.1 hrs).1
    rw [hrs] at h2
    injection h2 with h2
    subst h2
    subst h3
    refine ⟨g, cap, (hb.cell (by exact hgR)).trans h1, h4, fun k r hr => ?_⟩
    obtain ⟨y, h7, r', h8, g2, cap2, h9, h10, h11, h12⟩ := h6 k (List.getElem?_eq_some_iff.1 hr).1
    rw [hr] at h8
    injection h8 with h8
    subst h8
    subst h9
    refine ⟨g2, cap2, (hb.cell (by exact h5)).trans h7, h10, fun p a ha => ?_⟩
    obtain ⟨z, h13, a', h14, h15⟩ := h12 p (List.getElem?_eq_some_iff.1 ha).1
    rw [ha] at h14
    injection h14 with h14
    subst h14
    rw [(hb.cell (by exact h11)).trans h13, h15]

theorem tokHead_len (m : Mk) (k : Nat) : (tokHead m k).length = 12 := by simp [tokHead, wB]
theorem swp_len (m : Mk) (i j : Nat) : (swpBy m i j).length ≤ 11 := by unfold swpBy; split <;> simp [wB]
theorem ba_size (l : List UInt8) : (ba l).size = l.length := by simp [ba, ByteArray.size]

set_option linter.unusedSimpArgs false in
set_option maxHeartbeats 4000000 in
set_option maxRecDepth 100000 in
theorem text_any (m : Mk) (hm : m.Good) (w : World) (b : Nat) (hM : MkV w w.heap.size b m) :
    Calls Tryz.prog 29 #[.pointer (some ⟨b, 0, none⟩)] w fun e w' => e = .returned (.string (textM m)) ∧ Below w.heap.size w w' := by
  obtain ⟨gR, cR, gP, cP, gD, cD, gS, cS, hC⟩ := mkc_of hM
  have hN4 := hm.n4
  have hT6 := hm.t6
  have HG : Hid m.Good := hid hm
  obtain ⟨b0, hb0⟩ : ∃ b, b = w.heap.size := ⟨_, rfl⟩
  have H0 : Hid (b0 = w.heap.size) := hid hb0
  rw [← hb0] at hC
  rw [← hb0]
  have HC : Hid (∀ W, Below b0 w W → MkC W b0 b m gR cR gP cP gD cD gS cS) := hid hC
  obtain ⟨nN, hn1⟩ : ∃ n, n = m.rules.length := ⟨_, rfl⟩
  obtain ⟨nT, hn2⟩ : ∃ n, n = m.puts.length := ⟨_, rfl⟩
  rw [← hn1] at hN4
  rw [← hn2] at hT6
  have H1 : Hid (nN = m.rules.length) := hid hn1
  have H2 : Hid (nT = m.puts.length) := hid hn2
  have HBw : Hid (Below b0 w w) := hid (Below.refl _ _)
  have HW0 : Hid (b0 ≤ w.heap.size) := hid (Nat.le_of_eq hb0)
  clear hC hM hm hn1 hn2 hb0
  go_enter Tryz.func29, Tryz.ntmps29
  go_wp2
  go_loopw [3, 4] (fun s i wr => ∃ (k : Nat) (x : ByteArray), k ≤ nT ∧ i = .int .i64 k ∧ s = .string x ∧ x.size ≤ 80 * k ∧ Hid (x = ba ((List.range k).flatMap (tokBy m))) ∧ Hid (Below b0 w wr)) (fun _ i _ => nT - (intOf i).toNat)
  case atStart => exact ⟨0, _, Nat.zero_le _, rfl, rfl, Nat.zero_le _, hid rfl, HBw⟩
  case round =>
    obtain ⟨k, x, hk, rfl, rfl, hxs, hx, hbr⟩ := hrel
    obtain ⟨W, hW⟩ : ∃ W, W = wr := ⟨_, rfl⟩
    subst hW
    have hX := HC.out _ hbr.out
    have c1 := hX.c1
    have lP := hX.lP
    rw [← H2.out] at c1 lP
    by_cases hlt : k < nT
    · have c2 := hX.c2
      have lD := hX.lD
      rw [← H2.out] at c2 lD
      have d1 := hX.puts k (by rw [← H2.out]; exact hlt)
      have d2 := hX.drops k (by rw [← H2.out]; exact hlt)
      have hp9 := (HG.out.put_at (t := k) (by rw [← H2.out]; exact hlt)).2
      have hd9 := (getD_in HG.out.d1 (by rw [HG.out.dl, ← H2.out]; exact hlt)).2
      obtain ⟨pu, hpu⟩ : ∃ pu, pu = m.puts.getD k 0 := ⟨_, rfl⟩
      obtain ⟨du, hdu⟩ : ∃ du, du = m.drops.getD k 0 := ⟨_, rfl⟩
      have hd9 : m.drops.getD k 0 ≤ 9 := hd9
      rw [← hpu] at d1 hp9
      rw [← hdu] at d2 hd9
      have HPU : Hid (pu = m.puts.getD k 0) := hid hpu
      have HDU : Hid (du = m.drops.getD k 0) := hid hdu
      have hbW := hbr.out
      have z6 : ¬ 9223372036854775807 < x.size + 6 := by omega
      have z7 : ¬ 9223372036854775807 < x.size + 6 + 1 := by omega
      have z8 : ¬ 9223372036854775807 < x.size + 6 + 1 + 1 := by omega
      have z9 : ¬ 9223372036854775807 < x.size + 6 + 1 + 1 + 1 := by omega
      have z10 : ¬ 9223372036854775807 < x.size + 6 + 1 + 1 + 1 + 1 := by omega
      have z11 : ¬ 9223372036854775807 < x.size + 6 + 1 + 1 + 1 + 1 + 1 := by omega
      have z12 : ¬ 9223372036854775807 < x.size + 6 + 1 + 1 + 1 + 1 + 1 + 1 := by omega
      have l1 : (letB k).size = 1 := rfl
      have l2 : (digB pu).size = 1 := rfl
      have l3 : (digB du).size = 1 := rfl
      clear hX hpu hdu
      go_wp2
      have HS : Hid (∀ W', Below b0 w W' → W'.cell? ⟨b, 1, none⟩ = some (.slice (some ⟨gP, 0, none⟩) nT cP) ∧ W'.cell? ⟨b, 2, none⟩ = some (.slice (some ⟨gD, 0, none⟩) nT cD) ∧ W'.cell? ⟨gP, k, none⟩ = some (.int .i64 pu) ∧ W'.cell? ⟨gD, k, none⟩ = some (.int .i64 du) ∧ Below b0 w W') := hid fun W' hb => by
        have hX := HC.out W' hb
        have e1 := hX.c1
        have e2 := hX.c2
        rw [← H2.out] at e1 e2
        rw [HPU.out, HDU.out]
        exact ⟨e1, e2, hX.puts k (by rw [← H2.out]; exact hlt), hX.drops k (by rw [← H2.out]; exact hlt), hb⟩
      refine wp_region_held_drew (S := fun w' => w'.cell? ⟨b, 1, none⟩ = some (.slice (some ⟨gP, 0, none⟩) nT cP) ∧ w'.cell? ⟨b, 2, none⟩ = some (.slice (some ⟨gD, 0, none⟩) nT cD) ∧ w'.cell? ⟨gP, k, none⟩ = some (.int .i64 pu) ∧ w'.cell? ⟨gD, k, none⟩ = some (.int .i64 du) ∧ Below b0 w w') (by kernel_rfl) (HS.out _ hbW.drew) (fun hHeld => ?_)
      refine tkA 0 ?vv44 rfl ?hy44 hHeld ?_
      case hy44 => (intro w hSw; (try dsimp only at hSw); first | (go_simp; done) | (go_simp; with_reducible rfl))
      try simp only [zA, zC, Act.put, zD, zE, zF]
      refine tkA 1 ?vv1 rfl ?hy1 hHeld ?_
      case hy1 => (intro w hSw; (try dsimp only at hSw); first | (go_simp; done) | (go_simp; with_reducible rfl))
      try simp only [zA, zB, zC, Act.put, zD, zE, zF]
      refine tkA 2 ?vv2 rfl ?hy2 hHeld ?_
      case hy2 => (intro w hSw; (try dsimp only at hSw); first | (go_simp; done) | (go_simp; with_reducible rfl))
      try simp only [zA, zB, zC, Act.put, zD, zE, zF]
      refine tkA 6 ?vv3 rfl ?hy3 hHeld ?_
      case hy3 => (intro w hSw; (try dsimp only at hSw); first | (go_simp; done) | (go_simp; with_reducible rfl))
      try simp only [zA, zB, zC, Act.put, zD, zE, zF]
      refine tkA 7 ?vv4 rfl ?hy4 hHeld ?_
      case hy4 => (intro w hSw; (try dsimp only at hSw); first | (go_simp; done) | (go_simp; with_reducible rfl))
      try simp only [zA, zB, zC, Act.put, zD, zE, zF]
      refine tkA 8 ?vv5 rfl ?hy5 hHeld ?_
      case hy5 => (intro w hSw; (try dsimp only at hSw); first | (go_simp; done) | (go_simp; with_reducible rfl))
      try simp only [zA, zB, zC, Act.put, zD, zE, zF]
      refine tkA 9 ?vv6 rfl ?hy6 hHeld ?_
      case hy6 => (intro w hSw; (try dsimp only at hSw); first | (go_simp; done) | (go_simp; with_reducible rfl))
      try simp only [zA, zB, zC, Act.put, zD, zE, zF]
      refine tkA 10 ?vv7 rfl ?hy7 hHeld ?_
      case hy7 => (intro w hSw; (try dsimp only at hSw); first | (go_simp; done) | (go_simp; with_reducible rfl))
      try simp only [zA, zB, zC, Act.put, zD, zE, zF]
      refine tkA 11 ?vv8 rfl ?hy8 hHeld ?_
      case hy8 => (intro w hSw; (try dsimp only at hSw); first | (go_simp; done) | (go_simp; with_reducible rfl))
      try simp only [zA, zB, zC, Act.put, zD, zE, zF]
      refine tkA 12 ?vv9 rfl ?hy9 hHeld ?_
      case hy9 => (intro w hSw; (try dsimp only at hSw); first | (go_simp; done) | (go_simp; with_reducible rfl))
      try simp only [zA, zB, zC, Act.put, zD, zE, zF]
      refine tkA 16 ?vv10 rfl ?hy10 hHeld ?_
      case hy10 => (intro w hSw; (try dsimp only at hSw); first | (go_simp; done) | (go_simp; with_reducible rfl))
      try simp only [zA, zB, zC, Act.put, zD, zE, zF]
      refine tkA 17 ?vv11 rfl ?hy11 hHeld ?_
      case hy11 => (intro w hSw; (try dsimp only at hSw); first | (go_simp; done) | (go_simp; with_reducible rfl))
      try simp only [zA, zB, zC, Act.put, zD, zE, zF]
      refine tkA 18 ?vv12 rfl ?hy12 hHeld ?_
      case hy12 => (intro w hSw; (try dsimp only at hSw); first | (go_simp; done) | (go_simp; with_reducible rfl))
      try simp only [zA, zB, zC, Act.put, zD, zE, zF]
      refine tkA 19 ?vv13 rfl ?hy13 hHeld ?_
      case hy13 => (intro w hSw; (try dsimp only at hSw); first | (go_simp; done) | (go_simp; with_reducible rfl))
      try simp only [zA, zB, zC, Act.put, zD, zE, zF]
      refine tkA 20 ?vv14 rfl ?hy14 hHeld ?_
      case hy14 => (intro w hSw; (try dsimp only at hSw); first | (go_simp; done) | (go_simp; with_reducible rfl))
      try simp only [zA, zB, zC, Act.put, zD, zE, zF]
      refine tkA 21 ?vv15 rfl ?hy15 hHeld ?_
      case hy15 => (intro w hSw; (try dsimp only at hSw); first | (go_simp; done) | (go_simp; with_reducible rfl))
      try simp only [zA, zB, zC, Act.put, zD, zE, zF]
      refine tkA 22 ?vv16 rfl ?hy16 hHeld ?_
      case hy16 => (intro w hSw; (try dsimp only at hSw); first | (go_simp; done) | (go_simp; with_reducible rfl))
      try simp only [zA, zB, zC, Act.put, zD, zE, zF]
      refine wpAnyH_ready (rs := [3]) (by kernel_rfl) (by simp) ?_
      refine AllReadyH.cons rfl (fun K hK => ?_) AllReadyH.nil
      try simp only [zA, zB, zC]
      go_simp; refine (letter_any k (by omega) _).mono ?_; rintro e w' ⟨rfl, rfl⟩; try dsimp only
      refine hK.out _ _ ?_ (fun hHeld => ?_)
      · exact hHeld
      clear hK K
      try simp only [zA, zB, zC, Act.put, zD, zE, zF]
      refine tkA 4 ?vv17 rfl ?hy17 hHeld ?_
      case hy17 => (intro w hSw; (try dsimp only at hSw); first | (go_simp; done) | (go_simp; with_reducible rfl))
      try simp only [zA, zB, zC, Act.put, zD, zE, zF]
      refine tkA 5 ?vv18 rfl ?hy18 hHeld ?_
      case hy18 => (intro w hSw; (try dsimp only at hSw); first | (go_simp; done) | (go_simp; with_reducible rfl))
      try simp only [zA, zB, zC, Act.put, zD, zE, zF]
      refine wpAnyH_ready (rs := [13]) (by kernel_rfl) (by simp) ?_
      refine AllReadyH.cons rfl (fun K hK => ?_) AllReadyH.nil
      try simp only [zA, zB, zC]
      go_simp; refine (digits_any pu (by omega) _).mono ?_; rintro e w5 ⟨rfl, hb5⟩; try dsimp only
      refine hK.out _ _ ?_ (fun hHeld => ?_)
      · exact HS.out _ (hHeld.2.2.2.2.trans (hb5.mono (Nat.le_trans HW0.out hHeld.2.2.2.2.size)))
      clear hK K
      try simp only [zA, zB, zC, Act.put, zD, zE, zF]
      refine tkA 14 ?vv19 rfl ?hy19 hHeld ?_
      case hy19 => (intro w hSw; (try dsimp only at hSw); first | (go_simp; done) | (go_simp; with_reducible rfl))
      try simp only [zA, zB, zC, Act.put, zD, zE, zF]
      refine tkA 15 ?vv20 rfl ?hy20 hHeld ?_
      case hy20 => (intro w hSw; (try dsimp only at hSw); first | (go_simp; done) | (go_simp; with_reducible rfl))
      try simp only [zA, zB, zC, Act.put, zD, zE, zF]
      refine wpAnyH_ready (rs := [23]) (by kernel_rfl) (by simp) ?_
      refine AllReadyH.cons rfl (fun K hK => ?_) AllReadyH.nil
      try simp only [zA, zB, zC]
      go_simp; refine (digits_any du (by omega) _).mono ?_; rintro e w6 ⟨rfl, hb6⟩; try dsimp only
      refine hK.out _ _ ?_ (fun hHeld => ?_)
      · exact HS.out _ (hHeld.2.2.2.2.trans (hb6.mono (Nat.le_trans HW0.out hHeld.2.2.2.2.size)))
      clear hK K
      try simp only [zA, zB, zC, Act.put, zD, zE, zF]
      refine tkA 24 ?vv21 rfl ?hy21 hHeld ?_
      case hy21 => (intro w hSw; (try dsimp only at hSw); first | (go_simp; done) | (go_simp; with_reducible rfl))
      try simp only [zA, zB, zC, Act.put, zD, zE, zF]
      refine tkA 25 ?vv22 rfl ?hy22 hHeld ?_
      case hy22 => (intro w hSw; (try dsimp only at hSw); first | (go_simp; done) | (go_simp; with_reducible rfl))
      try simp only [zA, zB, zC, Act.put, zD, zE, zF]
      refine tkA 26 ?vv23 rfl ?hy23 hHeld ?_
      case hy23 => (intro w hSw; (try dsimp only at hSw); first | (go_simp; done) | (go_simp; with_reducible rfl))
      try simp only [zA, zB, zC, Act.put, zD, zE, zF]
      refine wpAnyH_done (by kernel_rfl) ?_ _
      have HBE : Hid _ := hid hHeld.2.2.2.2
      clear hHeld c1 c2 d1 d2 hbW z6 z7 z8 z9 z10 z11 z12 l1 l2 l3
      go_wp2
      go_loopw [3, 5] (fun s i wr => ∃ (j : Nat) (y : ByteArray), j ≤ nT ∧ i = .int .i64 j ∧ s = .string y ∧ y.size ≤ 80 * k + 12 + 11 * j ∧ Hid (y = ba ((List.range k).flatMap (tokBy m) ++ (tokHead m k ++ (List.range j).flatMap (swpBy m k)))) ∧ Hid (Below b0 w wr)) (fun _ i _ => nT - (intOf i).toNat)
      case atStart =>
        have e : x ++ { data := #[116, 111, 107, 101, 110, 32] } ++ letB k ++ { data := #[32] } ++ digB pu ++ { data := #[32] } ++ digB du ++ { data := #[10] } = ba ((List.range k).flatMap (tokBy m) ++ (tokHead m k ++ (List.range 0).flatMap (swpBy m k))) := by
          rw [hx.out, HPU.out, HDU.out]
          simp only [ba_add]
          congr 1
          simp [tokHead, letB, digB, wB]
        refine ⟨0, _, Nat.zero_le _, rfl, rfl, ?_, hid e, HBE⟩
        have hxl : x.size = ((List.range k).flatMap (tokBy m)).length := by rw [hx.out, ba_size]
        rw [e, ba_size, List.length_append, List.length_append, tokHead_len, ← hxl]
        simp only [List.range_zero, List.flatMap_nil, List.length_nil]
        omega
      case round =>
        clear hxs hbr HBE
        obtain ⟨j, y, hj, rfl, rfl, hys, hy, hbr⟩ := hrel
        obtain ⟨W, hW⟩ : ∃ W, W = wr := ⟨_, rfl⟩
        subst hW
        have hX := HC.out _ hbr.out
        have c1 := hX.c1
        have lP := hX.lP
        rw [← H2.out] at c1 lP
        by_cases hlj : j < nT
        · have c3 := hX.c3
          have lS := hX.lS
          have hlb := hX.ltb
          have hlS := hX.ltS
          obtain ⟨gs, cs, d1, d2, hgs, d3⟩ := hX.swaps k (by rw [← H2.out]; exact hlt)
          have d3 := d3 j (by rw [← H2.out]; exact hlj)
          rw [← H2.out] at c3 lS d1 d2
          have hc9 := swpOf_le HG.out k j
          obtain ⟨c, hc⟩ : ∃ c, c = swpOf m k j := ⟨_, rfl⟩
          rw [← hc] at d3 hc9
          have HCc : Hid (c = swpOf m k j) := hid hc
          clear hX hc
          by_cases h0 : 0 < c
          · have hbW := hbr.out
            have z6 : ¬ 9223372036854775807 < y.size + 5 := by omega
            have z7 : ¬ 9223372036854775807 < y.size + 5 + 1 := by omega
            have z8 : ¬ 9223372036854775807 < y.size + 5 + 1 + 1 := by omega
            have z9 : ¬ 9223372036854775807 < y.size + 5 + 1 + 1 + 1 := by omega
            have z10 : ¬ 9223372036854775807 < y.size + 5 + 1 + 1 + 1 + 1 := by omega
            have z11 : ¬ 9223372036854775807 < y.size + 5 + 1 + 1 + 1 + 1 + 1 := by omega
            have z12 : ¬ 9223372036854775807 < y.size + 5 + 1 + 1 + 1 + 1 + 1 + 1 := by omega
            have l1 : (letB k).size = 1 := rfl
            have l2 : (letB j).size = 1 := rfl
            have l3 : (digB c).size = 1 := rfl
            have hci : (0 : Int) < c := by omega
            go_wp2
            refine wp_region_held_drew (S := fun w' => w'.cell? ⟨b, 3, none⟩ = some (.slice (some ⟨gS, 0, none⟩) nT cS) ∧ w'.cell? ⟨gS, k, none⟩ = some (.slice (some ⟨gs, 0, none⟩) nT cs) ∧ w'.cell? ⟨gs, j, none⟩ = some (.int .i64 c) ∧ Below b0 w w') (by kernel_rfl) ⟨c3, d1, d3, hbW.drew⟩ (fun hHeld => ?_)
            refine tkA 0 ?vv45 rfl ?hy45 hHeld ?_
            case hy45 => (intro w hSw; (try dsimp only at hSw); first | (go_simp; done) | (go_simp; with_reducible rfl))
            try simp only [zA, zC, Act.put, zD, zE, zF]
            refine tkA 1 ?vv24 rfl ?hy24 hHeld ?_
            case hy24 => (intro w hSw; (try dsimp only at hSw); first | (go_simp; done) | (go_simp; with_reducible rfl))
            try simp only [zA, zB, zC, Act.put, zD, zE, zF]
            refine tkA 2 ?vv25 rfl ?hy25 hHeld ?_
            case hy25 => (intro w hSw; (try dsimp only at hSw); first | (go_simp; done) | (go_simp; with_reducible rfl))
            try simp only [zA, zB, zC, Act.put, zD, zE, zF]
            refine tkA 6 ?vv26 rfl ?hy26 hHeld ?_
            case hy26 => (intro w hSw; (try dsimp only at hSw); first | (go_simp; done) | (go_simp; with_reducible rfl))
            try simp only [zA, zB, zC, Act.put, zD, zE, zF]
            refine tkA 10 ?vv27 rfl ?hy27 hHeld ?_
            case hy27 => (intro w hSw; (try dsimp only at hSw); first | (go_simp; done) | (go_simp; with_reducible rfl))
            try simp only [zA, zB, zC, Act.put, zD, zE, zF]
            refine tkA 11 ?vv28 rfl ?hy28 hHeld ?_
            case hy28 => (intro w hSw; (try dsimp only at hSw); first | (go_simp; done) | (go_simp; with_reducible rfl))
            try simp only [zA, zB, zC, Act.put, zD, zE, zF]
            refine tkA 12 ?vv29 rfl ?hy29 hHeld ?_
            case hy29 => (intro w hSw; (try dsimp only at hSw); first | (go_simp; done) | (go_simp; with_reducible rfl))
            try simp only [zA, zB, zC, Act.put, zD, zE, zF]
            refine tkA 13 ?vv30 rfl ?hy30 hHeld ?_
            case hy30 => (intro w hSw; (try dsimp only at hSw); first | (go_simp; done) | (go_simp; with_reducible rfl))
            try simp only [zA, zB, zC, Act.put, zD, zE, zF]
            refine tkA 14 ?vv31 rfl ?hy31 hHeld ?_
            case hy31 => (intro w hSw; (try dsimp only at hSw); first | (go_simp; done) | (go_simp; with_reducible rfl))
            try simp only [zA, zB, zC, Act.put, zD, zE, zF]
            refine tkA 15 ?vv32 rfl ?hy32 hHeld ?_
            case hy32 => (intro w hSw; (try dsimp only at hSw); first | (go_simp; done) | (go_simp; with_reducible rfl))
            try simp only [zA, zB, zC, Act.put, zD, zE, zF]
            refine tkA 16 ?vv33 rfl ?hy33 hHeld ?_
            case hy33 => (intro w hSw; (try dsimp only at hSw); first | (go_simp; done) | (go_simp; with_reducible rfl))
            try simp only [zA, zB, zC, Act.put, zD, zE, zF]
            refine tkA 17 ?vv34 rfl ?hy34 hHeld ?_
            case hy34 => (intro w hSw; (try dsimp only at hSw); first | (go_simp; done) | (go_simp; with_reducible rfl))
            try simp only [zA, zB, zC, Act.put, zD, zE, zF]
            refine tkA 18 ?vv35 rfl ?hy35 hHeld ?_
            case hy35 => (intro w hSw; (try dsimp only at hSw); first | (go_simp; done) | (go_simp; with_reducible rfl))
            try simp only [zA, zB, zC, Act.put, zD, zE, zF]
            refine tkA 19 ?vv36 rfl ?hy36 hHeld ?_
            case hy36 => (intro w hSw; (try dsimp only at hSw); first | (go_simp; done) | (go_simp; with_reducible rfl))
            try simp only [zA, zB, zC, Act.put, zD, zE, zF]
            refine wpAnyH_ready (rs := [3]) (by kernel_rfl) (by simp) ?_
            refine AllReadyH.cons rfl (fun K hK => ?_) AllReadyH.nil
            try simp only [zA, zB, zC]
            go_simp; refine (letter_any k (by omega) _).mono ?_; rintro e w' ⟨rfl, rfl⟩; try dsimp only
            refine hK.out _ _ ?_ (fun hHeld => ?_)
            · exact hHeld
            clear hK K
            try simp only [zA, zB, zC, Act.put, zD, zE, zF]
            refine tkA 4 ?vv37 rfl ?hy37 hHeld ?_
            case hy37 => (intro w hSw; (try dsimp only at hSw); first | (go_simp; done) | (go_simp; with_reducible rfl))
            try simp only [zA, zB, zC, Act.put, zD, zE, zF]
            refine tkA 5 ?vv38 rfl ?hy38 hHeld ?_
            case hy38 => (intro w hSw; (try dsimp only at hSw); first | (go_simp; done) | (go_simp; with_reducible rfl))
            try simp only [zA, zB, zC, Act.put, zD, zE, zF]
            refine wpAnyH_ready (rs := [7]) (by kernel_rfl) (by simp) ?_
            refine AllReadyH.cons rfl (fun K hK => ?_) AllReadyH.nil
            try simp only [zA, zB, zC]
            go_simp; refine (letter_any j (by omega) _).mono ?_; rintro e w' ⟨rfl, rfl⟩; try dsimp only
            refine hK.out _ _ ?_ (fun hHeld => ?_)
            · exact hHeld
            clear hK K
            try simp only [zA, zB, zC, Act.put, zD, zE, zF]
            refine tkA 8 ?vv39 rfl ?hy39 hHeld ?_
            case hy39 => (intro w hSw; (try dsimp only at hSw); first | (go_simp; done) | (go_simp; with_reducible rfl))
            try simp only [zA, zB, zC, Act.put, zD, zE, zF]
            refine tkA 9 ?vv40 rfl ?hy40 hHeld ?_
            case hy40 => (intro w hSw; (try dsimp only at hSw); first | (go_simp; done) | (go_simp; with_reducible rfl))
            try simp only [zA, zB, zC, Act.put, zD, zE, zF]
            refine wpAnyH_ready (rs := [20]) (by kernel_rfl) (by simp) ?_
            refine AllReadyH.cons rfl (fun K hK => ?_) AllReadyH.nil
            try simp only [zA, zB, zC]
            go_simp; refine (digits_any c (by omega) _).mono ?_; rintro e w5 ⟨rfl, hb5⟩; try dsimp only
            refine hK.out _ _ ?_ (fun hHeld => ?_)
            · exact ⟨(hb5.cell (by exact Nat.lt_of_lt_of_le hlb (Nat.le_trans HW0.out hHeld.2.2.2.size))).trans hHeld.1, (hb5.cell (by exact Nat.lt_of_lt_of_le hlS (Nat.le_trans HW0.out hHeld.2.2.2.size))).trans hHeld.2.1, (hb5.cell (by exact Nat.lt_of_lt_of_le hgs (Nat.le_trans HW0.out hHeld.2.2.2.size))).trans hHeld.2.2.1, hHeld.2.2.2.trans (hb5.mono (Nat.le_trans HW0.out hHeld.2.2.2.size))⟩
            clear hK K
            try simp only [zA, zB, zC, Act.put, zD, zE, zF]
            refine tkA 21 ?vv41 rfl ?hy41 hHeld ?_
            case hy41 => (intro w hSw; (try dsimp only at hSw); first | (go_simp; done) | (go_simp; with_reducible rfl))
            try simp only [zA, zB, zC, Act.put, zD, zE, zF]
            refine tkA 22 ?vv42 rfl ?hy42 hHeld ?_
            case hy42 => (intro w hSw; (try dsimp only at hSw); first | (go_simp; done) | (go_simp; with_reducible rfl))
            try simp only [zA, zB, zC, Act.put, zD, zE, zF]
            refine tkA 23 ?vv43 rfl ?hy43 hHeld ?_
            case hy43 => (intro w hSw; (try dsimp only at hSw); first | (go_simp; done) | (go_simp; with_reducible rfl))
            try simp only [zA, zB, zC, Act.put, zD, zE, zF]
            refine wpAnyH_done (by kernel_rfl) ?_ _
            have HBE : Hid _ := hid hHeld.2.2.2
            clear hHeld c1 c3 d1 d2 d3 hbW z6 z7 z8 z9 z10 z11 z12 l1 l2 l3
            go_wp2
            go_roundw
            case rel =>
              have e : y ++ { data := #[115, 119, 97, 112, 32] } ++ letB k ++ { data := #[32] } ++ letB j ++ { data := #[32] } ++ digB c ++ { data := #[10] } = ba ((List.range k).flatMap (tokBy m) ++ (tokHead m k ++ (List.range (j + 1)).flatMap (swpBy m k))) := by
                rw [hy.out, range_more]
                simp only [ba_add]
                congr 1
                have e2 : swpBy m k j = [115, 119, 97, 112, 32] ++ wB (.tok k) ++ [32] ++ wB (.tok j) ++ [32] ++ [UInt8.ofNat (48 + c)] ++ [10] := by
                  unfold swpBy
                  rw [← HCc.out, if_pos h0]
                rw [e2]
                simp [letB, digB, wB]
              refine ⟨j + 1, _, by omega, by go_num, rfl, ?_, hid e, HBE⟩
              have hyl : y.size = ((List.range k).flatMap (tokBy m) ++ (tokHead m k ++ (List.range j).flatMap (swpBy m k))).length := by rw [hy.out, ba_size]
              have h11 := swp_len m k j
              rw [e, ba_size, range_more]
              simp only [List.length_append] at hyl ⊢
              omega
            case measure => simp [intOf]; omega
          · have hci : ¬ (0 : Int) < c := by omega
            go_wp2
            go_roundw
            case rel =>
              refine ⟨j + 1, y, by omega, by go_num, rfl, by omega, hid ?_, hbr⟩
              rw [hy.out, range_more]
              have e2 : swpBy m k j = [] := by
                unfold swpBy
                rw [← HCc.out, if_neg h0]
              rw [e2, List.append_nil]
            case measure => simp [intOf]; omega
        · clear hX
          go_wp2
          go_roundw
          case rel =>
            refine ⟨k + 1, y, by omega, by go_num, rfl, by omega, hid ?_, hbr⟩
            rw [hy.out, range_more]
            have e : j = m.puts.length := by rw [← H2.out]; omega
            rw [e]
            rfl
          case measure => simp [intOf]; omega
    · have e0 : k = m.puts.length := by rw [← H2.out]; omega
      have HX0 : Hid (x = ba ((List.range m.puts.length).flatMap (tokBy m) ++ (m.rules.zipIdx.take 0).flatMap rulBy)) := hid (by rw [hx.out, e0]; simp)
      obtain ⟨L0, hL0⟩ : ∃ L, L = (List.range m.puts.length).flatMap (tokBy m) := ⟨_, rfl⟩
      rw [← hL0] at HX0
      have HL0 : Hid (L0 = (List.range m.puts.length).flatMap (tokBy m)) := hid hL0
      clear hX e0 hL0
      go_wp2
      clear hx c1 lP
      go_loopw [3, 6] (fun s i wr => ∃ (n : Nat) (y : ByteArray), n ≤ nN ∧ i = .int .i64 n ∧ s = .string y ∧ y.size ≤ 500 + 200 * n ∧ Hid (y = ba (L0 ++ (m.rules.zipIdx.take n).flatMap rulBy)) ∧ Hid (Below b0 w wr)) (fun _ i _ => nN - (intOf i).toNat)
      case atStart => exact ⟨0, x, Nat.zero_le _, rfl, rfl, by omega, HX0, hbr⟩
      case round =>
        clear hxs hbr HX0
        obtain ⟨n, y, hn, rfl, rfl, hys, hy, hbr⟩ := hrel
        obtain ⟨W, hW⟩ : ∃ W, W = wr := ⟨_, rfl⟩
        subst hW
        have hX := HC.out _ hbr.out
        have c0 := hX.c0
        have lR := hX.lR
        rw [← H1.out] at c0 lR
        by_cases hlt : n < nN
        · obtain ⟨rs, hrs⟩ : ∃ rs, m.rules[n]? = some rs := ⟨_, List.getElem?_eq_getElem (by rw [← H1.out]; exact hlt)⟩
          have hcr := (HG.out.c1 rs (mk_mem hrs).2).2
          rw [← H2.out] at hcr
          have HRS : Hid (m.rules[n]? = some rs) := hid hrs
          obtain ⟨nR, hnR⟩ : ∃ n, n = rs.length := ⟨_, rfl⟩
          have HNR : Hid (nR = rs.length) := hid hnR
          rw [← hnR] at hcr
          have z5 : ¬ 9223372036854775807 < y.size + 5 := by omega
          have z6 : ¬ 9223372036854775807 < y.size + 5 + 1 := by omega
          have z7 : ¬ 9223372036854775807 < y.size + 5 + 1 + 2 := by omega
          have l1 : (namB n).size = 1 := rfl
          have CN : Hid (∀ W, Calls Tryz.prog 33 #[.int .i64 n] W fun e w' => e = .returned (.string (namB n)) ∧ W = w') := hid fun W => kname_any n (by omega) W
          clear hX hrs hnR
          go_wp2_with (go_at_call 33; refine (CN.out _).mono ?_; rintro e w' ⟨rfl, rfl⟩)
          clear z5 z6 z7 c0 lR
          go_loopw [3, 7] (fun s i wr => ∃ (q : Nat) (v : ByteArray), q ≤ nR ∧ i = .int .i64 q ∧ s = .string v ∧ v.size ≤ 508 + 200 * n + 12 * q ∧ Hid (v = ba (L0 ++ (m.rules.zipIdx.take n).flatMap rulBy ++ (rulHead n ++ (rs.zipIdx.take q).flatMap (fun y => barBy y.2 ++ partsBy y.1)))) ∧ Hid (Below b0 w wr)) (fun _ i _ => nR - (intOf i).toNat)
          case atStart =>
            have e : y ++ { data := #[114, 117, 108, 101, 32] } ++ namB n ++ { data := #[32, 61] } = ba (L0 ++ (m.rules.zipIdx.take n).flatMap rulBy ++ (rulHead n ++ (rs.zipIdx.take 0).flatMap (fun y => barBy y.2 ++ partsBy y.1))) := by
              rw [hy.out]
              simp only [ba_add]
              congr 1
              simp [rulHead, namB, wB]
            refine ⟨0, _, Nat.zero_le _, rfl, rfl, ?_, hid e, hbr⟩
            simp only [ByteArray.size_append, l1]
            have e5 : (ByteArray.mk #[114, 117, 108, 101, 32]).size = 5 := rfl
            have e2 : (ByteArray.mk #[32, 61]).size = 2 := rfl
            rw [e5, e2]
            omega
          case round =>
            clear hys hy hbr l1
            obtain ⟨q, v, hq, rfl, rfl, hvs, hv, hbr⟩ := hrel
            obtain ⟨W, hW⟩ : ∃ W, W = wr := ⟨_, rfl⟩
            subst hW
            have hX := HC.out _ hbr.out
            have c0 := hX.c0
            have lR := hX.lR
            rw [← H1.out] at c0 lR
            obtain ⟨gn, cn, d0, hcn, hrk⟩ := hX.rules n rs HRS.out
            rw [← HNR.out] at d0 hcn
            by_cases hlq : q < nR
            · obtain ⟨r, hr⟩ : ∃ r, rs[q]? = some r := ⟨_, List.getElem?_eq_getElem (by rw [← HNR.out]; exact hlq)⟩
              have HR : Hid (rs[q]? = some r) := hid hr
              obtain ⟨np, hnp⟩ : ∃ n, n = r.length := ⟨_, rfl⟩
              have HNP : Hid (np = r.length) := hid hnp
              have hnp5 : np ≤ 5 := by rw [hnp]; exact (HG.out.head rs (mk_mem HRS.out).2 q r hr).2
              obtain ⟨u, hu⟩ : ∃ u, u = (if 0 < q then v ++ { data := #[32, 124] } else v) := ⟨_, rfl⟩
              have hus : u.size ≤ 508 + 200 * n + 12 * q + 2 := by
                rw [hu]
                split
                · rw [ByteArray.size_append]
                  have e2 : (ByteArray.mk #[32, 124]).size = 2 := rfl
                  rw [e2]; omega
                · omega
              have HU : Hid (u = ba (L0 ++ (m.rules.zipIdx.take n).flatMap rulBy ++ (rulHead n ++ (rs.zipIdx.take q).flatMap (fun y => barBy y.2 ++ partsBy y.1)) ++ barBy q)) := hid (by
                rw [hu, hv.out]
                unfold barBy
                split
                · rw [ba_add]
                · simp)
              have hu1 : 0 < q → v ++ { data := #[32, 124] } = u := fun h => by rw [hu, if_pos h]
              have hu2 : ¬ 0 < q → v = u := fun h => by rw [hu, if_neg h]
              have z2 : ¬ 9223372036854775807 < v.size + 2 := by omega
              clear hX hr hnp hrk hu
              rcases Classical.em (0 < q) with hq0 | hq0
              all_goals
                go_wp2
                have HQ : Hid _ := hid hq0
                clear c0 d0 lR hcn z2 hq0
                go_loopw [3, 8] (fun s i wr => ∃ (p : Nat) (t : ByteArray), p ≤ np ∧ i = .int .i64 p ∧ s = .string t ∧ t.size ≤ 510 + 200 * n + 12 * q + 2 * p ∧ Hid (t = ba (L0 ++ (m.rules.zipIdx.take n).flatMap rulBy ++ (rulHead n ++ (rs.zipIdx.take q).flatMap (fun y => barBy y.2 ++ partsBy y.1)) ++ barBy q ++ partsBy (r.take p))) ∧ Hid (Below b0 w wr)) (fun _ i _ => np - (intOf i).toNat)
                case atStart =>
                  refine ⟨0, u, Nat.zero_le _, rfl, ?_, by omega, hid (by rw [HU.out]; simp [partsBy]), hbr⟩
                  first
                    | rfl
                    | (rw [hu2 HQ.out])
                    | (rw [hu1 HQ.out])
                case round =>
                  clear hus hu1 hu2 hbr hvs hv
                  obtain ⟨p, t, hp, rfl, rfl, hts, ht, hbr⟩ := hrel
                  obtain ⟨W, hW⟩ : ∃ W, W = wr := ⟨_, rfl⟩
                  subst hW
                  have hX := HC.out _ hbr.out
                  have c0 := hX.c0
                  have lR := hX.lR
                  rw [← H1.out] at c0 lR
                  obtain ⟨gn, cn, d0, hcn, hrk⟩ := hX.rules n rs HRS.out
                  obtain ⟨gr, cr, d1, hcr2, hwd⟩ := hrk q r HR.out
                  rw [← HNR.out] at d0 hcn
                  rw [← HNP.out] at d1 hcr2
                  by_cases hlp : p < np
                  · obtain ⟨a, ha⟩ : ∃ a, r[p]? = some a := ⟨_, List.getElem?_eq_getElem (by rw [← HNP.out]; exact hlp)⟩
                    have d2 := hwd p a ha
                    have HA : Hid (r[p]? = some a) := hid ha
                    have l1 : (wordP a).size = 1 := by cases a <;> rfl
                    have z1 : ¬ 9223372036854775807 < t.size + 1 := by omega
                    have z2 : ¬ 9223372036854775807 < t.size + 1 + 1 := by omega
                    clear hX hrk hwd ha
                    go_wp2
                    go_roundw
                    case rel =>
                      refine ⟨p + 1, t ++ { data := #[32] } ++ wordP a, by omega, by go_num, rfl, ?_, hid ?_, hbr⟩
                      · simp only [ByteArray.size_append, l1]
                        have e1 : (ByteArray.mk #[32]).size = 1 := rfl
                        rw [e1]
                        omega
                      · rw [ht.out]
                        simp only [ba_add]
                        congr 1
                        have e2 : partsBy (r.take (p + 1)) = partsBy (r.take p) ++ (32 :: wB a) := by
                          unfold partsBy
                          rw [take_more _ HA.out]
                        have e3 : (wordP a).data.toList = wB a := by cases a <;> rfl
                        rw [e2, e3]
                        simp
                    case measure => simp [intOf]; omega
                  · clear hX hrk hwd
                    go_wp2
                    go_roundw
                    case rel =>
                      refine ⟨q + 1, t, by omega, by go_num, rfl, by omega, hid ?_, hbr⟩
                      rw [ht.out]
                      congr 1
                      have e2 : rs.zipIdx[q]? = some (r, q) := by rw [List.getElem?_zipIdx, HR.out]; simp
                      have e3 : r.take p = r := List.take_of_length_le (by rw [← HNP.out]; omega)
                      rw [take_more _ e2, e3]
                      simp
                    case measure => simp [intOf]; omega
            · have z1 : ¬ 9223372036854775807 < v.size + 1 := by omega
              clear hX hrk
              go_wp2
              go_roundw
              case rel =>
                refine ⟨n + 1, v ++ { data := #[10] }, by omega, by go_num, rfl, ?_, hid ?_, hbr⟩
                · rw [ByteArray.size_append]
                  have e1 : (ByteArray.mk #[10]).size = 1 := rfl
                  rw [e1]
                  omega
                · rw [hv.out, ba_add]
                  congr 1
                  have e2 : m.rules.zipIdx[n]? = some (rs, n) := by rw [List.getElem?_zipIdx, HRS.out]; simp
                  have e3 : rs.zipIdx.take q = rs.zipIdx := List.take_of_length_le (by rw [List.length_zipIdx, ← HNR.out]; omega)
                  rw [take_more _ e2, e3]
                  simp [rulBy]
              case measure => simp [intOf]; omega
        · have HE : Hid (y = textM m) := hid (by
            rw [hy.out, text_by, HL0.out, List.take_of_length_le (by rw [List.length_zipIdx, ← H1.out]; omega)])
          clear hX hy hys
          go_wp2
          go_ret
          exact ⟨by rw [HE.out]; rfl, hbr.out⟩

end Go.Proofs.YtjjggdcnpndgjaaGreatDoor
