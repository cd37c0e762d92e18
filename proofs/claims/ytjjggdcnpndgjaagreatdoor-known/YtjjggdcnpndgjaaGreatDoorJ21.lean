/- (*made).short, walked. Pure: what build has made when it stops, and what short leaves of it, is a made grammar. What build lays, as far as it has come: the costs, the swaps (heap). What build lays of the rules (heap): the names done, the name in work, the rule in work. -/
import Derived.Test.YtjjggdcnpndgjaaGreatDoorJK8
import Derived.Test.YtjjggdcnpndgjaaGreatDoorJ1
import Derived.Test.YtjjggdcnpndgjaaGreatDoorJ16
namespace Go.Proofs.YtjjggdcnpndgjaaGreatDoor
open Go.RowKit

theorem ShC.drew {W : World} {b : Nat} {L : List (List (List Pt))} {role : Nat → Option (Nat × Nat)} {gR cR : Nat} {gn cn : Nat → Nat} {gr cr : Nat → Nat → Nat} {c : Nat → Nat → Nat → Pt} (h : ShC W b L role gR cR gn cn gr cr c) : ShC W.drew b L role gR cR gn cn gr cr c :=
  ⟨h.rb, h.rR, h.rn, h.rr, h.c0, h.lR, h.names, h.rules, h.parts⟩

/-- How small the rules are. -/
structure Small (L : List (List (List Pt))) : Prop where
  l4 : L.length ≤ 4
  r6 : ∀ rs ∈ L, rs.length ≤ 6
  p5 : ∀ rs ∈ L, ∀ r ∈ rs, r.length ≤ 5
  ok : ∀ rs ∈ L, ∀ r ∈ rs, ∀ p ∈ r, partOk 6 4 p

theorem mem_of_at {α : Type} {l : List α} {i : Nat} {a : α} (h : l[i]? = some a) : a ∈ l := by
  obtain ⟨h1, h2⟩ := List.getElem?_eq_some_iff.1 h
  exact h2 ▸ List.getElem_mem h1

/-- Blocks without a role stand as they stood. -/
def Rest (role : Nat → Option (Nat × Nat)) (w w' : World) : Prop := ∀ g o, role g = none → w'.cell? ⟨g, o, none⟩ = w.cell? ⟨g, o, none⟩

theorem Rest.put {role : Nat → Option (Nat × Nat)} {w w' : World} (h : Rest role w w') {g0 p : Nat} {x : Nat × Nat} (hg : role g0 = some x) (u : Value) : Rest role w (w'.setCell ⟨g0, p, none⟩ u) := fun g o hr =>
  (World.cell?_setCell_other _ _ _ _ (fun e => by
    injection e with e _ _
    rw [e, hr] at hg
    cases hg)).trans (h g o hr)

set_option linter.unusedSimpArgs false in
set_option maxHeartbeats 4000000 in
set_option maxRecDepth 100000 in
theorem short_any (L : List (List (List Pt))) (hs : Small L) (n : Nat) (w : World) (B b : Nat) (role : Nat → Option (Nat × Nat)) (gR cR : Nat) (gn cn : Nat → Nat) (gr cr : Nat → Nat → Nat) (c : Nat → Nat → Nat → Pt)
    (hS : ShC w b L role gR cR gn cn gr cr c) (hc : CutAt n L 0 0 0 c) (hB : ∀ (n : Nat) rs (k : Nat) r, L[n]? = some rs → rs[k]? = some r → B ≤ gr n k) :
    Calls Tryz.prog 67 #[.pointer (some ⟨b, 0, none⟩), .int .i64 n] w fun e w' => e = .returned (.pointer (some ⟨b, 0, none⟩)) ∧ (∃ c, CutAt n L L.length 0 0 c ∧ ShC w' b L role gR cR gn cn gr cr c) ∧ Rest role w w' ∧ Below B w w' := by
  have HSm : Hid _ := hid hs
  have HS0 : Hid _ := hid hS
  have HC0 : Hid _ := hid hc
  have HBg : Hid _ := hid hB
  have hN4 := hs.l4
  obtain ⟨nN, hn1⟩ : ∃ n, n = L.length := ⟨_, rfl⟩
  have H1 : Hid (nN = L.length) := hid hn1
  rw [← hn1] at hN4
  have HR0 : Hid (Rest role w w ∧ Below B w w) := hid ⟨fun _ _ _ => rfl, Below.refl _ _⟩
  clear hs hS hc hB hn1
  go_enter Tryz.func67, Tryz.ntmps67
  go_wp2
  go_loopw [5] (fun i wr => ∃ (j : Nat) (c : Nat → Nat → Nat → Pt), j ≤ nN ∧ i = .int .i64 j ∧ Hid (CutAt n L j 0 0 c) ∧ Hid (ShC wr b L role gR cR gn cn gr cr c) ∧ Hid (Rest role w wr ∧ Below B w wr)) (fun i _ => nN - (intOf i).toNat)
  case atStart => exact ⟨0, c, Nat.zero_le _, rfl, HC0, HS0, HR0⟩
  case round =>
    clear HC0 HS0 HR0
    obtain ⟨i, c1, hi, rfl, hcut, hsh, hre⟩ := hrel
    obtain ⟨W, hW⟩ : ∃ W, W = wr := ⟨_, rfl⟩
    subst hW
    have c0 := hsh.out.c0
    have lR := hsh.out.lR
    rw [← H1.out] at c0 lR
    by_cases hlt : i < nN
    · obtain ⟨rs, hrs⟩ : ∃ rs, L[i]? = some rs := ⟨_, List.getElem?_eq_getElem (by rw [← H1.out]; exact hlt)⟩
      have hr6 := HSm.out.r6 rs (mem_of_at hrs)
      have HRS : Hid (L[i]? = some rs) := hid hrs
      obtain ⟨nR, hnR⟩ : ∃ n, n = rs.length := ⟨_, rfl⟩
      have HNR : Hid (nR = rs.length) := hid hnR
      rw [← hnR] at hr6
      clear hrs hnR
      go_wp2
      clear c0 lR
      go_loopw [6] (fun i' wr => ∃ (j : Nat) (c : Nat → Nat → Nat → Pt), j ≤ nR ∧ i' = .int .i64 j ∧ Hid (CutAt n L i j 0 c) ∧ Hid (ShC wr b L role gR cR gn cn gr cr c) ∧ Hid (Rest role w wr ∧ Below B w wr)) (fun i _ => nR - (intOf i).toNat)
      case atStart => exact ⟨0, c1, Nat.zero_le _, rfl, hcut, hsh, hre⟩
      case round =>
        clear hcut hsh hre
        obtain ⟨k, c2, hk, rfl, hcut, hsh, hre⟩ := hrel
        obtain ⟨W, hW⟩ : ∃ W, W = wr := ⟨_, rfl⟩
        subst hW
        have c0 := hsh.out.c0
        have lR := hsh.out.lR
        rw [← H1.out] at c0 lR
        obtain ⟨d0, lN⟩ := hsh.out.names i rs HRS.out
        rw [← HNR.out] at d0 lN
        by_cases hlk : k < nR
        · obtain ⟨r, hr⟩ : ∃ r, rs[k]? = some r := ⟨_, List.getElem?_eq_getElem (by rw [← HNR.out]; exact hlk)⟩
          have HR : Hid (rs[k]? = some r) := hid hr
          have hp5 := HSm.out.p5 rs (mem_of_at HRS.out) r (mem_of_at hr)
          obtain ⟨np, hnp⟩ : ∃ n, n = r.length := ⟨_, rfl⟩
          have HNP : Hid (np = r.length) := hid hnp
          rw [← hnp] at hp5
          clear hr hnp
          go_wp2
          clear c0 lR d0 lN
          go_loopw [7] (fun i' wr => ∃ (j : Nat) (c : Nat → Nat → Nat → Pt), j ≤ np ∧ i' = .int .i64 j ∧ Hid (CutAt n L i k j c) ∧ Hid (ShC wr b L role gR cR gn cn gr cr c) ∧ Hid (Rest role w wr ∧ Below B w wr)) (fun i _ => np - (intOf i).toNat)
          case atStart => exact ⟨0, c2, Nat.zero_le _, rfl, hcut, hsh, hre⟩
          case round =>
            clear hcut hsh hre
            obtain ⟨p, c3, hp, rfl, hcut, hsh, hre⟩ := hrel
            obtain ⟨W, hW⟩ : ∃ W, W = wr := ⟨_, rfl⟩
            subst hW
            have c0 := hsh.out.c0
            have lR := hsh.out.lR
            rw [← H1.out] at c0 lR
            obtain ⟨d0, lN⟩ := hsh.out.names i rs HRS.out
            rw [← HNR.out] at d0 lN
            obtain ⟨d1, lU⟩ := hsh.out.rules i rs k r HRS.out HR.out
            rw [← HNP.out] at d1 lU
            by_cases hlp : p < np
            · obtain ⟨a, ha⟩ : ∃ a, r[p]? = some a := ⟨_, List.getElem?_eq_getElem (by rw [← HNP.out]; exact hlp)⟩
              have HA : Hid (r[p]? = some a) := hid ha
              obtain ⟨d2, hfz⟩ := hsh.out.parts i rs k r p a HRS.out HR.out ha
              have hpo := HSm.out.ok rs (mem_of_at HRS.out) r (mem_of_at HR.out) a (mem_of_at ha)
              rw [(hcut.out.holds i rs k r p a HRS.out HR.out ha).2 (by unfold donB; omega)] at d2
              have HST : Hid (a = cutP n a → CutAt n L i k (p + 1) c3) := hid fun e => hcut.out.step HRS.out HR.out HA.out (fun _ _ _ _ => rfl) (by rw [(hcut.out.holds i rs k r p a HRS.out HR.out HA.out).2 (by unfold donB; omega)]; exact e)
              clear ha
              cases a with
              | tok t =>
                have ht : t < 6 := hpo
                have d3 : W.cell? ⟨gr i k, p, none⟩ = some (.string (letB t)) := d2
                have q1 := let_geA t ht
                have q2 := let_leD t ht
                have q3 := let_neD t ht
                have HST2 : Hid _ := hid (HST.out rfl)
                clear d2 hpo HST
                go_wp2
                go_roundw
                case rel => exact ⟨p + 1, c3, by omega, by go_num, HST2, hsh, hre⟩
                case measure => simp [intOf]; omega
              | nam u =>
                have hu : u < 4 := hpo
                have d3 : W.cell? ⟨gr i k, p, none⟩ = some (.string (namB u)) := d2
                have q1 := nam_geA u hu
                have q2 := nam_leD u hu
                have q3 := nam_pos u
                have q4 := nam_at u hu
                have q5 : (u : Int) % 256 = u := by omega
                clear d2 hpo
                by_cases hnu : n ≤ u
                · have hni : (n : Int) ≤ (u : Int) := by omega
                  clear HST
                  rcases q2 with q2 | q2
                  all_goals
                    go_wp2
                    refine wp_region_last (fun w' => w'.cell? ⟨b, 0, none⟩ = some (.slice (some ⟨gR, 0, none⟩) nN cR) ∧ w'.cell? ⟨gR, i, none⟩ = some (.slice (some ⟨gn i, 0, none⟩) nR (cn i)) ∧ w'.cell? ⟨gn i, k, none⟩ = some (.slice (some ⟨gr i k, 0, none⟩) np (cr i k)) ∧ w'.cell? ⟨gr i k, p, none⟩ = some (.string (namB u)) ∧ w'.frozen? ⟨gr i k, p, none⟩ = false) (by kernel_rfl) (by kernel_rfl) ⟨c0, d0, d1, d3, hfz⟩ (fun hHeld => ?_)
                    simp only [cutLast, idle, lastOf]
                    refine tkA 0 ?vv13 rfl ?hy13 hHeld ?_
                    case hy13 => (intro w hSw; (try dsimp only at hSw); first | (go_simp; done) | (go_simp; with_reducible rfl))
                    try simp only [zA, zC, Act.put, zD, zE, zF]
                    refine tkA 1 ?vv1 rfl ?hy1 hHeld ?_
                    case hy1 => (intro w hSw; (try dsimp only at hSw); first | (go_simp; done) | (go_simp; with_reducible rfl))
                    try simp only [zA, zB, zC, Act.put, zD, zE, zF]
                    refine tkA 2 ?vv2 rfl ?hy2 hHeld ?_
                    case hy2 => (intro w hSw; (try dsimp only at hSw); first | (go_simp; done) | (go_simp; with_reducible rfl))
                    try simp only [zA, zB, zC, Act.put, zD, zE, zF]
                    refine tkA 3 ?vv3 rfl ?hy3 hHeld ?_
                    case hy3 => (intro w hSw; (try dsimp only at hSw); first | (go_simp; done) | (go_simp; with_reducible rfl))
                    try simp only [zA, zB, zC, Act.put, zD, zE, zF]
                    refine tkA 4 ?vv4 rfl ?hy4 hHeld ?_
                    case hy4 => (intro w hSw; (try dsimp only at hSw); first | (go_simp; done) | (go_simp; with_reducible rfl))
                    try simp only [zA, zB, zC, Act.put, zD, zE, zF]
                    refine tkA 5 ?vv5 rfl ?hy5 hHeld ?_
                    case hy5 => (intro w hSw; (try dsimp only at hSw); first | (go_simp; done) | (go_simp; with_reducible rfl))
                    try simp only [zA, zB, zC, Act.put, zD, zE, zF]
                    refine tkA 6 ?vv6 rfl ?hy6 hHeld ?_
                    case hy6 => (intro w hSw; (try dsimp only at hSw); first | (go_simp; done) | (go_simp; with_reducible rfl))
                    try simp only [zA, zB, zC, Act.put, zD, zE, zF]
                    refine tkA 7 ?vv7 rfl ?hy7 hHeld ?_
                    case hy7 => (intro w hSw; (try dsimp only at hSw); first | (go_simp; done) | (go_simp; with_reducible rfl))
                    try simp only [zA, zB, zC, Act.put, zD, zE, zF]
                    refine tkA 8 ?vv8 rfl ?hy8 hHeld ?_
                    case hy8 => (intro w hSw; (try dsimp only at hSw); first | (go_simp; done) | (go_simp; with_reducible rfl))
                    try simp only [zA, zB, zC, Act.put, zD, zE, zF]
                    refine tkA 9 ?vv9 rfl ?hy9 hHeld ?_
                    case hy9 => (intro w hSw; (try dsimp only at hSw); first | (go_simp; done) | (go_simp; with_reducible rfl))
                    try simp only [zA, zB, zC, Act.put, zD, zE, zF]
                    refine tkA 10 ?vv10 rfl ?hy10 hHeld ?_
                    case hy10 => (intro w hSw; (try dsimp only at hSw); first | (go_simp; done) | (go_simp; with_reducible rfl))
                    try simp only [zA, zB, zC, Act.put, zD, zE, zF]
                    refine wpAnyH_ready (rs := [11]) (by kernel_rfl) (by simp) ?_
                    refine AllReadyH.cons rfl (fun K hK => ?_) AllReadyH.nil
                    try simp only [zA, zB, zC]
                    go_simp; refine (letter_any 0 (by omega) _).mono ?_; rintro e w' ⟨rfl, rfl⟩; try dsimp only
                    refine hK.out _ _ ?_ (fun hHeld => ?_)
                    · exact hHeld
                    clear hK K
                    try simp only [zA, zB, zC, Act.put, zD, zE, zF]
                    refine tkA 12 ?vv11 rfl ?hy11 hHeld ?_
                    case hy11 => (intro w hSw; (try dsimp only at hSw); first | (go_simp; done) | (go_simp; with_reducible rfl))
                    try simp only [zA, zB, zC, Act.put, zD, zE, zF]
                    refine tkA 13 ?vv12 rfl ?hy12 hHeld ?_
                    case hy12 => (intro w hSw; (try dsimp only at hSw); first | (go_simp; done) | (go_simp; with_reducible rfl))
                    try simp only [zA, zB, zC, Act.put]
                    refine wpAnyH_done (by kernel_rfl) ?_ _
                    clear hHeld
                    show wpList _ _ _ _ _ _
                    go_wp2
                    go_roundw
                    case rel =>
                      have hc' : ∀ n' k' p', ¬ (n' = i ∧ k' = k ∧ p' = p) → (fun n' k' p' => if n' = i ∧ k' = k ∧ p' = p then Pt.tok 0 else c3 n' k' p') n' k' p' = c3 n' k' p' := fun n' k' p' h => if_neg h
                      have h1 := hsh.out.put (c' := fun n' k' p' => if n' = i ∧ k' = k ∧ p' = p then Pt.tok 0 else c3 n' k' p') HRS.out HR.out HA.out hc'
                      have h2 := hcut.out.step (c' := fun n' k' p' => if n' = i ∧ k' = k ∧ p' = p then Pt.tok 0 else c3 n' k' p') HRS.out HR.out HA.out hc' (by
                        show (if i = i ∧ k = k ∧ p = p then Pt.tok 0 else c3 i k p) = if n ≤ u then Pt.tok 0 else Pt.nam u
                        rw [if_pos ⟨rfl, rfl, rfl⟩, if_pos hnu])
                      rw [if_pos (⟨rfl, rfl, rfl⟩ : i = i ∧ k = k ∧ p = p)] at h1
                      exact ⟨p + 1, _, by omega, by go_num, hid h2, hid h1.drew, hid ⟨hre.out.1.put (hsh.out.rr i rs k r HRS.out HR.out) _, (hre.out.2.setCell (p := ⟨gr i k, p, none⟩) (HBg.out i rs k r HRS.out HR.out) _).drew⟩⟩
                    case measure => simp [intOf]; omega
                · have hni : ¬ (n : Int) ≤ (u : Int) := by omega
                  have HST2 : Hid _ := hid (HST.out (by show Pt.nam u = if n ≤ u then Pt.tok 0 else Pt.nam u; rw [if_neg hnu]))
                  clear HST
                  rcases q2 with q2 | q2
                  all_goals
                    go_wp2
                    go_roundw
                    case rel => exact ⟨p + 1, c3, by omega, by go_num, HST2, hsh, hre⟩
                    case measure => simp [intOf]; omega
            · have HST2 : Hid (CutAt n L i (k + 1) 0 c3) := hid (hcut.out.same fun n' rs' k' r' p' g1 g2 g3 => by
                unfold donB
                by_cases e : n' = i ∧ k' = k
                · obtain ⟨rfl, rfl⟩ := e
                  rw [HRS.out] at g1
                  injection g1 with g1
                  subst g1
                  rw [HR.out] at g2
                  injection g2 with g2
                  subst g2
                  rw [← HNP.out] at g3
                  omega
                · omega)
              go_wp2
              go_roundw
              case rel => exact ⟨k + 1, c3, by omega, by go_num, HST2, hsh, hre⟩
              case measure => simp [intOf]; omega
        · have HST2 : Hid (CutAt n L (i + 1) 0 0 c2) := hid (hcut.out.same fun n' rs' k' r' p' g1 g2 g3 => by
            unfold donB
            by_cases e : n' = i
            · obtain rfl := e
              rw [HRS.out] at g1
              injection g1 with g1
              subst g1
              have := (List.getElem?_eq_some_iff.1 g2).1
              rw [← HNR.out] at this
              omega
            · omega)
          go_wp2
          go_roundw
          case rel => exact ⟨i + 1, c2, by omega, by go_num, HST2, hsh, hre⟩
          case measure => simp [intOf]; omega
    · have HST2 : Hid (CutAt n L L.length 0 0 c1) := hid (by rw [← H1.out, show nN = i by omega]; exact hcut.out)
      go_wp2
      go_ret
      exact ⟨rfl, ⟨c1, HST2.out, hsh.out⟩, hre.out.1, hre.out.2⟩

end Go.Proofs.YtjjggdcnpndgjaaGreatDoor

namespace Go.Proofs.YtjjggdcnpndgjaaGreatDoor
open Go.RowKit

/-- As build leaves it: names may stand that have no rules; N: how many there were to be. -/
structure Mk.Pre (m : Mk) (N : Nat) : Prop where
  t2 : 2 ≤ m.puts.length
  t6 : m.puts.length ≤ 6
  dl : m.drops.length = m.puts.length
  sl : m.swaps.length = m.puts.length
  srow : ∀ r ∈ m.swaps, r.length = m.puts.length
  p1 : ∀ x ∈ m.puts, 1 ≤ x ∧ x ≤ 9
  d1 : ∀ x ∈ m.drops, 1 ≤ x ∧ x ≤ 9
  s1 : ∀ r ∈ m.swaps, ∀ x ∈ r, x ≤ 9
  sdiag : ∀ (i : Nat) r, m.swaps[i]? = some r → r.getD i 0 = 0
  n1 : 1 ≤ m.rules.length
  nN : m.rules.length ≤ N
  n4 : N ≤ 4
  c1 : ∀ rs ∈ m.rules, 1 ≤ rs.length ∧ rs.length ≤ m.puts.length
  head : ∀ rs ∈ m.rules, ∀ (k : Nat) r, rs[k]? = some r → r.head? = some (.tok k) ∧ r.length ≤ 5
  part : ∀ rs ∈ m.rules, ∀ r ∈ rs, ∀ p ∈ r, partOk m.puts.length N p
  last : ∀ rs ∈ m.rules, ∀ r, rs.getLast? = some r → ∀ p ∈ r, ∃ t, p = .tok t
  reach : ∀ (n : Nat) rs, m.rules[n]? = some rs → n + 1 < m.rules.length → ∃ r, rs[0]? = some r ∧ .nam (n + 1) ∈ r

theorem Mk.Pre.good {m : Mk} (h : m.Pre m.rules.length) : m.Good :=
  ⟨h.t2, h.t6, h.dl, h.sl, h.srow, h.p1, h.d1, h.s1, h.sdiag, h.n1, h.n4, h.c1, h.head, h.part, h.last, h.reach⟩

def cutL (n : Nat) (L : List (List (List Pt))) : List (List (List Pt)) := L.map fun rs => rs.map fun r => r.map (cutP n)
def Mk.cut (m : Mk) : Mk := { m with rules := cutL m.rules.length m.rules }

theorem cutL_at {n : Nat} {L : List (List (List Pt))} {i : Nat} {rs : List (List Pt)} (h : (cutL n L)[i]? = some rs) : ∃ qs, L[i]? = some qs ∧ rs = qs.map fun r => r.map (cutP n) := by
  unfold cutL at h
  rw [List.getElem?_map] at h
  cases hq : L[i]? with
  | none => rw [hq] at h; cases h
  | some qs => rw [hq] at h; injection h with h; exact ⟨qs, rfl, h.symm⟩

theorem cutL_mem {n : Nat} {L : List (List (List Pt))} {rs : List (List Pt)} (h : rs ∈ cutL n L) : ∃ qs ∈ L, rs = qs.map fun r => r.map (cutP n) := by
  unfold cutL at h
  obtain ⟨qs, h1, h2⟩ := List.mem_map.1 h
  exact ⟨qs, h1, h2.symm⟩

theorem Mk.Pre.cut_good {m : Mk} {N : Nat} (h : m.Pre N) : m.cut.Good where
  t2 := h.t2
  t6 := h.t6
  dl := h.dl
  sl := h.sl
  srow := h.srow
  p1 := h.p1
  d1 := h.d1
  s1 := h.s1
  sdiag := h.sdiag
  n1 := by show 1 ≤ (cutL _ _).length; unfold cutL; rw [List.length_map]; exact h.n1
  n4 := by show (cutL _ _).length ≤ 4; unfold cutL; rw [List.length_map]; exact Nat.le_trans h.nN h.n4
  c1 := fun rs hrs => by
    obtain ⟨qs, hq, rfl⟩ := cutL_mem hrs
    rw [List.length_map]
    exact h.c1 qs hq
  head := fun rs hrs k r hr => by
    obtain ⟨qs, hq, rfl⟩ := cutL_mem hrs
    rw [List.getElem?_map] at hr
    cases hqk : qs[k]? with
    | none => rw [hqk] at hr; cases hr
    | some q =>
      rw [hqk] at hr
      injection hr with hr
      subst hr
      obtain ⟨h1, h2⟩ := h.head qs hq k q hqk
      rw [List.length_map, List.head?_map, h1]
      exact ⟨rfl, h2⟩
  part := fun rs hrs r hr p hp => by
    have hl : m.cut.rules.length = m.rules.length := by show (cutL _ _).length = _; unfold cutL; rw [List.length_map]
    rw [hl]
    obtain ⟨qs, hq, rfl⟩ := cutL_mem hrs
    obtain ⟨q, hqr, rfl⟩ := List.mem_map.1 hr
    obtain ⟨a, ha, rfl⟩ := List.mem_map.1 hp
    have hpo := h.part qs hq q hqr a ha
    have ht := h.t2
    cases a with
    | tok t => exact hpo
    | nam k =>
      show partOk _ _ (if m.rules.length ≤ k then Pt.tok 0 else Pt.nam k)
      split
      · show 0 < m.puts.length; omega
      · show k < m.rules.length; omega
  last := fun rs hrs r hr p hp => by
    obtain ⟨qs, hq, rfl⟩ := cutL_mem hrs
    rw [List.getLast?_map] at hr
    cases hql : qs.getLast? with
    | none => rw [hql] at hr; cases hr
    | some q =>
      rw [hql] at hr
      injection hr with hr
      subst hr
      obtain ⟨a, ha, rfl⟩ := List.mem_map.1 hp
      obtain ⟨t, rfl⟩ := h.last qs hq q hql a ha
      exact ⟨t, rfl⟩
  reach := fun n rs hrs hn => by
    have hl : m.cut.rules.length = m.rules.length := by show (cutL _ _).length = _; unfold cutL; rw [List.length_map]
    rw [hl] at hn
    obtain ⟨qs, hq, rfl⟩ := cutL_at hrs
    obtain ⟨r, hr, hm⟩ := h.reach n qs hq hn
    refine ⟨r.map (cutP m.rules.length), by rw [List.getElem?_map, hr]; rfl, List.mem_map.2 ⟨_, hm, ?_⟩⟩
    show (if m.rules.length ≤ n + 1 then Pt.tok 0 else Pt.nam (n + 1)) = _
    rw [if_neg (by omega)]

end Go.Proofs.YtjjggdcnpndgjaaGreatDoor

namespace Go.Proofs.YtjjggdcnpndgjaaGreatDoor
open Go.RowKit

def ints (l : List Nat) : List Value := l.map fun (x : Nat) => Value.int .i64 (x : Int)

/-- The made grammar's box; what it costs to put in, to leave out, to change. -/
structure TokV (w : World) (B b T : Nat) (pu dr : List Nat) (sw : List (List Nat)) (vR vP vD vS : Value) (sg : Nat → Nat) : Prop where
  blk : w.heap[b]? = some (.cells #[vR, vP, vD, vS] 77 (0, 0))
  hb : B ≤ b
  puts : w.ownsRow B 3 1 vP pu.length (ints pu)
  drops : w.ownsRow B 3 1 vD dr.length (ints dr)
  swaps : w.ownsRow B 45 1 vS sw.length ((List.range sw.length).map fun i => Value.slice (some ⟨sg i, 0, none⟩) T T)
  rows : ∀ (i : Nat) r, sw[i]? = some r → w.heap[sg i]? = some (.cells (ints r).toArray 3 (0, 0)) ∧ B ≤ sg i ∧ r.length = T
  pd : ∀ g, vP.ownBlock = some g → vD.ownBlock ≠ some g
  ps : ∀ (i : Nat), i < sw.length → vP.ownBlock ≠ some (sg i) ∧ vD.ownBlock ≠ some (sg i)
  inj : ∀ (i j : Nat), i < sw.length → j < sw.length → sg i = sg j → i = j

section
variable {w w1 : World} {B b T : Nat} {pu dr : List Nat} {sw : List (List Nat)} {vR vP vD vS : Value} {sg : Nat → Nat}

theorem TokV.cells (h : TokV w B b T pu dr sw vR vP vD vS sg) : w.cell? ⟨b, 0, none⟩ = some vR ∧ w.cell? ⟨b, 1, none⟩ = some vP ∧ w.cell? ⟨b, 2, none⟩ = some vD ∧ w.cell? ⟨b, 3, none⟩ = some vS :=
  ⟨block_cell h.blk, block_cell h.blk, block_cell h.blk, block_cell h.blk⟩

/-- What lies in no block of the costs, and the box, may change. -/
theorem TokV.keeps {S : List Nat} (h : TokV w B b T pu dr sw vR vP vD vS sg) (hk : Keeps w w1 S) (hi : Off w S 3) (hs : Off w S 45) (hm : Off w S 77) : TokV w1 B b T pu dr sw vR vP vD vS sg where
  blk := (hk.block b (lt_of_block h.blk) (hm b _ h.blk)).trans h.blk
  hb := h.hb
  puts := own_keeps h.puts hk (own_off h.puts hi)
  drops := own_keeps h.drops hk (own_off h.drops hi)
  swaps := own_keeps h.swaps hk (own_off h.swaps hs)
  rows := fun i r hr => by
    obtain ⟨h1, h2, h3⟩ := h.rows i r hr
    exact ⟨(hk.block _ (lt_of_block h1) (hi _ _ h1)).trans h1, h2, h3⟩
  pd := h.pd
  ps := h.ps
  inj := h.inj

theorem TokV.below (h : TokV w B b T pu dr sw vR vP vD vS sg) (hb : Below w.heap.size w w1) : TokV w1 B b T pu dr sw vR vP vD vS sg :=
  h.keeps (Keeps.of_below hb []) (off_nil _ _) (off_nil _ _) (off_nil _ _)

theorem own_fresh {w : World} {e sz n : Nat} {v : Value} {xs : List Value} (h : w.ownsRow B e sz v n xs) {g : Nat} (hg : v.ownBlock = some g) : g < w.heap.size := own_lt h hg

/-- One more cost of putting in. -/
theorem TokV.addPut {x g cap : Nat} (h : TokV w B b T pu dr sw vR vP vD vS sg) (hk : Keeps w w1 vP.ownBlock.toList) (hg : vP.ownBlock = some g ∨ w.heap.size ≤ g)
    (hown : w1.ownsRow B 3 1 (.slice (some ⟨g, 0, none⟩) (pu.length + 1) cap) (pu.length + 1) (ints pu ++ [.int .i64 (x : Int)])) :
    TokV (w1.setCell ⟨b, 1, none⟩ (.slice (some ⟨g, 0, none⟩) (pu.length + 1) cap)) B b T (pu ++ [x]) dr sw vR (.slice (some ⟨g, 0, none⟩) (pu.length + 1) cap) vD vS sg := by
  have hb1 := (hk.block b (lt_of_block h.blk) (fun hm => own_not_block h.puts h.blk (by decide) (mem_own hm))).trans h.blk
  have hgd : vD.ownBlock ≠ some g := fun e => by
    rcases hg with hg | hg
    · exact h.pd g hg e
    · have := own_lt h.drops e; omega
  have hgs : ∀ i, i < sw.length → g ≠ sg i := fun i hi e => by
    obtain ⟨r, hr⟩ : ∃ r, sw[i]? = some r := ⟨_, List.getElem?_eq_getElem hi⟩
    have h1 := lt_of_block (h.rows i r hr).1
    rcases hg with hg | hg
    · exact (h.ps i hi).1 (by rw [hg, e])
    · omega
  refine ⟨cells_set hb1 _, h.hb, ?_, ?_, ?_, fun i r hr => ?_, fun g' hg' => ?_, fun i hi => ⟨fun e => ?_, (h.ps i hi).2⟩, h.inj⟩
  · have e : ints (pu ++ [x]) = ints pu ++ [.int .i64 (x : Int)] := by simp [ints]
    rw [e, List.length_append]
    exact row_over' hown hb1 (by decide)
  · exact row_over h.drops hk (fun g' hg' hm => h.pd g' (mem_own hm) hg') (fun g' hg' e => own_not_block h.drops h.blk (by decide) (e ▸ hg'))
  · exact row_over h.swaps hk (own_off h.swaps (off_own h.puts (by decide))) (fun g' hg' e => own_not_block h.swaps h.blk (by decide) (e ▸ hg'))
  · obtain ⟨h1, h2, h3⟩ := h.rows i r hr
    have hi := (List.getElem?_eq_some_iff.1 hr).1
    have hne : sg i ≠ b := kind_ne h1 h.blk (by decide)
    exact ⟨(Below.heap_setCell _ _ _ _ (by exact hne)).trans ((hk.block _ (lt_of_block h1) (fun hm => (h.ps i hi).1 (mem_own hm))).trans h1), h2, h3⟩
  · have : g' = g := by simpa [Value.ownBlock] using hg'.symm
    rw [this]; exact hgd
  · exact hgs i hi (by simpa [Value.ownBlock] using e)

/-- One more cost of leaving out. -/
theorem TokV.addDrop {x g cap : Nat} (h : TokV w B b T pu dr sw vR vP vD vS sg) (hk : Keeps w w1 vD.ownBlock.toList) (hg : vD.ownBlock = some g ∨ w.heap.size ≤ g)
    (hown : w1.ownsRow B 3 1 (.slice (some ⟨g, 0, none⟩) (dr.length + 1) cap) (dr.length + 1) (ints dr ++ [.int .i64 (x : Int)])) :
    TokV (w1.setCell ⟨b, 2, none⟩ (.slice (some ⟨g, 0, none⟩) (dr.length + 1) cap)) B b T pu (dr ++ [x]) sw vR vP (.slice (some ⟨g, 0, none⟩) (dr.length + 1) cap) vS sg := by
  have hb1 := (hk.block b (lt_of_block h.blk) (fun hm => own_not_block h.drops h.blk (by decide) (mem_own hm))).trans h.blk
  have hgd : vP.ownBlock ≠ some g := fun e => by
    rcases hg with hg | hg
    · exact h.pd g e hg
    · have := own_lt h.puts e; omega
  have hgs : ∀ i, i < sw.length → g ≠ sg i := fun i hi e => by
    obtain ⟨r, hr⟩ : ∃ r, sw[i]? = some r := ⟨_, List.getElem?_eq_getElem hi⟩
    have h1 := lt_of_block (h.rows i r hr).1
    rcases hg with hg | hg
    · exact (h.ps i hi).2 (by rw [hg, e])
    · omega
  refine ⟨cells_set hb1 _, h.hb, ?_, ?_, ?_, fun i r hr => ?_, fun g' hg' => ?_, fun i hi => ⟨(h.ps i hi).1, fun e => ?_⟩, h.inj⟩
  · exact row_over h.puts hk (fun g' hg' hm => h.pd g' hg' (mem_own hm)) (fun g' hg' e => own_not_block h.puts h.blk (by decide) (e ▸ hg'))
  · have e : ints (dr ++ [x]) = ints dr ++ [.int .i64 (x : Int)] := by simp [ints]
    rw [e, List.length_append]
    exact row_over' hown hb1 (by decide)
  · exact row_over h.swaps hk (own_off h.swaps (off_own h.drops (by decide))) (fun g' hg' e => own_not_block h.swaps h.blk (by decide) (e ▸ hg'))
  · obtain ⟨h1, h2, h3⟩ := h.rows i r hr
    have hi := (List.getElem?_eq_some_iff.1 hr).1
    have hne : sg i ≠ b := kind_ne h1 h.blk (by decide)
    exact ⟨(Below.heap_setCell _ _ _ _ (by exact hne)).trans ((hk.block _ (lt_of_block h1) (fun hm => (h.ps i hi).2 (mem_own hm))).trans h1), h2, h3⟩
  · intro e
    have : g = g' := by simpa [Value.ownBlock] using e
    rw [this] at hgd; exact hgd hg'
  · exact hgs i hi (by simpa [Value.ownBlock] using e)

/-- A row of swaps, new. -/
theorem TokV.addSwap {g cap : Nat} (h : TokV w B b T pu dr sw vR vP vD vS sg) (hBw : B ≤ w.heap.size) (hl : sw.length = pu.length - 1) {w2 : World}
    (hz : w1.heap[w.heap.size]? = some (.cells (ints (List.replicate T 0)).toArray 3 (0, 0))) (hw1 : Keeps w w1 []) (hk : Keeps w1 w2 vS.ownBlock.toList)
    (hown : w2.ownsRow B 45 1 (.slice (some ⟨g, 0, none⟩) (sw.length + 1) cap) (sw.length + 1) (((List.range sw.length).map fun i => Value.slice (some ⟨sg i, 0, none⟩) T T) ++ [.slice (some ⟨w.heap.size, 0, none⟩) T T])) :
    TokV (w2.setCell ⟨b, 3, none⟩ (.slice (some ⟨g, 0, none⟩) (sw.length + 1) cap)) B b T pu dr (sw ++ [List.replicate T 0]) vR vP vD (.slice (some ⟨g, 0, none⟩) (sw.length + 1) cap) (fun i => if i = sw.length then w.heap.size else sg i) := by
  have h' := h.keeps hw1 (off_nil _ _) (off_nil _ _) (off_nil _ _)
  have hb1 := (hk.block b (lt_of_block h'.blk) (fun hm => own_not_block h'.swaps h'.blk (by decide) (mem_own hm))).trans h'.blk
  have hold : ∀ i, i < sw.length → sg i < w.heap.size := fun i hi => by
    obtain ⟨r, hr⟩ : ∃ r, sw[i]? = some r := ⟨_, List.getElem?_eq_getElem hi⟩
    exact lt_of_block (h.rows i r hr).1
  have hrow : ∀ (q : Nat) (c : Array Value), w1.heap[q]? = some (Obj.cells c 3 (0, 0)) → (w2.setCell ⟨b, 3, none⟩ (.slice (some ⟨g, 0, none⟩) (sw.length + 1) cap)).heap[q]? = some (Obj.cells c 3 (0, 0)) := fun q c hq => by
    have hne : q ≠ b := kind_ne hq h'.blk (by decide)
    exact (Below.heap_setCell _ _ _ _ (by exact hne)).trans ((hk.block _ (lt_of_block hq) (off_own h'.swaps (by decide) q c hq)).trans hq)
  refine ⟨cells_set hb1 _, h.hb, ?_, ?_, ?_, fun i r hr => ?_, h.pd, fun i hi => ?_, fun i j hi hj e => ?_⟩
  · exact row_over h'.puts hk (own_off h'.puts (off_own h'.swaps (by decide))) (fun g' hg' e => own_not_block h'.puts h'.blk (by decide) (e ▸ hg'))
  · exact row_over h'.drops hk (own_off h'.drops (off_own h'.swaps (by decide))) (fun g' hg' e => own_not_block h'.drops h'.blk (by decide) (e ▸ hg'))
  · have e : ((List.range (sw ++ [List.replicate T 0]).length).map fun i => Value.slice (some ⟨if i = sw.length then w.heap.size else sg i, 0, none⟩) T T) = ((List.range sw.length).map fun i => Value.slice (some ⟨sg i, 0, none⟩) T T) ++ [.slice (some ⟨w.heap.size, 0, none⟩) T T] := by
      rw [List.length_append, List.length_singleton, List.range_succ, List.map_append]
      congr 1
      · apply List.map_congr_left
        intro i hi
        rw [if_neg (by have := List.mem_range.1 hi; omega)]
      · simp
    rw [e, List.length_append]
    exact row_over' hown hb1 (by decide)
  · by_cases hi : i < sw.length
    · rw [List.getElem?_append_left hi] at hr
      obtain ⟨h1, h2, h3⟩ := h'.rows i r hr
      simp only [if_neg (show ¬ i = sw.length by omega)]
      exact ⟨hrow _ _ h1, h2, h3⟩
    · rw [List.getElem?_append_right (by omega)] at hr
      obtain ⟨hl2, e⟩ := List.getElem?_eq_some_iff.1 hr
      simp only [List.length_singleton] at hl2
      have hi' : i = sw.length := by omega
      subst hi'
      simp only [Nat.sub_self, List.getElem_singleton] at e
      subst e
      simp only [if_pos]
      exact ⟨hrow _ _ hz, hBw, by simp⟩
  · rw [List.length_append, List.length_singleton] at hi
    by_cases hi' : i = sw.length
    · subst hi'
      simp only [if_pos]
      exact ⟨fun e => by have := own_lt h.puts e; omega, fun e => by have := own_lt h.drops e; omega⟩
    · simp only [if_neg hi']
      exact h.ps i (by omega)
  · rw [List.length_append, List.length_singleton] at hi hj
    by_cases hi' : i = sw.length
    · by_cases hj' : j = sw.length
      · omega
      · simp only [if_pos hi', if_neg hj'] at e
        have := hold j (by omega); omega
    · by_cases hj' : j = sw.length
      · simp only [if_neg hi', if_pos hj'] at e
        have := hold i (by omega); omega
      · simp only [if_neg hi', if_neg hj'] at e
        exact h.inj i j (by omega) (by omega) e

/-- A swap is allowed. -/
theorem TokV.putSwap {i j x : Nat} {r : List Nat} (h : TokV w B b T pu dr sw vR vP vD vS sg) (hr : sw[i]? = some r) :
    TokV (w.setCell ⟨sg i, j, none⟩ (.int .i64 (x : Int))) B b T pu dr (sw.set i (r.set j x)) vR vP vD vS sg := by
  obtain ⟨h1, h2, h3⟩ := h.rows i r hr
  have hi := (List.getElem?_eq_some_iff.1 hr).1
  have hne : sg i ≠ b := kind_ne h1 h.blk (by decide)
  have hs : (sw.set i (r.set j x)).length = sw.length := List.length_set ..
  refine ⟨(Below.heap_setCell _ _ _ _ (by exact fun e => hne e.symm)).trans h.blk, h.hb, ?_, ?_, ?_, fun i' r' hr' => ?_, h.pd, fun i' hi' => h.ps i' (by omega), fun a c ha hc => h.inj a c (by omega) (by omega)⟩
  · exact ownsRow_setCell_other h.puts (h.ps i hi).1 _
  · exact ownsRow_setCell_other h.drops (h.ps i hi).2 _
  · rw [hs]; exact row_over' h.swaps h1 (by decide)
  · by_cases e : i' = i
    · subst e
      rw [List.getElem?_set_self hi] at hr'
      injection hr' with hr'
      subst hr'
      refine ⟨?_, h2, by rw [List.length_set]; exact h3⟩
      rw [cells_set h1]
      congr 2
      apply Array.ext'
      simp [ints, List.map_set]
    · rw [List.getElem?_set_ne (fun e2 => e e2.symm)] at hr'
      obtain ⟨k1, k2, k3⟩ := h.rows i' r' hr'
      have hi2 := (List.getElem?_eq_some_iff.1 hr').1
      exact ⟨(Below.heap_setCell _ _ _ _ (by exact fun e2 => e (h.inj _ _ hi2 hi e2))).trans k1, k2, k3⟩

end

end Go.Proofs.YtjjggdcnpndgjaaGreatDoor

namespace Go.Proofs.YtjjggdcnpndgjaaGreatDoor
open Go.RowKit

def wds (r : List Pt) : List Value := r.map fun p => Value.string (wordP p)

/-- Rules of one name: a row of rows of words, each rule's row its own block. -/
structure RsV (w : World) (B : Nat) (v : Value) (rs : List (List Pt)) (gk ck : Nat → Nat) : Prop where
  row : w.ownsRow B 39 1 v rs.length ((List.range rs.length).map fun k => Value.slice (some ⟨gk k, 0, none⟩) ((rs.getD k []).length) (ck k))
  each : ∀ (k : Nat) r, rs[k]? = some r → w.ownsRow B 9 1 (.slice (some ⟨gk k, 0, none⟩) r.length (ck k)) r.length (wds r)

theorem RsV.keeps {w w1 : World} {B : Nat} {S : List Nat} {v : Value} {rs : List (List Pt)} {gk ck : Nat → Nat} (h : RsV w B v rs gk ck) (hk : Keeps w w1 S) (h1 : Off w S 39) (h2 : ∀ k, k < rs.length → gk k ∉ S) : RsV w1 B v rs gk ck :=
  ⟨own_keeps h.row hk (own_off h.row h1), fun k r hr => own_keeps (h.each k r hr) hk (fun g hg hm => by
    have : g = gk k := by simpa [Value.ownBlock] using hg.symm
    exact h2 k (List.getElem?_eq_some_iff.1 hr).1 (this ▸ hm))⟩

theorem RsV.setOther {w : World} {B gb j : Nat} {u v : Value} {rs : List (List Pt)} {gk ck : Nat → Nat} {cs : Array Value} {t : Nat} {fr : Nat × Nat} (h : RsV w B v rs gk ck) (hb : w.heap[gb]? = some (.cells cs t fr)) (h1 : 39 ≠ t) (h2 : 9 ≠ t) : RsV (w.setCell ⟨gb, j, none⟩ u) B v rs gk ck :=
  ⟨row_over' h.row hb h1, fun k r hr => row_over' (h.each k r hr) hb h2⟩

theorem RsV.lt {w : World} {B : Nat} {v : Value} {rs : List (List Pt)} {gk ck : Nat → Nat} (h : RsV w B v rs gk ck) {k : Nat} (hk : k < rs.length) : B ≤ gk k ∧ gk k < w.heap.size := by
  obtain ⟨r, hr⟩ : ∃ r, rs[k]? = some r := ⟨_, List.getElem?_eq_getElem hk⟩
  exact (h.each k r hr).lt (gk k) rfl

theorem range_snoc {α : Type} (n : Nat) (f f' : Nat → α) (h : ∀ i, i < n → f' i = f i) : (List.range (n + 1)).map f' = (List.range n).map f ++ [f' n] := by
  rw [List.range_succ, List.map_append]
  congr 1
  exact List.map_congr_left fun i hi => h i (List.mem_range.1 hi)

/-- One more rule. -/
theorem RsV.push {w w1 : World} {B g c g' cap : Nat} {v : Value} {rs : List (List Pt)} {gk ck : Nat → Nat} {r : List Pt} (h : RsV w B v rs gk ck) (hr : w.ownsRow B 9 1 (.slice (some ⟨g, 0, none⟩) r.length c) r.length (wds r)) (hk : Keeps w w1 v.ownBlock.toList)
    (hown : w1.ownsRow B 39 1 (.slice (some ⟨g', 0, none⟩) (rs.length + 1) cap) (rs.length + 1) (((List.range rs.length).map fun k => Value.slice (some ⟨gk k, 0, none⟩) ((rs.getD k []).length) (ck k)) ++ [.slice (some ⟨g, 0, none⟩) r.length c])) :
    RsV w1 B (.slice (some ⟨g', 0, none⟩) (rs.length + 1) cap) (rs ++ [r]) (fun k => if k = rs.length then g else gk k) (fun k => if k = rs.length then c else ck k) := by
  have hstr : ∀ {q : Value} {n : Nat} {xs : List Value}, w.ownsRow B 9 1 q n xs → w1.ownsRow B 9 1 q n xs := fun hq => own_keeps hq hk (own_off hq (off_own h.row (by decide)))
  refine ⟨?_, fun k q hq => ?_⟩
  · rw [List.length_append, List.length_singleton]
    rw [range_snoc rs.length (fun k => Value.slice (some ⟨gk k, 0, none⟩) ((rs.getD k []).length) (ck k))]
    · simp only [if_pos, List.getD_eq_getElem?_getD, List.getElem?_concat_length, Option.getD_some]
      simp only [List.getD_eq_getElem?_getD] at hown
      exact hown
    · intro i hi
      simp only [if_neg (show ¬ i = rs.length by omega), List.getD_eq_getElem?_getD, List.getElem?_append_left hi]
  · by_cases hi : k < rs.length
    · rw [List.getElem?_append_left hi] at hq
      simp only [if_neg (show ¬ k = rs.length by omega)]
      exact hstr (h.each k q hq)
    · rw [List.getElem?_append_right (by omega)] at hq
      obtain ⟨hl, e⟩ := List.getElem?_eq_some_iff.1 hq
      simp only [List.length_singleton] at hl
      have hk' : k = rs.length := by omega
      subst hk'
      simp only [Nat.sub_self, List.getElem_singleton] at e
      subst e
      simp only [if_pos]
      exact hstr hr

/-- The names that are done. -/
structure NsV (w : World) (B : Nat) (v : Value) (L : List (List (List Pt))) (gn cn : Nat → Nat) (gr cr : Nat → Nat → Nat) : Prop where
  row : w.ownsRow B 46 1 v L.length ((List.range L.length).map fun n => Value.slice (some ⟨gn n, 0, none⟩) ((L.getD n []).length) (cn n))
  each : ∀ (n : Nat) rs, L[n]? = some rs → RsV w B (.slice (some ⟨gn n, 0, none⟩) rs.length (cn n)) rs (gr n) (cr n)
  inj : ∀ (n k n' k' : Nat) rs rs', L[n]? = some rs → k < rs.length → L[n']? = some rs' → k' < rs'.length → gr n k = gr n' k' → n = n' ∧ k = k'

theorem NsV.keeps {w w1 : World} {B : Nat} {S : List Nat} {v : Value} {L : List (List (List Pt))} {gn cn : Nat → Nat} {gr cr : Nat → Nat → Nat} (h : NsV w B v L gn cn gr cr) (hk : Keeps w w1 S) (h0 : Off w S 46) (h1 : ∀ n, n < L.length → gn n ∉ S) (h2 : ∀ n rs k, L[n]? = some rs → k < rs.length → gr n k ∉ S) : NsV w1 B v L gn cn gr cr where
  row := own_keeps h.row hk (own_off h.row h0)
  each := fun n rs hn => ⟨own_keeps (h.each n rs hn).row hk (fun g hg hm => by
      have : g = gn n := by simpa [Value.ownBlock] using hg.symm
      exact h1 n (List.getElem?_eq_some_iff.1 hn).1 (this ▸ hm)),
    fun k r hr => own_keeps ((h.each n rs hn).each k r hr) hk (fun g hg hm => by
      have : g = gr n k := by simpa [Value.ownBlock] using hg.symm
      exact h2 n rs k hn (List.getElem?_eq_some_iff.1 hr).1 (this ▸ hm))⟩
  inj := h.inj

end Go.Proofs.YtjjggdcnpndgjaaGreatDoor
