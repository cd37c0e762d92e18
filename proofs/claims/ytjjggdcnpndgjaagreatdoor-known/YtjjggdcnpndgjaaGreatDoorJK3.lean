/- A made grammar in memory, to be read; what each of its names least costs (cheapest), walked. -/
import Derived.Test.YtjjggdcnpndgjaaGreatDoorJ19
import Derived.Test.YtjjggdcnpndgjaaGreatDoorJ7
namespace Go.Proofs.YtjjggdcnpndgjaaGreatDoor
open Go.RowKit

/-- A list of n, each as P says. -/
def ListV (w : World) (n₀ : Nat) (v : Value) (n : Nat) (P : Nat → Value → Prop) : Prop :=
  ∃ g cap, v = .slice (some ⟨g, 0, none⟩) n cap ∧ n ≤ cap ∧ g < n₀ ∧ ∀ j, j < n → ∃ x, w.cell? ⟨g, j, none⟩ = some x ∧ P j x

theorem ListV.below {w w' : World} {n₀ : Nat} {v : Value} {n : Nat} {P Q : Nat → Value → Prop} (h : ListV w n₀ v n P) (hb : Below n₀ w w') (hPQ : ∀ j x, j < n → P j x → Q j x) : ListV w' n₀ v n Q := by
  obtain ⟨g, cap, h1, h2, h3, h4⟩ := h
  refine ⟨g, cap, h1, h2, h3, fun j hj => ?_⟩
  obtain ⟨x, h5, h6⟩ := h4 j hj
  exact ⟨x, (hb.cell (by exact h3)).trans h5, hPQ j x hj h6⟩

def PartV (r : List Pt) (p : Nat) (z : Value) : Prop := ∃ q, r[p]? = some q ∧ z = .string (wordP q)
def RuleV (w : World) (n₀ : Nat) (rs : List (List Pt)) (k : Nat) (y : Value) : Prop := ∃ r, rs[k]? = some r ∧ ListV w n₀ y r.length (PartV r)
def NameV (w : World) (n₀ : Nat) (m : Mk) (n : Nat) (x : Value) : Prop := ∃ rs, m.rules[n]? = some rs ∧ ListV w n₀ x rs.length (RuleV w n₀ rs)

structure MkV (w : World) (n₀ b : Nat) (m : Mk) : Prop where
  lt : b < n₀
  rules : ∃ v, w.cell? ⟨b, 0, none⟩ = some v ∧ ListV w n₀ v m.rules.length (NameV w n₀ m)
  puts : ∃ v, w.cell? ⟨b, 1, none⟩ = some v ∧ ListV w n₀ v m.puts.length fun j x => x = .int .i64 (m.puts.getD j 0 : Nat)
  drops : ∃ v, w.cell? ⟨b, 2, none⟩ = some v ∧ ListV w n₀ v m.puts.length fun j x => x = .int .i64 (m.drops.getD j 0 : Nat)
  swaps : ∃ v, w.cell? ⟨b, 3, none⟩ = some v ∧ ListV w n₀ v m.puts.length fun i x => ListV w n₀ x m.puts.length fun j y => y = .int .i64 (swpOf m i j : Nat)

theorem NameV.below {w w' : World} {n₀ : Nat} {m : Mk} {n : Nat} {x : Value} (h : NameV w n₀ m n x) (hb : Below n₀ w w') : NameV w' n₀ m n x := by
  obtain ⟨rs, h1, h2⟩ := h
  exact ⟨rs, h1, h2.below hb fun k y _ ⟨r, h3, h4⟩ => ⟨r, h3, h4.below hb fun _ _ _ h => h⟩⟩

theorem MkV.below {w w' : World} {n₀ b : Nat} {m : Mk} (h : MkV w n₀ b m) (hb : Below n₀ w w') : MkV w' n₀ b m where
  lt := h.lt
  rules := by
    obtain ⟨v, h1, h2⟩ := h.rules
    exact ⟨v, (hb.cell (by exact h.lt)).trans h1, h2.below hb fun _ _ _ h => h.below hb⟩
  puts := by
    obtain ⟨v, h1, h2⟩ := h.puts
    exact ⟨v, (hb.cell (by exact h.lt)).trans h1, h2.below hb fun _ _ _ h => h⟩
  drops := by
    obtain ⟨v, h1, h2⟩ := h.drops
    exact ⟨v, (hb.cell (by exact h.lt)).trans h1, h2.below hb fun _ _ _ h => h⟩
  swaps := by
    obtain ⟨v, h1, h2⟩ := h.swaps
    exact ⟨v, (hb.cell (by exact h.lt)).trans h1, h2.below hb fun _ _ _ h => h.below hb fun _ _ _ h => h⟩

theorem ListV.up {w : World} {n₀ n₁ : Nat} {v : Value} {n : Nat} {P Q : Nat → Value → Prop} (h : ListV w n₀ v n P) (hn : n₀ ≤ n₁) (hPQ : ∀ j x, P j x → Q j x) : ListV w n₁ v n Q := by
  obtain ⟨g, cap, h1, h2, h3, h4⟩ := h
  refine ⟨g, cap, h1, h2, Nat.lt_of_lt_of_le h3 hn, fun j hj => ?_⟩
  obtain ⟨x, h5, h6⟩ := h4 j hj
  exact ⟨x, h5, hPQ j x h6⟩

theorem NameV.up {w : World} {n₀ n₁ : Nat} {m : Mk} {n : Nat} {x : Value} (h : NameV w n₀ m n x) (hn : n₀ ≤ n₁) : NameV w n₁ m n x := by
  obtain ⟨rs, h1, h2⟩ := h
  exact ⟨rs, h1, h2.up hn fun k y ⟨r, h3, h4⟩ => ⟨r, h3, h4.up hn fun _ _ h => h⟩⟩

theorem MkV.up {w : World} {n₀ n₁ b : Nat} {m : Mk} (h : MkV w n₀ b m) (hn : n₀ ≤ n₁) : MkV w n₁ b m where
  lt := Nat.lt_of_lt_of_le h.lt hn
  rules := by
    obtain ⟨v, h1, h2⟩ := h.rules
    exact ⟨v, h1, h2.up hn fun _ _ h => h.up hn⟩
  puts := by
    obtain ⟨v, h1, h2⟩ := h.puts
    exact ⟨v, h1, h2.up hn fun _ _ h => h⟩
  drops := by
    obtain ⟨v, h1, h2⟩ := h.drops
    exact ⟨v, h1, h2.up hn fun _ _ h => h⟩
  swaps := by
    obtain ⟨v, h1, h2⟩ := h.swaps
    exact ⟨v, h1, h2.up hn fun _ _ h => h.up hn fun _ _ h => h⟩

/-- The names behind one another, the rules of each. -/
def nameF (N : NG) (n : Nat) (l : List Nat) (rs : List (List Pt)) : List Nat := rs.foldl (fun l ps => cStep N l (n, ps)) l
def restF (N : NG) (l : List Nat) (xs : List (List (List Pt) × Nat)) : List Nat := xs.foldl (fun l x => nameF N x.2 l x.1) l

theorem restF_round (m : Mk) (l : List Nat) : restF (ngM m) l m.rules.zipIdx = cRound (ngM m) l := by
  unfold restF cRound
  show _ = List.foldl (cStep (ngM m)) l (m.rules.zipIdx.flatMap fun x => x.1.map fun ps => (x.2, ps))
  rw [List.foldl_flatMap]
  congr 1
  funext l x
  unfold nameF
  rw [List.foldl_map]

def fillC (n k : Nat) : List Nat := List.replicate k 1000 ++ List.replicate (n - k) 0
theorem fillC_set {n k : Nat} (h : k < n) : (fillC n k).set k 1000 = fillC n (k + 1) := by
  unfold fillC
  rw [List.set_append_right _ _ (by simp), List.length_replicate, Nat.sub_self]
  obtain ⟨m, hm⟩ : ∃ m, n - k = m + 1 := ⟨n - k - 1, by omega⟩
  rw [hm, List.replicate_succ, List.set_cons_zero, List.replicate_succ', show n - (k + 1) = m by omega]
  simp
theorem fillC_len {n k : Nat} (h : k ≤ n) : (fillC n k).length = n := by unfold fillC; simp; omega

theorem cStep_yes {N : NG} {l : List Nat} {r : Nat × List Pt} (h : sumF N (lAt l) r.2 < lAt l r.1) : cStep N l r = l.set r.1 (sumF N (lAt l) r.2) := by unfold cStep; rw [if_pos h]
theorem cStep_no {N : NG} {l : List Nat} {r : Nat × List Pt} (h : ¬ sumF N (lAt l) r.2 < lAt l r.1) : cStep N l r = l := by unfold cStep; rw [if_neg h]

theorem let_geA : ∀ u, u < 6 → Op.bytesLess (letB u).toList [65] = false := by decide +kernel
theorem let_leD : ∀ u, u < 6 → Op.bytesLess (letB u).toList [68] = false := by decide +kernel
theorem let_neD : ∀ u, u < 6 → ((letB u).toList == [68]) = false := by decide +kernel
theorem nam_geA : ∀ u, u < 4 → Op.bytesLess (namB u).toList [65] = false := by decide +kernel
theorem nam_leD : ∀ u, u < 4 → Op.bytesLess (namB u).toList [68] = true ∨ ((namB u).toList == [68]) = true := by decide +kernel
theorem nam_pos (u : Nat) : 0 < (namB u).size := by show 0 < 1; omega
theorem nam_at : ∀ u, u < 4 → ∀ h : 0 < (namB u).size, (((namB u)[0]'h).toNat : Int) = 65 + u := by
  intro u hu h
  have e : u = 0 ∨ u = 1 ∨ u = 2 ∨ u = 3 := by omega
  rcases e with rfl | rfl | rfl | rfl <;> rfl

set_option maxHeartbeats 4000000 in
set_option maxRecDepth 100000 in
theorem cheapest_any (m : Mk) (hm : m.Good) (w : World) (b : Nat) (hM : MkV w w.heap.size b m) :
    Calls Tryz.prog 30 #[.pointer (some ⟨b, 0, none⟩)] w fun e w' => e = .returned (.slice (some ⟨w.heap.size, 0, none⟩) m.rules.length m.rules.length) ∧
      w'.ownsRow w.heap.size 3 1 (.slice (some ⟨w.heap.size, 0, none⟩) m.rules.length m.rules.length) m.rules.length (nats (cheapN (ngM m))) ∧ Below w.heap.size w w' := by
  obtain ⟨i0, hi, hz0, hz1, hz2⟩ := info_parts Tryz.info3
  obtain ⟨nN, hn1⟩ : ∃ n, n = m.rules.length := ⟨_, rfl⟩
  obtain ⟨nT, hn2⟩ : ∃ n, n = m.puts.length := ⟨_, rfl⟩
  have hN4 := hm.n4
  have hT6 := hm.t6
  have HM : Hid (MkV w w.heap.size b m) := hid hM
  have HG : Hid m.Good := hid hm
  have hbl := hM.lt
  obtain ⟨vR, c0, gR, capR, rfl, hcR, hgR, _⟩ := hM.rules
  obtain ⟨vP, c1, gP, capP, rfl, hcP, hgP, _⟩ := hM.puts
  rw [← hn1] at c0 hcR hN4 ⊢
  rw [← hn2] at c1 hcP hT6
  have H1 : Hid (nN = m.rules.length) := hid hn1
  have H2 : Hid (nT = m.puts.length) := hid hn2
  clear hn1 hn2 hm hM
  obtain ⟨b0, hb0⟩ : ∃ b, b = w.heap.size := ⟨_, rfl⟩
  have H0 : Hid (b0 = w.heap.size) := hid hb0
  rw [← hb0] at hbl hgR hgP
  rw [← hb0]
  have HC : Hid (∀ W, Below b0 w W → W.cell? ⟨b, 0, none⟩ = some (.slice (some ⟨gR, 0, none⟩) nN capR) ∧ W.cell? ⟨b, 1, none⟩ = some (.slice (some ⟨gP, 0, none⟩) nT capP) ∧ MkV W b0 b m ∧ (∀ n, n < nN → ∃ x, W.cell? ⟨gR, n, none⟩ = some x ∧ NameV W b0 m n x) ∧ ∀ t, t < nT → W.cell? ⟨gP, t, none⟩ = some (.int .i64 (m.puts.getD t 0 : Nat))) := hid fun W hb => by
    have hM := HM.out
    rw [← H0.out] at hM
    have hM2 := hM.below hb
    have e0 := (hb.cell (p := ⟨b, 0, none⟩) (by exact hbl)).trans c0
    have e1 := (hb.cell (p := ⟨b, 1, none⟩) (by exact hbl)).trans c1
    refine ⟨e0, e1, hM2, fun n hn => ?_, fun t ht => ?_⟩
    · obtain ⟨v, h1, g, cap, h2, _, _, h3⟩ := hM2.rules
      rw [e0] at h1
      injection h1 with h1
      rw [h2] at h1
      injection h1 with h4 h5 h6
      injection h4 with h4
      injection h4 with h4 _ _
      subst h4
      exact h3 n (by rw [← H1.out]; exact hn)
    · obtain ⟨v, h1, g, cap, h2, _, _, h3⟩ := hM2.puts
      rw [e1] at h1
      injection h1 with h1
      rw [h2] at h1
      injection h1 with h4 h5 h6
      injection h4 with h4
      injection h4 with h4 _ _
      subst h4
      obtain ⟨x, h7, h8⟩ := h3 t (by rw [← H2.out]; exact ht)
      rw [h8] at h7
      exact h7
  clear HM
  go_enter Tryz.func30, Tryz.ntmps30
  go_wp2_with (first
    | (at_make; refine wpList_make_full _ rfl _ _ 45 rfl b0 3 i0 (.int .i64 0) 1 Tryz.underlying45 hi hz0 hz1 .i64 .i64 nN nN nN rfl rfl rfl rfl (by rw [hz2]; omega) (by unfold maxLen; omega) (by omega) ?_; intro w1 hown1 hgrow1))
  rw [made_nats, ← hb0] at hown1
  rw [← hb0]
  have HO1 : Hid _ := hid hown1
  have HB1 : Hid (Below b0 w w1) := hid ((Below.refl _ _).grown hgrow1 (Nat.le_of_eq hb0) (fun j hj => by cases hj))
  clear hown1 hgrow1 hb0
  go_loopw [4] (fun i wr => ∃ (k : Nat), k ≤ nN ∧ i = .int .i64 k ∧ Hid (wr.ownsRow b0 3 1 (.slice (some ⟨b0, 0, none⟩) nN nN) nN (nats (fillC nN k))) ∧ Hid (Below b0 w wr)) (fun i _ => nN - (intOf i).toNat)
  case atStart => exact ⟨0, Nat.zero_le _, rfl, hid (by have := HO1.out; unfold fillC; simpa using this), HB1⟩
  case round =>
    clear HO1 HB1 c0 c1
    obtain ⟨k, hk, rfl, hown, hbr⟩ := hrel
    obtain ⟨W, hW⟩ : ∃ W, W = wr := ⟨_, rfl⟩
    subst hW
    by_cases hlt : k < nN
    · obtain ⟨cq, hfq⟩ := own_cellN hown.out (fillC_len hk) hlt
      have h3 := own_nat hbr.out hown.out k 1000
      rw [fillC_set hlt] at h3
      have HO3 : Hid _ := hid h3.1
      have HB3 : Hid _ := hid h3.2
      clear h3
      go_wp2
      go_roundw
      case rel => exact ⟨k + 1, by omega, by go_num, HO3, HB3⟩
      case measure => simp [intOf]; omega
    · have HO4 : Hid (W.ownsRow b0 3 1 (.slice (some ⟨b0, 0, none⟩) nN nN) nN (nats (List.replicate nN 1000))) := hid (by
        have h1 := hown.out
        rw [show k = nN by omega] at h1
        unfold fillC at h1
        rw [Nat.sub_self] at h1
        simpa using h1)
      clear hown
      go_wp2
      go_loopw [5] (fun i wr => ∃ (k : Nat) (l : List Nat), k ≤ nN + 1 ∧ i = .int .i64 k ∧ Hid (iter (cRound (ngM m)) (nN + 1 - k) l = cheapN (ngM m)) ∧ Hid (l.length = nN) ∧ Hid (∀ n, lAt l n ≤ 1000) ∧
        Hid (wr.ownsRow b0 3 1 (.slice (some ⟨b0, 0, none⟩) nN nN) nN (nats l)) ∧ Hid (Below b0 w wr)) (fun i _ => nN + 1 - (intOf i).toNat)
      case atStart => exact ⟨0, _, Nat.zero_le _, rfl, hid (by unfold cheapN; show _ = iter (cRound (ngM m)) (m.rules.length + 1) (List.replicate m.rules.length 1000); rw [← H1.out]; rfl), hid (by simp), hid (fun n => by unfold lAt; rw [List.getD_eq_getElem?_getD, List.getElem?_replicate]; split <;> simp), HO4, hbr⟩
      case round =>
        clear HO4 hbr
        obtain ⟨k, l, hk, rfl, hit, hkl, hle, hown, hbr⟩ := hrel
        obtain ⟨W, hW⟩ : ∃ W, W = wr := ⟨_, rfl⟩
        subst hW
        by_cases hlt : k ≤ nN
        · have HI : Hid (iter (cRound (ngM m)) (nN - k) (cRound (ngM m) l) = cheapN (ngM m)) := hid (by
            have h1 := hit.out
            rw [show nN + 1 - k = (nN - k) + 1 by omega] at h1
            exact h1)
          clear hit
          go_wp2
          go_loopw [6] (fun i wr => ∃ (j : Nat) (l' : List Nat), j ≤ nN ∧ i = .int .i64 j ∧ Hid (restF (ngM m) l' (m.rules.zipIdx.drop j) = cRound (ngM m) l) ∧ Hid (l'.length = nN) ∧ Hid (∀ n, lAt l' n ≤ 1000) ∧
              Hid (wr.ownsRow b0 3 1 (.slice (some ⟨b0, 0, none⟩) nN nN) nN (nats l')) ∧ Hid (Below b0 w wr)) (fun i _ => nN - (intOf i).toNat)
          case atStart => exact ⟨0, l, Nat.zero_le _, rfl, hid (restF_round m l), hkl, hle, hown, hbr⟩
          case round =>
            clear hown hbr hkl hle
            obtain ⟨j, l1, hj, rfl, hit, hkl, hle, hown, hbr⟩ := hrel
            obtain ⟨W, hW⟩ : ∃ W, W = wr := ⟨_, rfl⟩
            subst hW
            by_cases hlj : j < nN
            · obtain ⟨rs, hrs⟩ : ∃ rs, m.rules[j]? = some rs := ⟨_, List.getElem?_eq_getElem (by rw [← H1.out]; exact hlj)⟩
              have hcr := (HG.out.c1 rs (mk_mem hrs).2).2
              rw [← H2.out] at hcr
              have HRS : Hid (m.rules[j]? = some rs) := hid hrs
              obtain ⟨nR, hnR⟩ : ∃ n, n = rs.length := ⟨_, rfl⟩
              have HNR : Hid (nR = rs.length) := hid hnR
              rw [← hnR] at hcr
              obtain ⟨L2, hL2⟩ : ∃ L, L = nameF (ngM m) j l1 rs := ⟨_, rfl⟩
              have HL2 : Hid (L2 = nameF (ngM m) j l1 rs) := hid hL2
              have HIt : Hid (restF (ngM m) L2 (m.rules.zipIdx.drop (j + 1)) = cRound (ngM m) l) := hid (by
                have h1 := hit.out
                have h2 : m.rules.zipIdx[j]? = some (rs, j) := by rw [List.getElem?_zipIdx, hrs]; simp
                rw [drop_cons h2] at h1
                rw [hL2]
                exact h1)
              have HCel : Hid (∀ W, Below b0 w W → ∃ gn cn, W.cell? ⟨gR, j, none⟩ = some (.slice (some ⟨gn, 0, none⟩) nR cn) ∧ nR ≤ cn ∧ ∀ k, k < nR → ∃ y, W.cell? ⟨gn, k, none⟩ = some y ∧ RuleV W b0 rs k y) := hid fun W hb => by
                obtain ⟨x, h1, rs', h2, g, cap, h3, h4, _, h5⟩ := (HC.out W hb).2.2.2.1 j hlj
                rw [hrs] at h2
                injection h2 with h2
                subst h2
                rw [h3, ← hnR] at h1
                rw [← hnR] at h4
                exact ⟨g, cap, h1, h4, fun k hk => h5 k (by rw [← hnR]; exact hk)⟩
              clear hrs hnR hL2 hit
              go_wp2
              go_loopw [7] (fun i wr => ∃ (q : Nat) (l' : List Nat), q ≤ nR ∧ i = .int .i64 q ∧ Hid (nameF (ngM m) j l' (rs.drop q) = L2) ∧ Hid (l'.length = nN) ∧ Hid (∀ n, lAt l' n ≤ 1000) ∧
                  Hid (wr.ownsRow b0 3 1 (.slice (some ⟨b0, 0, none⟩) nN nN) nN (nats l')) ∧ Hid (Below b0 w wr)) (fun i _ => nR - (intOf i).toNat)
              case atStart => exact ⟨0, l1, Nat.zero_le _, rfl, hid HL2.out.symm, hkl, hle, hown, hbr⟩
              case round =>
                clear hown hbr hkl hle
                obtain ⟨q, l2, hq, rfl, hit, hkl, hle, hown, hbr⟩ := hrel
                obtain ⟨W, hW⟩ : ∃ W, W = wr := ⟨_, rfl⟩
                subst hW
                obtain ⟨c0, c1, _, _, _⟩ := HC.out _ hbr.out
                obtain ⟨gn, cn, c2, hcn, hrk⟩ := HCel.out _ hbr.out
                by_cases hlq : q < nR
                · obtain ⟨r, hr⟩ : ∃ r, rs[q]? = some r := ⟨_, List.getElem?_eq_getElem (by rw [← HNR.out]; exact hlq)⟩
                  obtain ⟨np, hnp⟩ : ∃ n, n = r.length := ⟨_, rfl⟩
                  have HNP : Hid (np = r.length) := hid hnp
                  have hnp5 : np ≤ 5 := by rw [hnp]; exact (HG.out.head rs (mk_mem HRS.out).2 q r hr).2
                  have HPO : Hid (∀ p ∈ r, partOk m.puts.length m.rules.length p) := hid (HG.out.part rs (mk_mem HRS.out).2 r (by obtain ⟨h1, h2⟩ := List.getElem?_eq_some_iff.1 hr; exact h2 ▸ List.getElem_mem h1))
                  obtain ⟨S, hS⟩ : ∃ S, S = sumF (ngM m) (lAt l2) r := ⟨_, rfl⟩
                  have HSS : Hid (S = sumF (ngM m) (lAt l2) r) := hid hS
                  have HIt2 : Hid (nameF (ngM m) j (cStep (ngM m) l2 (j, r)) (rs.drop (q + 1)) = L2) := hid (by
                    have h1 := hit.out
                    rw [drop_cons hr] at h1
                    exact h1)
                  have HRl : Hid (∀ W, Below b0 w W → ∃ gr cr, (∀ gn cn, W.cell? ⟨gR, j, none⟩ = some (.slice (some ⟨gn, 0, none⟩) nR cn) → W.cell? ⟨gn, q, none⟩ = some (.slice (some ⟨gr, 0, none⟩) np cr)) ∧ np ≤ cr ∧ ∀ p, p < np → ∃ a, r[p]? = some a ∧ W.cell? ⟨gr, p, none⟩ = some (.string (wordP a))) := hid fun W hb => by
                    obtain ⟨gn, cn, h1, _, h2⟩ := HCel.out W hb
                    obtain ⟨y, h3, r', h4, g, cap, h5, h6, _, h7⟩ := h2 q hlq
                    rw [hr] at h4
                    injection h4 with h4
                    subst h4
                    rw [h5, ← hnp] at h3
                    rw [← hnp] at h6
                    refine ⟨g, cap, fun gn' cn' h8 => ?_, h6, fun p hp => ?_⟩
                    · rw [h1] at h8
                      injection h8 with h8
                      injection h8 with h8 _ _
                      injection h8 with h8
                      injection h8 with h8 _ _
                      rw [← h8]
                      exact h3
                    · obtain ⟨z, h8, a, h9, h10⟩ := h7 p (by rw [← hnp]; exact hp)
                      rw [h10] at h8
                      exact ⟨a, h9, h8⟩
                  clear hr hnp hS hit hrk
                  go_wp2
                  clear c0 c1 c2 hcn
                  go_loopw [8, 9] (fun s i wr => ∃ (p t : Nat), p ≤ np ∧ i = .int .i64 p ∧ s = .int .i64 t ∧ t ≤ 1000 * p ∧ Hid (t + sumF (ngM m) (lAt l2) (r.drop p) = S) ∧
                      Hid (wr.ownsRow b0 3 1 (.slice (some ⟨b0, 0, none⟩) nN nN) nN (nats l2)) ∧ Hid (Below b0 w wr)) (fun _ i _ => np - (intOf i).toNat)
                  case atStart => exact ⟨0, 0, Nat.zero_le _, rfl, rfl, Nat.zero_le _, hid (by rw [HSS.out, Nat.zero_add]; rfl), hown, hbr⟩
                  case round =>
                    clear hown hbr
                    obtain ⟨p, t, hp, rfl, rfl, ht, hsum, hown, hbr⟩ := hrel
                    obtain ⟨W2, hW⟩ : ∃ W, W = wr := ⟨_, rfl⟩
                    subst hW
                    obtain ⟨c0, c1, _, _, hpt⟩ := HC.out _ hbr.out
                    obtain ⟨gn, cn, c2, hcn, _⟩ := HCel.out _ hbr.out
                    obtain ⟨gr, cr, c3, hcr2, hws⟩ := HRl.out _ hbr.out
                    have c3 := c3 gn cn c2
                    have hsz : b0 ≤ W2.heap.size := by have := hbr.out.size; have := H0.out; omega
                    by_cases hlp : p < np
                    · obtain ⟨a, ha, c4⟩ := hws p hlp
                      have HL : Hid (r.drop p = a :: r.drop (p + 1)) := hid (drop_cons ha)
                      have hmem := List.mem_of_getElem? ha
                      have hpo := HPO.out a hmem
                      cases a with
                      | tok u =>
                        have hu : u < nT := by rw [H2.out]; exact hpo
                        have hput := (HG.out.put_at (t := u) (by rw [← H2.out]; exact hu)).2
                        have cu := hpt u hu
                        obtain ⟨pu, hpu⟩ : ∃ pu, pu = m.puts.getD u 0 := ⟨_, rfl⟩
                        rw [← hpu] at cu hput
                        have HS : Hid (t + pu + sumF (ngM m) (lAt l2) (r.drop (p + 1)) = S) := hid (by
                          have h1 := hsum.out
                          rw [HL.out] at h1
                          have h2 : t + (m.puts.getD u 0 + sumF (ngM m) (lAt l2) (r.drop (p + 1))) = S := h1
                          rw [← hpu] at h2
                          omega)
                        have CN : Hid (∀ n, Calls Tryz.prog 45 #[.string (letB u)] (W2.drewN n) fun e w' => e = .returned (.int .i64 u) ∧ w' = W2.drewN n) := hid fun n => (number_any u (by omega) _).mono fun _ _ h => ⟨h.1, h.2.symm⟩
                        have c5 : W2.cell? ⟨gr, p, none⟩ = some (.string (letB u)) := c4
                        have q1 := let_geA u (by omega)
                        have q2 := let_leD u (by omega)
                        have q3 := let_neD u (by omega)
                        clear hsum HL hmem hpo c4 hpt hws hpu ha
                        go_wp2
                        go_quiet ((go_at_call 45; exact (CN.out _).mono fun _ _ h => ⟨h.1, _, h.2⟩))
                        go_wp2
                        go_roundw
                        case rel => exact ⟨p + 1, t + pu, by omega, by go_num, by go_num, by omega, HS, hid (own_keeps hown.out (Keeps.of_below (below_draws _ _) []) (by simp)), hid (hbr.out.trans ((below_draws _ _).mono hsz))⟩
                        case measure => simp [intOf]; omega
                      | nam u =>
                        have hu : u < nN := by rw [H1.out]; exact hpo
                        obtain ⟨cu, _⟩ := own_cellN hown.out hkl.out hu
                        have hlu := hle.out u
                        obtain ⟨pu, hpu⟩ : ∃ pu, pu = lAt l2 u := ⟨_, rfl⟩
                        rw [← hpu] at cu hlu
                        have HS : Hid (t + pu + sumF (ngM m) (lAt l2) (r.drop (p + 1)) = S) := hid (by
                          have h1 := hsum.out
                          rw [HL.out] at h1
                          have h2 : t + (lAt l2 u + sumF (ngM m) (lAt l2) (r.drop (p + 1))) = S := h1
                          rw [← hpu] at h2
                          omega)
                        have c5 : W2.cell? ⟨gr, p, none⟩ = some (.string (namB u)) := c4
                        have q1 := nam_geA u (by omega)
                        have q2 := nam_leD u (by omega)
                        have q3 := nam_pos u
                        have q4 := nam_at u (by omega)
                        have hu4 : u = 0 ∨ u = 1 ∨ u = 2 ∨ u = 3 := by omega
                        clear hsum HL hmem hpo c4 hpt hws hpu ha
                        rcases hu4 with rfl | rfl | rfl | rfl
                        all_goals
                          rcases q2 with q2 | q2
                        all_goals
                          go_wp2
                          go_roundw
                          case rel => exact ⟨p + 1, t + pu, by omega, by go_num, by go_num, by omega, HS, hown, hbr⟩
                          case measure => simp [intOf]; omega
                    · have hts : t = S := by
                        have h1 := hsum.out
                        rw [List.drop_eq_nil_of_le (by have := HNP.out; omega)] at h1
                        simpa [sumF] using h1
                      subst hts
                      obtain ⟨cu, hfu⟩ := own_cellN hown.out hkl.out hlj
                      have hlu := hle.out j
                      clear hsum hpt hws
                      by_cases hc : t < lAt l2 j
                      · have HS : Hid (nameF (ngM m) j (l2.set j t) (rs.drop (q + 1)) = L2) := hid (by
                          have h1 := HIt2.out
                          rw [cStep_yes (by rw [← HSS.out]; exact hc), ← HSS.out] at h1
                          exact h1)
                        have HLe : Hid (∀ n, lAt (l2.set j t) n ≤ 1000) := hid fun n => by
                          rw [lAt_set]
                          split
                          · omega
                          · exact hle.out n
                        have h3 := own_nat hbr.out hown.out j t
                        have HO3 : Hid _ := hid h3.1
                        have HB3 : Hid _ := hid h3.2
                        obtain ⟨pu, hpu⟩ : ∃ pu, pu = lAt l2 j := ⟨_, rfl⟩
                        rw [← hpu] at cu hc hlu
                        clear hpu h3
                        have hci : (t : Int) < pu := by omega
                        go_wp2
                        go_roundw
                        case rel => exact ⟨q + 1, l2.set j t, by omega, by go_num, HS, hid (by rw [List.length_set]; exact hkl.out), HLe, HO3, HB3⟩
                        case measure => simp [intOf]; omega
                      · have HS : Hid (nameF (ngM m) j l2 (rs.drop (q + 1)) = L2) := hid (by
                          have h1 := HIt2.out
                          rw [cStep_no (by rw [← HSS.out]; exact hc)] at h1
                          exact h1)
                        obtain ⟨pu, hpu⟩ : ∃ pu, pu = lAt l2 j := ⟨_, rfl⟩
                        rw [← hpu] at cu hc hlu
                        clear hpu
                        have hci : ¬ (t : Int) < pu := by omega
                        go_wp2
                        go_roundw
                        case rel => exact ⟨q + 1, l2, by omega, by go_num, HS, hkl, hle, hown, hbr⟩
                        case measure => simp [intOf]; omega
                · have HS : Hid (restF (ngM m) l2 (m.rules.zipIdx.drop (j + 1)) = cRound (ngM m) l) := hid (by
                    have h1 := hit.out
                    rw [List.drop_eq_nil_of_le (by have := HNR.out; omega)] at h1
                    have h2 : l2 = L2 := h1
                    rw [h2]
                    exact HIt.out)
                  clear hrk hit
                  go_wp2
                  go_roundw
                  case rel => exact ⟨j + 1, l2, by omega, by go_num, HS, hkl, hle, hown, hbr⟩
                  case measure => simp [intOf]; omega
            · have HS : Hid (iter (cRound (ngM m)) (nN + 1 - (k + 1)) l1 = cheapN (ngM m)) := hid (by
                have h1 := hit.out
                rw [List.drop_eq_nil_of_le (by rw [List.length_zipIdx]; have := H1.out; omega)] at h1
                have h2 : l1 = cRound (ngM m) l := h1
                rw [h2, show nN + 1 - (k + 1) = nN - k by omega]
                exact HI.out)
              clear hit HI
              go_wp2
              go_roundw
              case rel => exact ⟨k + 1, l1, by omega, by go_num, HS, hkl, hle, hown, hbr⟩
              case measure => simp [intOf]; omega
        · have HS : Hid (l = cheapN (ngM m)) := hid (by
            have h1 := hit.out
            rw [show nN + 1 - k = 0 by omega] at h1
            exact h1)
          clear hit
          go_wp2
          go_ret
          exact ⟨rfl, by rw [← HS.out]; exact hown.out, hbr.out⟩

end Go.Proofs.YtjjggdcnpndgjaaGreatDoor
