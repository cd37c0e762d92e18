/- (*Grammar).first; what Clashes tells. What Clashes has seen, and what it has got of it. Plain. -/
import Derived.Test.YtjjggdcnpndgjaaGreatDoorJWvotes
import Derived.Test.YtjjggdcnpndgjaaGreatDoorJ15
import Derived.Test.YtjjggdcnpndgjaaGreatDoorJ9
namespace Go.Proofs.YtjjggdcnpndgjaaGreatDoor
open Go.RowKit

/-- Whose the i-th rule is; where a name's rules begin. -/
def rnAt (N : NG) (i : Nat) : Nat := (N.rules[i]?.map (·.1)).getD 0
def firstN (N : NG) (n : Nat) : Nat := (N.rules.findIdx? fun q => q.1 == n).getD N.rules.length

theorem firstN_at {N : NG} {n i : Nat} {q : Nat × List Pt} (hq : N.rules[i]? = some q) (h : q.1 = n) (hno : ∀ j, j < i → rnAt N j ≠ n) : firstN N n = i := by
  obtain ⟨hi, e⟩ := List.getElem?_eq_some_iff.1 hq
  have : N.rules.findIdx? (fun q => q.1 == n) = some i := by
    rw [List.findIdx?_eq_some_iff_getElem]
    refine ⟨hi, by rw [e]; simp [h], fun j hj => ?_⟩
    have h2 := hno j hj
    unfold rnAt at h2
    rw [List.getElem?_eq_getElem (by omega)] at h2
    simpa using h2
  unfold firstN
  rw [this]; rfl

theorem firstN_none {N : NG} {n : Nat} (hno : ∀ j, j < N.rules.length → rnAt N j ≠ n) : firstN N n = N.rules.length := by
  have : N.rules.findIdx? (fun q => q.1 == n) = none := by
    rw [List.findIdx?_eq_none_iff]
    intro q hq
    obtain ⟨j, hj, rfl⟩ := List.mem_iff_getElem.1 hq
    have h2 := hno j hj
    unfold rnAt at h2
    rw [List.getElem?_eq_getElem hj] at h2
    simpa using h2
  unfold firstN
  rw [this]; rfl

theorem firstN_le (N : NG) (n : Nat) : firstN N n ≤ N.rules.length := by
  unfold firstN
  cases h : N.rules.findIdx? fun q => q.1 == n with
  | none => simp
  | some i => have := (List.findIdx?_eq_some_iff_getElem.1 h).1; simp; omega

theorem idxB_nth {l : List ByteArray} {x : ByteArray} {n : Nat} (h : idxB l x = n) : n < l.length ∧ (x.toList == (nth l n).toList) = true := by
  rw [idxB_eq] at h
  cases hf : fIdx l x with
  | none => rw [hf] at h; simp only at h; omega
  | some i =>
    rw [hf] at h
    simp only at h
    obtain rfl : i = n := by omega
    have h1 := List.findIdx?_eq_some_iff_getElem.1 hf
    refine ⟨h1.1, ?_⟩
    unfold nth
    rw [List.getD_eq_getElem?_getD, List.getElem?_eq_getElem h1.1]
    have h2 := h1.2.1
    simp only [beq_iff_eq] at h2 ⊢
    exact h2.symm

/-- A rule's name against the n-th name. -/
theorem name_eq {l : List ByteArray} (ho : Once l) {x : ByteArray} {m n : Nat} (h : idxB l x = m) (hn : n < l.length) : (x.toList == (nth l n).toList) = decide (m = n) := by
  obtain ⟨h1, h2⟩ := idxB_nth h
  by_cases e : m = n
  · subst e; rw [h2]; simp
  · rw [decide_eq_false e, beq_eq_false_iff_ne]
    intro e2
    have h3 : l[n]? = some (nth l n) := by unfold nth; rw [List.getD_eq_getElem?_getD, List.getElem?_eq_getElem hn]; rfl
    have h4 := ho n _ h3
    have h5 : fIdx l x = fIdx l (nth l n) := by unfold fIdx; rw [e2]
    rw [idxB_eq, h5, h4] at h
    simp only at h
    omega

set_option maxHeartbeats 1000000 in
set_option maxRecDepth 100000 in
theorem first_any (G : Gr) (N : NG) (hR : Rep G N) (ho : Once G.names) (w : World) (B gb : Nat) (hG : GrAt w B gb G) (n : Nat) (hn : n < N.nN) :
    Calls Tryz.prog 85 #[.pointer (some ⟨gb, 0, none⟩), .int .i64 n] w fun e w' => e = .returned (.int .i64 (firstN N n)) ∧ ∃ q, w' = w.drewN q := by
  obtain ⟨adT, capT, gN, capN, gR, capR, hX⟩ := ctx_of hR hG
  have hnle := hR.leN
  have hrle := hR.leR
  have lN := hX.lN
  have lR := hX.lR
  have hgb := hX.hgb
  have hgN := hX.hgN
  have hgR := hX.hgR
  have c2 := hX.c2
  have c3 := hX.c3
  have cn := hX.nameAt hn
  have HX : Hid (Ctx w B gb G N adT capT gN capN gR capR) := hid hX
  have HO : Hid (Once G.names) := hid ho
  have HNl : Hid (N.nN = G.names.length) := hid hR.nN
  obtain ⟨nN, hn1⟩ : ∃ n, n = N.nN := ⟨_, rfl⟩
  obtain ⟨nR, hn3⟩ : ∃ n, n = N.rules.length := ⟨_, rfl⟩
  rw [← hn1] at hnle lN c2 hn
  rw [← hn3] at hrle lR c3
  have H1 : Hid (nN = N.nN) := hid hn1
  have H3 : Hid (nR = N.rules.length) := hid hn3
  obtain ⟨nm, hnm⟩ : ∃ nm, nm = nth G.names n := ⟨_, rfl⟩
  rw [← hnm] at cn
  have HNm : Hid (nm = nth G.names n) := hid hnm
  clear hX hn1 hn3 hG hR hnm ho
  go_enter Tryz.func85, Tryz.ntmps85
  go_wp2
  go_loopw [5] (fun i wr => ∃ j q : Nat, j ≤ nR ∧ i = .int .i64 j ∧ wr = w.drewN q ∧ Hid (∀ m, m < j → rnAt N m ≠ n)) (fun i _ => nR - (intOf i).toNat)
  case atStart => exact ⟨0, 0, Nat.zero_le _, rfl, rfl, hid (fun m h => by omega)⟩
  case round =>
    obtain ⟨j, q, hj, rfl, rfl, hno⟩ := hrel
    by_cases hlt : j < nR
    · obtain ⟨r, hr⟩ : ∃ r, N.rules[j]? = some r := ⟨_, List.getElem?_eq_getElem (by rw [← H3.out]; exact hlt)⟩
      obtain ⟨rn, ws, adP, capP, d0, d1, _, hix, _⟩ := HX.out.rule j r hr
      have hne := name_eq HO.out hix (n := n) (by rw [← HNl.out, ← H1.out]; exact hn)
      rw [← HNm.out] at hne
      have HRn : Hid (rnAt N j = r.1) := hid (by unfold rnAt; rw [hr]; rfl)
      have HR : Hid _ := hid hr
      clear hr hix d1
      by_cases he : r.1 = n
      · have hb : (rn.toList == nm.toList) = true := by rw [hne, decide_eq_true he]
        have HE : Hid (firstN N n = j) := hid (firstN_at HR.out he hno.out)
        clear hne
        go_wp2
        go_quiet (fail)
        go_wp2
        go_ret
        rw [HE.out]
        exact ⟨rfl, _, World.drewN_drewN ..⟩
      · have hb : (rn.toList == nm.toList) = false := by rw [hne, decide_eq_false he]
        have HE : Hid (∀ m, m < j + 1 → rnAt N m ≠ n) := hid fun m hm => by
          by_cases e : m = j
          · subst e; rw [HRn.out]; exact he
          · exact hno.out m (by omega)
        clear hne
        go_wp2
        go_quiet (fail)
        go_wp2
        go_roundw
        case rel => exact ⟨j + 1, _, by omega, by go_num, by first | rfl | exact World.drewN_drewN .., HE⟩
        case measure => simp [intOf]; omega
    · have HE : Hid (firstN N n = nR) := hid (by
        rw [H3.out]
        exact firstN_none fun m hm => hno.out m (by have := H3.out; omega))
      go_wp2
      go_ret
      rw [HE.out]
      exact ⟨rfl, _, rfl⟩

end Go.Proofs.YtjjggdcnpndgjaaGreatDoor

namespace Go.Proofs.YtjjggdcnpndgjaaGreatDoor
open Go.RowKit

/-- Two rules of one name, and a token that speaks for both. -/
def Clash3 (N : NG) (i k t : Nat) : Prop := i < k ∧ k < N.rules.length ∧ t ≤ N.nT ∧ rnAt N i = rnAt N k ∧ bAt (mAt (votesN N) i) t = true ∧ bAt (mAt (votesN N) k) t = true

def tokE (G : Gr) (N : NG) (t : Nat) : ByteArray := if t < N.nT then tokW G.toks t else ByteArray.empty

def HitT (G : Gr) (N : NG) (pn : ByteArray) (pr po : Int) (pt : ByteArray) (i k t : Nat) : Prop :=
  Clash3 N i k t ∧ (rnAt N i : Int) = idxB G.names pn ∧ pr = (i : Int) - firstN N (rnAt N i) ∧ po = (k : Int) - firstN N (rnAt N i) ∧ (pt.toList == (tokE G N t).toList) = true
def HitA (G : Gr) (N : NG) (pn : ByteArray) (i k t : Nat) : Prop := Clash3 N i k t ∧ (idxB G.names pn < 0 ∨ (rnAt N i : Int) < idxB G.names pn)

def S1 (i : Nat) : Nat → Nat → Nat → Prop := fun x _ _ => x < i
def S2 (i k : Nat) : Nat → Nat → Nat → Prop := fun x y _ => x < i ∨ x = i ∧ y < k
def S3 (i k t : Nat) : Nat → Nat → Nat → Prop := fun x y z => x < i ∨ x = i ∧ (y < k ∨ y = k ∧ z < t)

def Got (S H : Nat → Nat → Nat → Prop) (a : Bool) : Prop := a = true ↔ ∃ x y z, S x y z ∧ H x y z

section
variable {H S S' : Nat → Nat → Nat → Prop} {a : Bool} {i k t n : Nat}

theorem Got.to (h : Got S H a) (h1 : ∀ x y z, S x y z → H x y z → S' x y z) (h2 : ∀ x y z, S' x y z → H x y z → S x y z) : Got S' H a :=
  ⟨fun e => by obtain ⟨x, y, z, hs, hh⟩ := h.1 e; exact ⟨x, y, z, h1 x y z hs hh, hh⟩, fun ⟨x, y, z, hs, hh⟩ => h.2 ⟨x, y, z, h2 x y z hs hh, hh⟩⟩

theorem Got.start : Got (S1 0) H false := ⟨fun e => (by cases e), fun ⟨x, _, _, hs, _⟩ => absurd hs (Nat.not_lt_zero x)⟩
theorem Got.s12 (h : Got (S1 i) H a) (hH : ∀ x y z, H x y z → x < y) : Got (S2 i (i + 1)) H a :=
  h.to (fun _ _ _ hs _ => .inl hs) (fun x y z hs hh => by
    rcases hs with hs | ⟨rfl, hs⟩
    · exact hs
    · have := hH _ _ _ hh; omega)
theorem Got.s21 (h : Got (S2 i n) H a) (hH : ∀ x y z, H x y z → y < n) : Got (S1 (i + 1)) H a :=
  h.to (fun x y z hs _ => by unfold S1; rcases hs with hs | ⟨rfl, _⟩ <;> omega) (fun x y z hs hh => by
    have := hH _ _ _ hh
    unfold S1 at hs
    by_cases e : x = i
    · exact .inr ⟨e, this⟩
    · exact .inl (by omega))
theorem Got.s23 (h : Got (S2 i k) H a) : Got (S3 i k 0) H a :=
  h.to (fun x y z hs _ => by rcases hs with hs | ⟨e, hs⟩; exact .inl hs; exact .inr ⟨e, .inl hs⟩) (fun x y z hs _ => by
    rcases hs with hs | ⟨e, hs | ⟨_, hs⟩⟩
    · exact .inl hs
    · exact .inr ⟨e, hs⟩
    · exact absurd hs (Nat.not_lt_zero _))
theorem Got.s32 (h : Got (S3 i k n) H a) (hH : ∀ x y z, H x y z → z < n) : Got (S2 i (k + 1)) H a :=
  h.to (fun x y z hs _ => by
    rcases hs with hs | ⟨e, hs | ⟨e2, _⟩⟩
    · exact .inl hs
    · exact .inr ⟨e, by omega⟩
    · exact .inr ⟨e, by omega⟩) (fun x y z hs hh => by
    have := hH _ _ _ hh
    rcases hs with hs | ⟨e, hs⟩
    · exact .inl hs
    · by_cases e2 : y = k
      · exact .inr ⟨e, .inr ⟨e2, this⟩⟩
      · exact .inr ⟨e, .inl (by omega)⟩)
theorem Got.skip (h : Got (S2 i k) H a) (hH : ∀ z, ¬ H i k z) : Got (S2 i (k + 1)) H a :=
  h.to (fun x y z hs _ => by
    rcases hs with hs | ⟨e, hs⟩
    · exact .inl hs
    · exact .inr ⟨e, by omega⟩) (fun x y z hs hh => by
    rcases hs with hs | ⟨rfl, hs⟩
    · exact .inl hs
    · by_cases e2 : y = k
      · subst e2; exact absurd hh (hH z)
      · exact .inr ⟨rfl, by omega⟩)
theorem Got.no (h : Got (S3 i k t) H a) (hH : ¬ H i k t) : Got (S3 i k (t + 1)) H a :=
  h.to (fun x y z hs _ => by
    rcases hs with hs | ⟨e, hs | ⟨e2, hs⟩⟩
    · exact .inl hs
    · exact .inr ⟨e, .inl hs⟩
    · exact .inr ⟨e, .inr ⟨e2, by omega⟩⟩) (fun x y z hs hh => by
    rcases hs with hs | ⟨rfl, hs | ⟨rfl, hs⟩⟩
    · exact .inl hs
    · exact .inr ⟨rfl, .inl hs⟩
    · by_cases e2 : z = t
      · subst e2; exact absurd hh hH
      · exact .inr ⟨rfl, .inr ⟨rfl, by omega⟩⟩)
theorem Got.yes (hH : H i k t) : Got (S3 i k (t + 1)) H true := ⟨fun _ => ⟨i, k, t, .inr ⟨rfl, .inr ⟨rfl, by omega⟩⟩, hH⟩, fun _ => rfl⟩
theorem Got.all (h : Got (S3 i k t) H true) : Got (S3 i k (t + 1)) H true := ⟨fun _ => by
  obtain ⟨x, y, z, hs, hh⟩ := h.1 rfl
  refine ⟨x, y, z, ?_, hh⟩
  rcases hs with hs | ⟨e, hs | ⟨e2, hs⟩⟩
  · exact .inl hs
  · exact .inr ⟨e, .inl hs⟩
  · exact .inr ⟨e, .inr ⟨e2, by omega⟩⟩, fun _ => rfl⟩
theorem Got.done (h : Got (S1 n) H a) (hH : ∀ x y z, H x y z → x < n) : a = true ↔ ∃ x y z, H x y z :=
  ⟨fun e => by obtain ⟨x, y, z, _, hh⟩ := h.1 e; exact ⟨x, y, z, hh⟩, fun ⟨x, y, z, hh⟩ => h.2 ⟨x, y, z, hH x y z hh, hh⟩⟩
end

theorem votesN_at {N : NG} {i : Nat} (hi : i < N.rules.length) : ∃ r, (votesN N)[i]? = some r ∧ r.length = N.nT + 1 ∧ mAt (votesN N) i = r := by
  have h1 : ∃ r, (votesN N)[i]? = some r ∧ r.length = N.nT + 1 := by
    unfold votesN
    rw [List.getElem?_map, List.getElem?_eq_getElem hi]
    exact ⟨_, rfl, by unfold voteRow; simp⟩
  obtain ⟨r, h2, h3⟩ := h1
  exact ⟨r, h2, h3, by unfold mAt; rw [List.getD_eq_getElem?_getD, h2]; rfl⟩

/-- The votes, as their cells lie. -/
theorem VtV.cells {w : World} {B : Nat} {v : Value} {N : NG} {pvs : List Value} (h : VtV w B v (votesN N) pvs) (hp : 0 < N.rules.length) :
    ∃ gv cv, v = .slice (some ⟨gv, 0, none⟩) N.rules.length cv ∧ N.rules.length ≤ cv ∧ gv < w.heap.size ∧ ∀ i, i < N.rules.length → ∃ gi ci, w.cell? ⟨gv, i, none⟩ = some (.slice (some ⟨gi, 0, none⟩) (N.nT + 1) ci) ∧ N.nT + 1 ≤ ci ∧ gi < w.heap.size ∧ ∀ t, t < N.nT + 1 → w.cell? ⟨gi, t, none⟩ = some (.bool (bAt (mAt (votesN N) i) t)) := by
  have hl : (votesN N).length = N.rules.length := by unfold votesN; simp
  have hrow := h.row
  rw [hl] at hrow
  obtain ⟨gv, cv, rfl, _, hlt, hc⟩ := owned_shape hrow hp
  refine ⟨gv, cv, rfl, hc, hlt, fun i hi => ?_⟩
  obtain ⟨r, hr, hrl, hm⟩ := votesN_at hi
  have hpl : pvs.length = N.rules.length := by have := hrow.1; omega
  obtain ⟨p, hpv⟩ : ∃ p, pvs[i]? = some p := ⟨_, List.getElem?_eq_getElem (by omega)⟩
  have he := h.each i r p hr hpv
  rw [hrl] at he
  obtain ⟨gi, ci, rfl, _, hgi, hci⟩ := owned_shape he (by omega)
  refine ⟨gi, ci, by rw [hrow.cellAt i (by omega)]; exact hpv, hci, hgi, fun t ht => ?_⟩
  rw [he.cellAt t (by omega), hm]
  exact bools_at (by rw [hrl]; exact ht)

end Go.Proofs.YtjjggdcnpndgjaaGreatDoor
