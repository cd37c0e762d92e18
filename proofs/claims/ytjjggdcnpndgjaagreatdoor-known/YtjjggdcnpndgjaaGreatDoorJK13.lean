/- darnkeep.build, walked. -/
import Derived.Test.YtjjggdcnpndgjaaGreatDoorJ22
import Derived.Test.YtjjggdcnpndgjaaGreatDoorJ11
import Derived.Test.YtjjggdcnpndgjaaGreatDoorJ13
import Derived.Test.YtjjggdcnpndgjaaGreatDoorJ16
import Derived.Deep.DeepCutAuto
import Derived.Deep.RegionWith
namespace Go.Proofs.YtjjggdcnpndgjaaGreatDoor
open Go.RowKit Go.Shelf Go.WideMaps Go.Maps

theorem Tryz.infoC3 : (Tryz.prog.info? 3).map (fun i => (i.zero, i.size, i.bytes)) = some (some (.int .i64 0), 1, 8) := by kernel_rfl
theorem Tryz.infoC45 : (Tryz.prog.info? 45).map (fun i => (i.zero, i.size, i.bytes)) = some (some (.slice none 0 0), 1, 24) := by kernel_rfl
theorem Tryz.infoC9 : (Tryz.prog.info? 9).map (fun i => (i.zero, i.size, i.bytes)) = some (some (.string ByteArray.empty), 1, 16) := by kernel_rfl
theorem Tryz.infoC39 : (Tryz.prog.info? 39).map (fun i => (i.zero, i.size, i.bytes)) = some (some (.slice none 0 0), 1, 24) := by kernel_rfl
theorem Tryz.infoC46 : (Tryz.prog.info? 46).map (fun i => (i.zero, i.size, i.bytes)) = some (some (.slice none 0 0), 1, 24) := by kernel_rfl

/-- The costs that build has chosen for so many tokens. -/
structure TokP (T k : Nat) (pu dr : List Nat) (sw : List (List Nat)) : Prop where
  pl : pu.length = k
  dl : dr.length = k
  sl : sw.length = k
  p1 : ∀ x ∈ pu, 1 ≤ x ∧ x ≤ 9
  d1 : ∀ x ∈ dr, 1 ≤ x ∧ x ≤ 9
  s1 : ∀ r ∈ sw, ∀ x ∈ r, x ≤ 9
  sd : ∀ (i : Nat) r, sw[i]? = some r → r.length = T ∧ r.getD i 0 = 0

/-- The names that build has made, as far as it has come: n of NN. -/
structure NamP (T NN n : Nat) (L : List (List (List Pt))) : Prop where
  len : L.length = n
  c1 : ∀ rs ∈ L, 2 ≤ rs.length ∧ rs.length ≤ T
  head : ∀ rs ∈ L, ∀ (k : Nat) r, rs[k]? = some r → r.head? = some (.tok k) ∧ r.length ≤ 5
  part : ∀ rs ∈ L, ∀ r ∈ rs, ∀ p ∈ r, partOk T NN p
  last : ∀ rs ∈ L, ∀ r, rs.getLast? = some r → ∀ p ∈ r, ∃ t, p = .tok t
  reach : ∀ (m : Nat) rs, L[m]? = some rs → m + 1 < NN → ∃ r, rs[0]? = some r ∧ .nam (m + 1) ∈ r

/-- The rules of one name, as far as build has come: k of cnt. -/
structure RulP (T NN n cnt k : Nat) (rs : List (List Pt)) : Prop where
  len : rs.length = k
  head : ∀ (i : Nat) r, rs[i]? = some r → r.head? = some (.tok i) ∧ r.length ≤ 5
  part : ∀ r ∈ rs, ∀ p ∈ r, partOk T NN p
  last : ∀ (i : Nat) r, rs[i]? = some r → i + 1 = cnt → ∀ p ∈ r, ∃ t, p = .tok t
  reach : ∀ r, rs[0]? = some r → 1 < cnt → n + 1 < NN → .nam (n + 1) ∈ r

/-- A rule, as far as build has come: p parts behind its token. -/
structure RowP (T NN cnt k p : Nat) (r : List Pt) : Prop where
  len : r.length = p + 1
  head : r.head? = some (.tok k)
  part : ∀ q ∈ r, partOk T NN q
  last : k + 1 = cnt → ∀ q ∈ r, ∃ t, q = .tok t

theorem RulP.add {T NN n cnt k : Nat} {rs : List (List Pt)} (h : RulP T NN n cnt k rs) {r : List Pt} (hr : r.head? = some (.tok k)) (h5 : r.length ≤ 5) (hp : ∀ q ∈ r, partOk T NN q) (hl : k + 1 = cnt → ∀ q ∈ r, ∃ t, q = .tok t) (hre : k = 0 → 1 < cnt → n + 1 < NN → .nam (n + 1) ∈ r) : RulP T NN n cnt (k + 1) (rs ++ [r]) where
  len := by rw [List.length_append, h.len]; rfl
  head := fun i q hq => by
    by_cases hi : i < rs.length
    · rw [List.getElem?_append_left hi] at hq; exact h.head i q hq
    · rw [List.getElem?_append_right (by omega)] at hq
      obtain ⟨hl2, e⟩ := List.getElem?_eq_some_iff.1 hq
      simp only [List.length_singleton] at hl2
      have : i = k := by have := h.len; omega
      subst this
      simp only [List.getElem_singleton] at e
      subst e
      exact ⟨hr, h5⟩
  part := fun q hq => by
    rcases List.mem_append.1 hq with hq | hq
    · exact h.part q hq
    · rw [List.mem_singleton.1 hq]; exact hp
  last := fun i q hq hc => by
    by_cases hi : i < rs.length
    · rw [List.getElem?_append_left hi] at hq; exact h.last i q hq hc
    · rw [List.getElem?_append_right (by omega)] at hq
      obtain ⟨hl2, e⟩ := List.getElem?_eq_some_iff.1 hq
      simp only [List.length_singleton] at hl2
      have : i = k := by have := h.len; omega
      subst this
      simp only [List.getElem_singleton] at e
      subst e
      exact hl hc
  reach := fun q hq hc hn => by
    have hlen := h.len
    cases rs with
    | nil =>
      simp only [List.nil_append, List.getElem?_cons_zero, Option.some.injEq] at hq
      subst hq
      exact hre (by simpa using hlen.symm) hc hn
    | cons a l => exact h.reach q (by simpa using hq) hc hn

theorem NamP.add {T NN n cnt : Nat} {L : List (List (List Pt))} {rs : List (List Pt)} (h : NamP T NN n L) (hr : RulP T NN n cnt cnt rs) (h2 : 2 ≤ cnt) (hT : cnt ≤ T) : NamP T NN (n + 1) (L ++ [rs]) where
  len := by rw [List.length_append, h.len]; rfl
  c1 := fun q hq => by
    rcases List.mem_append.1 hq with hq | hq
    · exact h.c1 q hq
    · rw [List.mem_singleton.1 hq, hr.len]; exact ⟨h2, hT⟩
  head := fun q hq => by
    rcases List.mem_append.1 hq with hq | hq
    · exact h.head q hq
    · rw [List.mem_singleton.1 hq]; exact hr.head
  part := fun q hq => by
    rcases List.mem_append.1 hq with hq | hq
    · exact h.part q hq
    · rw [List.mem_singleton.1 hq]; exact hr.part
  last := fun q hq a ha => by
    rcases List.mem_append.1 hq with hq | hq
    · exact h.last q hq a ha
    · rw [List.mem_singleton.1 hq] at ha
      rw [List.getLast?_eq_getElem?] at ha
      exact hr.last _ a ha (by have := hr.len; omega)
  reach := fun m q hq hm => by
    by_cases hi : m < L.length
    · rw [List.getElem?_append_left hi] at hq; exact h.reach m q hq hm
    · rw [List.getElem?_append_right (by omega)] at hq
      obtain ⟨hl2, e⟩ := List.getElem?_eq_some_iff.1 hq
      simp only [List.length_singleton] at hl2
      have : m = n := by have := h.len; omega
      subst this
      simp only [List.getElem_singleton] at e
      subst e
      obtain ⟨r, hr0⟩ : ∃ r, rs[0]? = some r := ⟨_, List.getElem?_eq_getElem (by rw [hr.len]; omega)⟩
      exact ⟨r, hr0, hr.reach r hr0 (by omega) hm⟩

theorem pre_all {T NN n : Nat} {pu dr : List Nat} {sw : List (List Nat)} {L : List (List (List Pt))} (h : NamP T NN n L) (ht : TokP T T pu dr sw) (hT : 2 ≤ T ∧ T ≤ 6) (hN : NN ≤ 4) (hn : n ≤ NN) (h1 : 1 ≤ n) : Mk.Pre ⟨pu, dr, sw, L⟩ NN where
  t2 := by show 2 ≤ pu.length; rw [ht.pl]; exact hT.1
  t6 := by show pu.length ≤ 6; rw [ht.pl]; exact hT.2
  dl := by show dr.length = pu.length; rw [ht.pl, ht.dl]
  sl := by show sw.length = pu.length; rw [ht.pl, ht.sl]
  srow := fun r hr => by
    obtain ⟨i, hi, rfl⟩ := List.mem_iff_getElem.1 hr
    show _ = pu.length
    rw [ht.pl]
    exact (ht.sd i _ (List.getElem?_eq_getElem hi)).1
  p1 := ht.p1
  d1 := ht.d1
  s1 := ht.s1
  sdiag := fun i r hr => (ht.sd i r hr).2
  n1 := by show 1 ≤ L.length; rw [h.len]; exact h1
  nN := by show L.length ≤ NN; rw [h.len]; exact hn
  n4 := hN
  c1 := fun rs hrs => by have := h.c1 rs hrs; show 1 ≤ rs.length ∧ rs.length ≤ pu.length; rw [ht.pl]; omega
  head := h.head
  part := fun rs hrs r hr p hp => by show partOk pu.length NN p; rw [ht.pl]; exact h.part rs hrs r hr p hp
  last := h.last
  reach := fun m rs hm hl => h.reach m rs hm (by have hl2 : m + 1 < L.length := hl; rw [h.len] at hl2; omega)

theorem pre_one {T NN n : Nat} {pu dr : List Nat} {sw : List (List Nat)} {L : List (List (List Pt))} {rs : List (List Pt)} (h : NamP T NN n L) (ht : TokP T T pu dr sw) (hT : 2 ≤ T ∧ T ≤ 6) (hN : NN ≤ 4) (hn : n < NN) (hr : RulP T NN n 1 1 rs) : Mk.Pre ⟨pu, dr, sw, L ++ [rs]⟩ NN where
  t2 := by show 2 ≤ pu.length; rw [ht.pl]; exact hT.1
  t6 := by show pu.length ≤ 6; rw [ht.pl]; exact hT.2
  dl := by show dr.length = pu.length; rw [ht.pl, ht.dl]
  sl := by show sw.length = pu.length; rw [ht.pl, ht.sl]
  srow := fun r hr => by
    obtain ⟨i, hi, rfl⟩ := List.mem_iff_getElem.1 hr
    show _ = pu.length
    rw [ht.pl]
    exact (ht.sd i _ (List.getElem?_eq_getElem hi)).1
  p1 := ht.p1
  d1 := ht.d1
  s1 := ht.s1
  sdiag := fun i r hr => (ht.sd i r hr).2
  n1 := by show 1 ≤ (L ++ [rs]).length; rw [List.length_append]; simp
  nN := by show (L ++ [rs]).length ≤ NN; rw [List.length_append, h.len]; simp; omega
  n4 := hN
  c1 := fun q hq => by
    show 1 ≤ q.length ∧ q.length ≤ pu.length
    rw [ht.pl]
    rcases List.mem_append.1 hq with hq | hq
    · have := h.c1 q hq; omega
    · rw [List.mem_singleton.1 hq, hr.len]; omega
  head := fun q hq => by
    rcases List.mem_append.1 hq with hq | hq
    · exact h.head q hq
    · rw [List.mem_singleton.1 hq]; exact hr.head
  part := fun q hq r hr' p hp => by
    show partOk pu.length NN p
    rw [ht.pl]
    rcases List.mem_append.1 hq with hq | hq
    · exact h.part q hq r hr' p hp
    · rw [List.mem_singleton.1 hq] at hr'; exact hr.part r hr' p hp
  last := fun q hq a ha => by
    rcases List.mem_append.1 hq with hq | hq
    · exact h.last q hq a ha
    · rw [List.mem_singleton.1 hq] at ha
      rw [List.getLast?_eq_getElem?] at ha
      exact hr.last _ a ha (by have := hr.len; omega)
  reach := fun m q hq hl => by
    have hl2 : m + 1 < (L ++ [rs]).length := hl
    rw [List.length_append, List.length_singleton] at hl2
    have hq : (L ++ [rs])[m]? = some q := hq
    rw [List.getElem?_append_left (by omega)] at hq
    exact h.reach m q hq (by have := h.len; omega)

theorem TokP.add {T k : Nat} {pu dr : List Nat} {sw : List (List Nat)} (h : TokP T k pu dr sw) {x y : Nat} (hx : 1 ≤ x ∧ x ≤ 9) (hy : 1 ≤ y ∧ y ≤ 9) {r : List Nat} (hl : r.length = T) (h9 : ∀ z ∈ r, z ≤ 9) (h0 : r.getD k 0 = 0) : TokP T (k + 1) (pu ++ [x]) (dr ++ [y]) (sw ++ [r]) where
  pl := by rw [List.length_append, h.pl]; rfl
  dl := by rw [List.length_append, h.dl]; rfl
  sl := by rw [List.length_append, h.sl]; rfl
  p1 := fun z hz => by
    rcases List.mem_append.1 hz with hz | hz
    · exact h.p1 z hz
    · rw [List.mem_singleton.1 hz]; exact hx
  d1 := fun z hz => by
    rcases List.mem_append.1 hz with hz | hz
    · exact h.d1 z hz
    · rw [List.mem_singleton.1 hz]; exact hy
  s1 := fun q hq => by
    rcases List.mem_append.1 hq with hq | hq
    · exact h.s1 q hq
    · rw [List.mem_singleton.1 hq]; exact h9
  sd := fun i q hq => by
    by_cases hi : i < sw.length
    · rw [List.getElem?_append_left hi] at hq
      exact h.sd i q hq
    · rw [List.getElem?_append_right (by omega)] at hq
      obtain ⟨hl2, e⟩ := List.getElem?_eq_some_iff.1 hq
      simp only [List.length_singleton] at hl2
      have : i = k := by have := h.sl; omega
      subst this
      simp only [List.getElem_singleton] at e
      subst e
      exact ⟨hl, h0⟩

theorem rep_getD (T k : Nat) : (List.replicate T 0).getD k 0 = 0 := by
  rw [List.getD_eq_getElem?_getD, List.getElem?_replicate]
  split <;> rfl

theorem ints_made (n : Nat) : madeCells (Value.int .i64 0).cells (n * 1) = (ints (List.replicate n 0)).toArray := by
  have h := made_int n
  rw [show madeCells (Value.int .i64 0).cells (n * 1) = madeCells #[.int .i64 0] (n * 1) from rfl, h]
  apply Array.ext'
  apply List.ext_getElem?
  intro i
  simp only [ints, List.getElem?_map, List.getElem?_replicate]
  by_cases hi : i < n
  · simp [hi]
  · simp [hi]

set_option linter.unusedSimpArgs false in
set_option maxHeartbeats 0 in
set_option maxRecDepth 100000 in
theorem build_any (v : Value) (w : World) (hv : RawV w v) :
    Calls Tryz.prog 27 #[v] w fun e w' => ∃ b m, e = .returned (.pointer (some ⟨b, 0, none⟩)) ∧ Mk.Good m ∧ MkV w' w'.heap.size b m ∧ Below w.heap.size w w' := by
  obtain ⟨iI, hiI, hzI0, hzI1, hzI2⟩ := info_parts Tryz.infoC3
  obtain ⟨iJ, hiJ, hzJ0, hzJ1, hzJ2⟩ := info_parts Tryz.infoC45
  obtain ⟨iS, hiS, hzS0, hzS1, hzS2⟩ := info_parts Tryz.infoC9
  obtain ⟨iR, hiR, hzR0, hzR1, hzR2⟩ := info_parts Tryz.infoC39
  obtain ⟨iN, hiN, hzN0, hzN1, hzN2⟩ := info_parts Tryz.infoC46
  have HV : Hid (RawV w v) := hid hv
  clear hv
  go_enter Tryz.func27, Tryz.ntmps27
  go_wp2_with (first
    | (go_at_call_of 66 (Value.int .i64 0); refine (at_any v 0 (by omega) _ (HV.out.below (bal (Below.refl _ _)))).mono ?_; rintro e w' ⟨⟨z0, rfl, hz0⟩, rfl⟩)
    | (go_at_call_of 44 (Value.int .i64 5); refine (pick_any z0 5 (by omega) hz0 _).mono ?_; rintro e w' ⟨⟨tk, htk, rfl⟩, rfl⟩)
    | (go_at_call_of 66 (Value.int .i64 1); refine (at_any v 1 (by omega) _ (HV.out.below (bal (Below.refl _ _)))).mono ?_; rintro e w' ⟨⟨z1, rfl, hz1⟩, rfl⟩)
    | (go_at_call_of 44 (Value.int .i64 4); refine (pick_any z1 4 (by omega) hz1 _).mono ?_; rintro e w' ⟨⟨nm, hnm, rfl⟩, rfl⟩))
  obtain ⟨T, hT⟩ : ∃ T : Nat, (2 + (tk : Int)) = (T : Int) := ⟨2 + tk, by omega⟩
  obtain ⟨NN, hNN⟩ : ∃ n : Nat, (1 + (nm : Int)) = (n : Int) := ⟨1 + nm, by omega⟩
  have hT2 : 2 ≤ T ∧ T ≤ 6 := by omega
  have hN2 : 1 ≤ NN ∧ NN ≤ 4 := by omega
  rw [hT, hNN]
  have HB0 : Hid (Below w.heap.size w (w.alloc (.cells #[.slice none 0 0, .slice none 0 0, .slice none 0 0, .slice none 0 0] 77))) := hid (bal (Below.refl _ _))
  have HT0 : Hid (TokV (w.alloc (.cells #[.slice none 0 0, .slice none 0 0, .slice none 0 0, .slice none 0 0] 77)) w.heap.size w.heap.size T [] [] [] (.slice none 0 0) (.slice none 0 0) (.slice none 0 0) (.slice none 0 0) (fun _ => 0)) :=
    hid ⟨World.alloc_heap_new w _, Nat.le_refl _, World.ownsRow_nil _ _ _ _, World.ownsRow_nil _ _ _ _, World.ownsRow_nil _ _ _ _, fun i r h => by simp at h, fun g h => by simp [Value.ownBlock] at h, fun i h => by simp at h, fun i j h => by simp at h⟩
  clear hT hNN htk hnm hz0 hz1
  go_loopw [6, 7] (fun x i wr => ∃ (k xk : Nat) (pu dr : List Nat) (sw : List (List Nat)) (vP vD vS : Value) (sg : Nat → Nat), k ≤ T ∧ i = .int .i64 k ∧ x = .int .i64 xk ∧ xk ≤ 2 + 4 * k ∧ Hid (TokP T k pu dr sw) ∧ Hid (TokV wr w.heap.size w.heap.size T pu dr sw (.slice none 0 0) vP vD vS sg) ∧ Hid (Below w.heap.size w wr)) (fun _ i _ => T - (intOf i).toNat)
  case atStart => exact ⟨0, 2, [], [], [], _, _, _, _, Nat.zero_le _, rfl, rfl, by omega, hid ⟨rfl, rfl, rfl, fun x h => (by cases h), fun x h => (by cases h), fun x h => (by cases h), fun i r h => (by simp at h)⟩, HT0, HB0⟩
  case round =>
    clear HT0 HB0
    obtain ⟨k, xk, pu, dr, sw, vP, vD, vS, sg, hk, rfl, rfl, hxk, hP, hV, hbr⟩ := hrel
    by_cases hlt : k < T
    · have hsz := hbr.out.size
      have c1 := hV.out.cells.2.1
      have hbw : w.heap.size < wr.heap.size := lt_of_block hV.out.blk
      have hrow := hV.out.puts
      have hpl := hP.out.pl
      rw [hpl] at hrow
      have fB : some w.heap.size ≠ vP.ownBlock := fun e => own_not_block hrow hV.out.blk (by decide) e.symm
      go_wp2
      refine wp_region_last (fun w' => w'.cell? ⟨w.heap.size, 1, none⟩ = some vP) (by kernel_rfl) (by kernel_rfl) c1 (fun hHeld => ?_)
      simp only [cutLast, idle, lastOf]
      refine tkA 0 ?vv43 rfl ?hy43 hHeld ?_
      case hy43 => (intro w hSw; (try dsimp only at hSw); first | (go_simp; done) | (go_simp; with_reducible rfl))
      try simp only [zA, zC, Act.put, zD, zE, zF]
      refine tkA 1 ?vv1 rfl ?hy1 hHeld ?_
      case hy1 => (intro w hSw; (try dsimp only at hSw); first | (go_simp; done) | (go_simp; with_reducible rfl))
      try simp only [zA, zB, zC, Act.put, zD, zE, zF]
      refine tkA 2 ?vv2 rfl ?hy2 hHeld ?_
      case hy2 => (intro w hSw; (try dsimp only at hSw); first | (go_simp; done) | (go_simp; with_reducible rfl))
      try simp only [zA, zB, zC, Act.put, zD, zE, zF]
      refine tkA 3 ?vv3 rfl ?hy3 hHeld ?_
      case hy3 => (intro w hSw; (try dsimp only at hSw); first | (go_simp; done) | (go_simp; with_reducible rfl))
      try simp only [zA, zB, zC, Act.put, zD, zE, zF]
      refine tkA 4 ?vv4 rfl ?hy4 hHeld ?_
      case hy4 => (intro w hSw; (try dsimp only at hSw); first | (go_simp; done) | (go_simp; with_reducible rfl))
      try simp only [zA, zB, zC, Act.put, zD, zE, zF]
      refine tkA 5 ?vv5 rfl ?hy5 hHeld ?_
      case hy5 => (intro w hSw; (try dsimp only at hSw); first | (go_simp; done) | (go_simp; with_reducible rfl))
      try simp only [zA, zB, zC, Act.put, zD, zE, zF]
      refine tkA 6 ?vv6 rfl ?hy6 hHeld ?_
      case hy6 => (intro w hSw; (try dsimp only at hSw); first | (go_simp; done) | (go_simp; with_reducible rfl))
      try simp only [zA, zB, zC, Act.put, zD, zE, zF]
      refine wpAnyH_ready (rs := [7]) (by kernel_rfl) (by simp) ?_
      refine AllReadyH.cons rfl (fun K hK => ?_) AllReadyH.nil
      try simp only [zA, zB, zC]
      go_simp; refine (at_any v xk (by omega) _ (HV.out.below (bdr hbr.out))).mono ?_; rintro e w' ⟨⟨z, rfl, hz⟩, rfl⟩; try dsimp only
      refine hK.out _ _ ?_ (fun hHeld => ?_)
      · exact hHeld
      clear hK K
      try simp only [zA, zB, zC, Act.put, zD, zE, zF]
      refine wpAnyH_ready (rs := [8]) (by kernel_rfl) (by simp) ?_
      refine AllReadyH.cons rfl (fun K hK => ?_) AllReadyH.nil
      try simp only [zA, zB, zC]
      go_simp; refine (pick_any z 9 (by omega) hz _).mono ?_; rintro e w' ⟨⟨r, hr, rfl⟩, rfl⟩; obtain ⟨x, hx⟩ : ∃ x : Nat, x = 1 + r := ⟨_, rfl⟩; have hwr : IntKind.i64.wrap (1 + (r : Int)) = (x : Int) := (by rw [IntKind.wrap_i64]; omega); have hx9 : 1 ≤ x ∧ x ≤ 9 := (by omega); clear hx hr; try dsimp only
      refine hK.out _ _ ?_ (fun hHeld => ?_)
      · exact hHeld
      clear hK K
      try simp only [zA, zB, zC, Act.put, zD, zE, zF]
      refine tkA 9 ?vv7 rfl ?hy7 hHeld ?_
      case hy7 => (intro w hSw; (try dsimp only at hSw); first | (go_simp; done) | (go_simp; with_reducible rfl))
      try simp only [zA, zB, zC, Act.put, zD, zE, zF]
      refine wpAnyH_ready (rs := [10]) (by kernel_rfl) (by simp) ?_
      refine AllReadyH.cons rfl (fun K hK => ?_) AllReadyH.nil
      try simp only [zA, zB, zC]
      go_simp
      refine hK.out _ _ ?_ (fun hHeld => ?_)
      · exact box_alloc _ hHeld
      clear hK K
      try simp only [zA, zB, zC, Act.put, zD, zE, zF]
      refine wpAnyH_ready (rs := [11]) (by kernel_rfl) (by simp) ?_
      refine AllReadyH.cons rfl (fun K hK => ?_) AllReadyH.nil
      try simp only [zA, zB, zC]
      rw [if_pos (by rfl)]; refine wp_append_lies _ (.tmp 36) (.tmp 42) 45 rfl w.heap.size 3 iI (.int .i64 0) 1 8 Tryz.underlying45 hiI hzI0 hzI1 hzI2 rfl (by decide) vP _ _ rfl (hrow.alloc _) ⟨wr.heap.size, 0, none⟩ 1 1 [.int .i64 (x : Int)] rfl rfl (World.news_of_block (fr := (0, 0)) (heap_alloc_new wr _)) (by simp [Value.oneCell']) (by omega) (by unfold maxLen; omega) (by omega) (by simp; omega) _ rfl ?_; intro g' cap' w4 hown hgrow hat hlt'
      refine hK.out _ _ ?_ (fun hHeld => ?_)
      · exact (hgrow.cell_far _ (by simp; omega) (by exact fB)).trans hHeld
      clear hK K
      try simp only [zA, zB, zC, Act.put, zD, zE, zF]
      refine tkA 12 ?vv8 rfl ?hy8 hHeld ?_
      case hy8 => (intro w hSw; (try dsimp only at hSw); first | (go_simp; done) | (go_simp; with_reducible rfl))
      try simp only [zA, zB, zC, Act.put, zD, zE, zF]
      refine tkA 13 ?vv9 rfl ?hy9 hHeld ?_
      case hy9 => (intro w hSw; (try dsimp only at hSw); first | (go_simp; done) | (go_simp; with_reducible rfl))
      try simp only [zA, zB, zC, Act.put, zD, zE, zF]
      refine tkA 14 ?vv39 rfl ?hy39 hHeld ?_
      case hy39 => (intro w hSw; (try dsimp only at hSw); first | (go_simp; done) | (go_simp; with_reducible rfl))
      try simp only [zA, zB, zC, Act.put]
      refine wpAnyH_done (by kernel_rfl) ?_ _
      have hkeep : Keeps wr w4 vP.ownBlock.toList := (((Keeps.refl wr _).alloc (Obj.cells #[.int .i64 (x : Int)] 3)).drew).grown hgrow (fun q hq => .inl (by rw [hq]; simp))
      have hb4 := (hkeep.block w.heap.size hbw (fun hm => fB (mem_own hm).symm)).trans hV.out.blk
      have b14 : w4.cell? ⟨w.heap.size, 1, none⟩ = some vP := block_cell hb4
      have f14 : w4.frozen? ⟨w.heap.size, 1, none⟩ = false := block_free hb4
      have hg' : vP.ownBlock = some g' ∨ wr.heap.size ≤ g' := hat.imp id (fun e => by rw [e]; show wr.heap.size ≤ (wr.alloc _).heap.size; rw [World.size_alloc]; omega)
      have hend := hV.out.addPut (x := x) hkeep hg' (by rw [hpl]; exact hown)
      rw [hpl] at hend
      have HV1 : Hid _ := hid hend
      have HB1 : Hid (Below w.heap.size w (w4.setCell ⟨w.heap.size, 1, none⟩ (.slice (some ⟨g', 0, none⟩) (k + 1) cap'))) := hid ((hbr.out.trans (hkeep.below hsz (own_ge hrow))).setCell (by exact Nat.le_refl _) _)
      have hX9 : Hid (1 ≤ x ∧ x ≤ 9) := hid hx9
      clear hend hkeep hown hgrow hat hlt' hHeld hb4 fB hrow hg' hwr hx9 hz c1 hV hbr
      show wpList _ _ _ _ _ _
      go_wp2
      obtain ⟨W1, hW1⟩ : ∃ W, w4.setCell ⟨w.heap.size, 1, none⟩ (.slice (some ⟨g', 0, none⟩) (k + 1) cap') = W := ⟨_, rfl⟩
      rw [hW1] at HV1 HB1 ⊢
      obtain ⟨vP1, hvP1⟩ : ∃ v, Value.slice (some ⟨g', 0, none⟩) (k + 1) cap' = v := ⟨_, rfl⟩
      rw [hvP1] at HV1 ⊢
      clear hW1 hvP1 b14 f14 hsz hbw
      have hsz := HB1.out.size
      have c1 := HV1.out.cells.2.2.1
      have hbw : w.heap.size < W1.heap.size := lt_of_block HV1.out.blk
      have hrow := HV1.out.drops
      have hdl := hP.out.dl
      rw [hdl] at hrow
      have fB : some w.heap.size ≠ vD.ownBlock := fun e => own_not_block hrow HV1.out.blk (by decide) e.symm
      obtain ⟨y, hy⟩ : ∃ y : Nat, y = xk + 1 := ⟨_, rfl⟩
      have hwx : IntKind.i64.wrap ((xk : Int) + 1) = (y : Int) := by rw [IntKind.wrap_i64]; omega
      have hyb : y ≤ 3 + 4 * k := by omega
      clear hy
      refine wp_region_last (fun w' => w'.cell? ⟨w.heap.size, 2, none⟩ = some vD) (by kernel_rfl) (by kernel_rfl) c1 (fun hHeld => ?_)
      simp only [cutLast, idle, lastOf]
      refine tkA 0 ?vv44 rfl ?hy44 hHeld ?_
      case hy44 => (intro w hSw; (try dsimp only at hSw); first | (go_simp; done) | (go_simp; with_reducible rfl))
      try simp only [zA, zC, Act.put, zD, zE, zF]
      refine tkA 1 ?vv10 rfl ?hy10 hHeld ?_
      case hy10 => (intro w hSw; (try dsimp only at hSw); first | (go_simp; done) | (go_simp; with_reducible rfl))
      try simp only [zA, zB, zC, Act.put, zD, zE, zF]
      refine tkA 2 ?vv11 rfl ?hy11 hHeld ?_
      case hy11 => (intro w hSw; (try dsimp only at hSw); first | (go_simp; done) | (go_simp; with_reducible rfl))
      try simp only [zA, zB, zC, Act.put, zD, zE, zF]
      refine tkA 3 ?vv12 rfl ?hy12 hHeld ?_
      case hy12 => (intro w hSw; (try dsimp only at hSw); first | (go_simp; done) | (go_simp; with_reducible rfl))
      try simp only [zA, zB, zC, Act.put, zD, zE, zF]
      refine tkA 4 ?vv13 rfl ?hy13 hHeld ?_
      case hy13 => (intro w hSw; (try dsimp only at hSw); first | (go_simp; done) | (go_simp; with_reducible rfl))
      try simp only [zA, zB, zC, Act.put, zD, zE, zF]
      refine tkA 5 ?vv14 rfl ?hy14 hHeld ?_
      case hy14 => (intro w hSw; (try dsimp only at hSw); first | (go_simp; done) | (go_simp; with_reducible rfl))
      try simp only [zA, zB, zC, Act.put, zD, zE, zF]
      refine tkA 6 ?vv15 rfl ?hy15 hHeld ?_
      case hy15 => (intro w hSw; (try dsimp only at hSw); first | (go_simp; done) | (go_simp; with_reducible rfl))
      try simp only [zA, zB, zC, Act.put, zD, zE, zF]
      refine tkA 7 ?vv16 rfl ?hy16 hHeld ?_
      case hy16 => (intro w hSw; (try dsimp only at hSw); first | (go_simp; done) | (go_simp; with_reducible rfl))
      try simp only [zA, zB, zC, Act.put, zD, zE, zF]
      refine wpAnyH_ready (rs := [8]) (by kernel_rfl) (by simp) ?_
      refine AllReadyH.cons rfl (fun K hK => ?_) AllReadyH.nil
      try simp only [zA, zB, zC]
      go_simp; refine (at_any v y (by omega) _ (HV.out.below (bdr HB1.out))).mono ?_; rintro e w' ⟨⟨z, rfl, hz⟩, rfl⟩; try dsimp only
      refine hK.out _ _ ?_ (fun hHeld => ?_)
      · exact hHeld
      clear hK K
      try simp only [zA, zB, zC, Act.put, zD, zE, zF]
      refine wpAnyH_ready (rs := [9]) (by kernel_rfl) (by simp) ?_
      refine AllReadyH.cons rfl (fun K hK => ?_) AllReadyH.nil
      try simp only [zA, zB, zC]
      go_simp; refine (pick_any z 9 (by omega) hz _).mono ?_; rintro e w' ⟨⟨r, hr, rfl⟩, rfl⟩; obtain ⟨x2, hx⟩ : ∃ x2 : Nat, x2 = 1 + r := ⟨_, rfl⟩; have hwr : IntKind.i64.wrap (1 + (r : Int)) = (x2 : Int) := (by rw [IntKind.wrap_i64]; omega); have hx9 : 1 ≤ x2 ∧ x2 ≤ 9 := (by omega); clear hx hr; try dsimp only
      refine hK.out _ _ ?_ (fun hHeld => ?_)
      · exact hHeld
      clear hK K
      try simp only [zA, zB, zC, Act.put, zD, zE, zF]
      refine tkA 10 ?vv17 rfl ?hy17 hHeld ?_
      case hy17 => (intro w hSw; (try dsimp only at hSw); first | (go_simp; done) | (go_simp; with_reducible rfl))
      try simp only [zA, zB, zC, Act.put, zD, zE, zF]
      refine wpAnyH_ready (rs := [11]) (by kernel_rfl) (by simp) ?_
      refine AllReadyH.cons rfl (fun K hK => ?_) AllReadyH.nil
      try simp only [zA, zB, zC]
      go_simp
      refine hK.out _ _ ?_ (fun hHeld => ?_)
      · exact box_alloc _ hHeld
      clear hK K
      try simp only [zA, zB, zC, Act.put, zD, zE, zF]
      refine wpAnyH_ready (rs := [12]) (by kernel_rfl) (by simp) ?_
      refine AllReadyH.cons rfl (fun K hK => ?_) AllReadyH.nil
      try simp only [zA, zB, zC]
      rw [if_pos (by rfl)]; refine wp_append_lies _ (.tmp 50) (.tmp 57) 45 rfl w.heap.size 3 iI (.int .i64 0) 1 8 Tryz.underlying45 hiI hzI0 hzI1 hzI2 rfl (by decide) vD _ _ rfl (hrow.alloc _) ⟨W1.heap.size, 0, none⟩ 1 1 [.int .i64 (x2 : Int)] rfl rfl (World.news_of_block (fr := (0, 0)) (heap_alloc_new W1 _)) (by simp [Value.oneCell']) (by omega) (by unfold maxLen; omega) (by omega) (by simp; omega) _ rfl ?_; intro g' cap' w4 hown hgrow hat hlt'
      refine hK.out _ _ ?_ (fun hHeld => ?_)
      · exact (hgrow.cell_far _ (by simp; omega) (by exact fB)).trans hHeld
      clear hK K
      try simp only [zA, zB, zC, Act.put, zD, zE, zF]
      refine tkA 13 ?vv18 rfl ?hy18 hHeld ?_
      case hy18 => (intro w hSw; (try dsimp only at hSw); first | (go_simp; done) | (go_simp; with_reducible rfl))
      try simp only [zA, zB, zC, Act.put, zD, zE, zF]
      refine tkA 14 ?vv19 rfl ?hy19 hHeld ?_
      case hy19 => (intro w hSw; (try dsimp only at hSw); first | (go_simp; done) | (go_simp; with_reducible rfl))
      try simp only [zA, zB, zC, Act.put, zD, zE, zF]
      refine tkA 15 ?vv40 rfl ?hy40 hHeld ?_
      case hy40 => (intro w hSw; (try dsimp only at hSw); first | (go_simp; done) | (go_simp; with_reducible rfl))
      try simp only [zA, zB, zC, Act.put]
      refine wpAnyH_done (by kernel_rfl) ?_ _
      have hkeep : Keeps W1 w4 vD.ownBlock.toList := (((Keeps.refl W1 _).alloc (Obj.cells #[.int .i64 (x2 : Int)] 3)).drew).grown hgrow (fun q hq => .inl (by rw [hq]; simp))
      have hb4 := (hkeep.block w.heap.size hbw (fun hm => fB (mem_own hm).symm)).trans HV1.out.blk
      have b14 : w4.cell? ⟨w.heap.size, 2, none⟩ = some vD := block_cell hb4
      have f14 : w4.frozen? ⟨w.heap.size, 2, none⟩ = false := block_free hb4
      have hg' : vD.ownBlock = some g' ∨ W1.heap.size ≤ g' := hat.imp id (fun e => by rw [e]; show W1.heap.size ≤ (W1.alloc _).heap.size; rw [World.size_alloc]; omega)
      have hend := HV1.out.addDrop (x := x2) hkeep hg' (by rw [hdl]; exact hown)
      rw [hdl] at hend
      have HV2 : Hid _ := hid hend
      have HB2 : Hid (Below w.heap.size w (w4.setCell ⟨w.heap.size, 2, none⟩ (.slice (some ⟨g', 0, none⟩) (k + 1) cap'))) := hid ((HB1.out.trans (hkeep.below hsz (own_ge hrow))).setCell (by exact Nat.le_refl _) _)
      have hX92 : Hid (1 ≤ x2 ∧ x2 ≤ 9) := hid hx9
      clear hend hkeep hown hgrow hat hHeld hb4 fB hrow hg' hwr hx9 hz c1 HV1 HB1 hwx hyb
      show wpList _ _ _ _ _ _
      go_wp2
      obtain ⟨W2, hW2⟩ : ∃ W, w4.setCell ⟨w.heap.size, 2, none⟩ (.slice (some ⟨g', 0, none⟩) (k + 1) cap') = W := ⟨_, rfl⟩
      rw [hW2] at HV2 HB2 ⊢
      obtain ⟨vD1, hvD1⟩ : ∃ v, Value.slice (some ⟨g', 0, none⟩) (k + 1) cap' = v := ⟨_, rfl⟩
      rw [hvD1] at HV2 ⊢
      clear hW2 hvD1 b14 f14 hsz hbw
      have hsz := HB2.out.size
      have c1 := HV2.out.cells.2.2.2
      have hbw : w.heap.size < W2.heap.size := lt_of_block HV2.out.blk
      have hrow := HV2.out.swaps
      have hsl := hP.out.sl
      rw [hsl] at hrow
      have fB : some w.heap.size ≠ vS.ownBlock := fun e => own_not_block hrow HV2.out.blk (by decide) e.symm
      refine wp_region_last (fun w' => w'.cell? ⟨w.heap.size, 3, none⟩ = some vS) (by kernel_rfl) (by kernel_rfl) c1 (fun hHeld => ?_)
      simp only [cutLast, idle, lastOf]
      refine tkA 0 ?vv45 rfl ?hy45 hHeld ?_
      case hy45 => (intro w hSw; (try dsimp only at hSw); first | (go_simp; done) | (go_simp; with_reducible rfl))
      try simp only [zA, zC, Act.put, zD, zE, zF]
      refine tkA 1 ?vv20 rfl ?hy20 hHeld ?_
      case hy20 => (intro w hSw; (try dsimp only at hSw); first | (go_simp; done) | (go_simp; with_reducible rfl))
      try simp only [zA, zB, zC, Act.put, zD, zE, zF]
      refine tkA 2 ?vv21 rfl ?hy21 hHeld ?_
      case hy21 => (intro w hSw; (try dsimp only at hSw); first | (go_simp; done) | (go_simp; with_reducible rfl))
      try simp only [zA, zB, zC, Act.put, zD, zE, zF]
      refine tkA 3 ?vv22 rfl ?hy22 hHeld ?_
      case hy22 => (intro w hSw; (try dsimp only at hSw); first | (go_simp; done) | (go_simp; with_reducible rfl))
      try simp only [zA, zB, zC, Act.put, zD, zE, zF]
      refine tkA 4 ?vv23 rfl ?hy23 hHeld ?_
      case hy23 => (intro w hSw; (try dsimp only at hSw); first | (go_simp; done) | (go_simp; with_reducible rfl))
      try simp only [zA, zB, zC, Act.put, zD, zE, zF]
      refine tkA 5 ?vv24 rfl ?hy24 hHeld ?_
      case hy24 => (intro w hSw; (try dsimp only at hSw); first | (go_simp; done) | (go_simp; with_reducible rfl))
      try simp only [zA, zB, zC, Act.put, zD, zE, zF]
      refine wpAnyH_ready (rs := [6]) (by kernel_rfl) (by simp) ?_
      refine AllReadyH.cons rfl (fun K hK => ?_) AllReadyH.nil
      try simp only [zA, zB, zC]
      rw [if_pos (by rfl)]; refine wp_make_exact _ (.tmp 66) (.tmp 66) 45 rfl 3 iI (.int .i64 0) Tryz.underlying45 hiI hzI0 T rfl rfl (by rw [hzI2]; omega) (by omega) ?_; rw [hzI1]; obtain ⟨X, hX⟩ : ∃ X, W2.drew.alloc (Obj.cells (madeCells (Value.int .i64 0).cells (T * 1)) 3) = X := ⟨_, rfl⟩; rw [hX]; have hXs : X.heap.size = W2.heap.size + 1 := (by rw [← hX, World.size_alloc]; rfl); have hrowX := (by rw [← hX]; exact (own_keeps hrow ((Keeps.refl W2 []).drew.alloc _) (by simp)) : X.ownsRow w.heap.size 45 1 vS k ((List.range k).map fun i => Value.slice (some ⟨sg i, 0, none⟩) T T)); have HXs : Hid (X.heap.size = W2.heap.size + 1) := hid hXs; have hXl : W2.heap.size < X.heap.size := (by omega); have hXw : w.heap.size < X.heap.size := (by omega); clear hXs
      refine hK.out _ _ ?_ (fun hHeld => ?_)
      · exact (by rw [← hX]; exact box_alloc _ hHeld)
      clear hK K
      try simp only [zA, zB, zC, Act.put, zD, zE, zF]
      refine wpAnyH_ready (rs := [7]) (by kernel_rfl) (by simp) ?_
      refine AllReadyH.cons rfl (fun K hK => ?_) AllReadyH.nil
      try simp only [zA, zB, zC]
      go_simp
      refine hK.out _ _ ?_ (fun hHeld => ?_)
      · exact box_alloc _ hHeld
      clear hK K
      try simp only [zA, zB, zC, Act.put, zD, zE, zF]
      refine wpAnyH_ready (rs := [8]) (by kernel_rfl) (by simp) ?_
      refine AllReadyH.cons rfl (fun K hK => ?_) AllReadyH.nil
      try simp only [zA, zB, zC]
      rw [if_pos (by rfl)]; refine wp_append_lies _ (.tmp 65) (.tmp 68) 60 rfl w.heap.size 45 iJ (.slice none 0 0) 1 24 Tryz.underlying60 hiJ hzJ0 hzJ1 hzJ2 rfl (by decide) vS _ _ rfl (hrowX.alloc _) ⟨X.heap.size, 0, none⟩ 1 1 [.slice (some ⟨W2.heap.size, 0, none⟩) T T] rfl rfl (World.news_of_block (fr := (0, 0)) (heap_alloc_new X _)) (by simp [Value.oneCell']) (by omega) (by unfold maxLen; omega) (by omega) (by simp; omega) _ rfl ?_; intro g' cap' w4 hown hgrow hat hlt'
      refine hK.out _ _ ?_ (fun hHeld => ?_)
      · exact (hgrow.cell_far _ (by simp; omega) (by exact fB)).trans hHeld
      clear hK K
      try simp only [zA, zB, zC, Act.put, zD, zE, zF]
      refine tkA 9 ?vv25 rfl ?hy25 hHeld ?_
      case hy25 => (intro w hSw; (try dsimp only at hSw); first | (go_simp; done) | (go_simp; with_reducible rfl))
      try simp only [zA, zB, zC, Act.put, zD, zE, zF]
      refine tkA 10 ?vv26 rfl ?hy26 hHeld ?_
      case hy26 => (intro w hSw; (try dsimp only at hSw); first | (go_simp; done) | (go_simp; with_reducible rfl))
      try simp only [zA, zB, zC, Act.put, zD, zE, zF]
      refine tkA 11 ?vv41 rfl ?hy41 hHeld ?_
      case hy41 => (intro w hSw; (try dsimp only at hSw); first | (go_simp; done) | (go_simp; with_reducible rfl))
      try simp only [zA, zB, zC, Act.put]
      refine wpAnyH_done (by kernel_rfl) ?_ _
      have hkeep1 : Keeps W2 X [] := by rw [← hX]; exact (Keeps.refl W2 []).drew.alloc _
      have hkeep2 : Keeps X w4 vS.ownBlock.toList := ((Keeps.refl X _).alloc _).grown hgrow (fun q hq => .inl (by rw [hq]; simp))
      have hz : X.heap[W2.heap.size]? = some (.cells (ints (List.replicate T 0)).toArray 3 (0, 0)) := by
        rw [← hX, ← ints_made]
        exact World.alloc_heap_new W2.drew _
      have hend := HV2.out.addSwap (cap := cap') hsz (by rw [hsl, List.length_append, hP.out.pl]; simp) hz hkeep1 hkeep2 (by rw [hsl]; exact hown)
      rw [hsl] at hend
      have hkeep := (hkeep1.mono (T := vS.ownBlock.toList) (fun q hq => by cases hq)).trans hkeep2
      have hb4 := (hkeep.block w.heap.size hbw (fun hm => fB (mem_own hm).symm)).trans HV2.out.blk
      have b14 : w4.cell? ⟨w.heap.size, 3, none⟩ = some vS := block_cell hb4
      have f14 : w4.frozen? ⟨w.heap.size, 3, none⟩ = false := block_free hb4
      have HV3 : Hid _ := hid hend
      have HB3 : Hid (Below w.heap.size w (w4.setCell ⟨w.heap.size, 3, none⟩ (.slice (some ⟨g', 0, none⟩) (k + 1) cap'))) := hid ((HB2.out.trans (hkeep.below hsz (own_ge hrow))).setCell (by exact Nat.le_refl _) _)
      have hk5 : k ≤ 5 := by omega
      have hT2T : ((2 * T : Nat) : Int) = 2 * (T : Int) := by omega
      have PK := fun z hz w => pick_any z (2 * T) (by omega) hz w
      rw [hT2T] at PK
      have hx2T : ((xk + 2 : Nat) : Int) = (xk : Int) + 2 := by omega
      have AT := fun w hv => at_any v (xk + 2) (by omega) w hv
      rw [hx2T] at AT
      clear hend hkeep hkeep1 hkeep2 hown hgrow hat hHeld hb4 fB hrow hz c1 HV2 HB2 hX hrowX HXs hXl hXw hT2T hx2T
      show wpList _ _ _ _ _ _
      go_upto_region 12 with (first
        | (go_at_call 66; refine (AT _ (HV.out.below HB3.out)).mono ?_; rintro e w' ⟨⟨z, rfl, hz⟩, rfl⟩)
        | (go_at_call 44; refine (PK z hz _).mono ?_; rintro e w' ⟨⟨j, hj, rfl⟩, rfl⟩))
      obtain ⟨W3, hW3⟩ : ∃ W, w4.setCell ⟨w.heap.size, 3, none⟩ (.slice (some ⟨g', 0, none⟩) (k + 1) cap') = W := ⟨_, rfl⟩
      rw [hW3] at HV3 HB3 ⊢
      obtain ⟨sg3, hsg3⟩ : ∃ f : Nat → Nat, (fun i => if i = k then W2.heap.size else sg i) = f := ⟨_, rfl⟩
      rw [hsg3] at HV3
      have HSL : Hid (sw.length = k) := hid hsl
      clear hW3 hsg3 b14 f14 hsz hbw AT PK hsl hz hpl hdl
      have hrk : (sw ++ [List.replicate T 0])[k]? = some (List.replicate T 0) := by rw [List.getElem?_append_right (by rw [HSL.out]; exact Nat.le_refl _), HSL.out, Nat.sub_self]; rfl
      have c3 := HV3.out.cells.2.2.2
      have hll : (sw ++ [List.replicate T 0]).length = k + 1 := by rw [List.length_append, HSL.out]; rfl
      have cg : W3.cell? ⟨g', k, none⟩ = some (.slice (some ⟨sg3 k, 0, none⟩) T T) := by
        have h1 := HV3.out.swaps
        rw [hll] at h1
        rw [h1.cellAt k (by omega), List.getElem?_map, List.getElem?_range (by omega)]
        rfl
      obtain ⟨hs1, hs2, _⟩ := HV3.out.rows k _ hrk
      have hj9 : Hid (j < 2 * T) := hid hj
      have HRK : Hid _ := hid hrk
      have hgl : g' < W3.heap.size := World.block_lt_of_cell? _ _ cg
      have hsl3 : sg3 k < W3.heap.size := lt_of_block hs1
      have hbl : w.heap.size < W3.heap.size := lt_of_block HV3.out.blk
      clear hll hrk hj
      by_cases hj1 : j < T
      · have hj1i : (j : Int) < (T : Int) := by omega
        by_cases hj2 : j = k
        · subst hj2
          clear c3 cg hs1
          go_wp2
          go_roundw
          case rel => exact ⟨j + 1, xk + 4, _, _, _, _, _, _, _, by omega, by go_num, by go_num, by omega, hid (hP.out.add hX9.out hX92.out (by simp) (fun y hy => by rw [List.eq_of_mem_replicate hy]; omega) (rep_getD T _)), HV3, HB3⟩
          case measure => simp [intOf]; omega
        · have hj2i : ((j : Int) == (k : Int)) = false := by simp; omega
          have cs : W3.cell? ⟨sg3 k, j, none⟩ = some (.int .i64 0) := by
            rw [block_cell hs1]
            simp [ints, hj1]
          have fs : W3.frozen? ⟨sg3 k, j, none⟩ = false := block_free hs1
          have hx3T : ((xk + 3 : Nat) : Int) = (xk : Int) + 3 := by omega
          have AT := fun w hv => at_any v (xk + 3) (by omega) w hv
          rw [hx3T] at AT
          have hTj : (T : Int) ≤ 6 := by omega
          have hkk : (k : Int) < (k : Int) + 1 := by omega
          have HW3 : Hid (IntKind.i64.wrap ((xk : Int) + 3) = (xk : Int) + 3) := hid (by rw [IntKind.wrap_i64]; omega)
          clear hs1 hx3T
          go_upto_region 13 with fail
          refine wp_region_last (fun w' => w'.cell? ⟨w.heap.size, 3, none⟩ = some (.slice (some ⟨g', 0, none⟩) (k + 1) cap') ∧ w'.cell? ⟨g', k, none⟩ = some (.slice (some ⟨sg3 k, 0, none⟩) T T)) (by kernel_rfl) (by kernel_rfl) ⟨c3, cg⟩ (fun hHeld => ?_)
          simp only [cutLast, idle, lastOf]
          refine tkA 0 ?vv46 rfl ?hy46 hHeld ?_
          case hy46 => (intro w hSw; (try dsimp only at hSw); first | (go_simp; done) | (go_simp; with_reducible rfl))
          try simp only [zA, zC, Act.put, zD, zE, zF]
          refine tkA 1 ?vv27 rfl ?hy27 hHeld ?_
          case hy27 => (intro w hSw; (try dsimp only at hSw); first | (go_simp; done) | (go_simp; with_reducible rfl))
          try simp only [zA, zB, zC, Act.put, zD, zE, zF]
          refine tkA 2 ?vv28 rfl ?hy28 hHeld ?_
          case hy28 => (intro w hSw; (try dsimp only at hSw); first | (go_simp; done) | (go_simp; with_reducible rfl))
          try simp only [zA, zB, zC, Act.put, zD, zE, zF]
          refine tkA 3 ?vv29 rfl ?hy29 hHeld ?_
          case hy29 => (intro w hSw; (try dsimp only at hSw); first | (go_simp; done) | (go_simp; with_reducible rfl))
          try simp only [zA, zB, zC, Act.put, zD, zE, zF]
          refine tkA 4 ?vv30 rfl ?hy30 hHeld ?_
          case hy30 => (intro w hSw; (try dsimp only at hSw); first | (go_simp; done) | (go_simp; with_reducible rfl))
          try simp only [zA, zB, zC, Act.put, zD, zE, zF]
          refine tkA 5 ?vv31 rfl ?hy31 hHeld ?_
          case hy31 => (intro w hSw; (try dsimp only at hSw); first | (go_simp; done) | (go_simp; with_reducible rfl))
          try simp only [zA, zB, zC, Act.put, zD, zE, zF]
          refine tkA 6 ?vv32 rfl ?hy32 hHeld ?_
          case hy32 => (intro w hSw; (try dsimp only at hSw); first | (go_simp; done) | (go_simp; with_reducible rfl))
          try simp only [zA, zB, zC, Act.put, zD, zE, zF]
          refine tkA 7 ?vv33 rfl ?hy33 hHeld ?_
          case hy33 => (intro w hSw; (try dsimp only at hSw); first | (go_simp; done) | (go_simp; with_reducible rfl))
          try simp only [zA, zB, zC, Act.put, zD, zE, zF]
          refine tkA 8 ?vv34 rfl ?hy34 hHeld ?_
          case hy34 => (intro w hSw; (try dsimp only at hSw); first | (go_simp; done) | (go_simp; with_reducible rfl))
          try simp only [zA, zB, zC, Act.put, zD, zE, zF]
          refine tkA 9 ?vv35 rfl ?hy35 hHeld ?_
          case hy35 => (intro w hSw; (try dsimp only at hSw); first | (go_simp; done) | (go_simp; with_reducible rfl))
          try simp only [zA, zB, zC, Act.put, zD, zE, zF]
          refine tkA 10 ?vv36 rfl ?hy36 hHeld ?_
          case hy36 => (intro w hSw; (try dsimp only at hSw); first | (go_simp; done) | (go_simp; with_reducible rfl))
          try simp only [zA, zB, zC, Act.put, zD, zE, zF]
          refine wpAnyH_ready (rs := [11]) (by kernel_rfl) (by simp) ?_
          refine AllReadyH.cons rfl (fun K hK => ?_) AllReadyH.nil
          try simp only [zA, zB, zC]
          go_simp; rw [HW3.out]; refine (AT _ (HV.out.below (bdr HB3.out))).mono ?_; rintro e w' ⟨⟨z, rfl, hz⟩, rfl⟩; try dsimp only
          refine hK.out _ _ ?_ (fun hHeld => ?_)
          · exact hHeld
          clear hK K
          try simp only [zA, zB, zC, Act.put, zD, zE, zF]
          refine wpAnyH_ready (rs := [12]) (by kernel_rfl) (by simp) ?_
          refine AllReadyH.cons rfl (fun K hK => ?_) AllReadyH.nil
          try simp only [zA, zB, zC]
          go_simp; refine (pick_any z 9 (by omega) hz _).mono ?_; rintro e w' ⟨⟨r, hr, rfl⟩, rfl⟩; obtain ⟨x3, hx⟩ : ∃ x3 : Nat, x3 = 1 + r := ⟨_, rfl⟩; have hwr : IntKind.i64.wrap (1 + (r : Int)) = (x3 : Int) := (by rw [IntKind.wrap_i64]; omega); have hx9 : x3 ≤ 9 := (by omega); clear hx hr; try dsimp only
          refine hK.out _ _ ?_ (fun hHeld => ?_)
          · exact hHeld
          clear hK K
          try simp only [zA, zB, zC, Act.put, zD, zE, zF]
          refine tkA 13 ?vv37 rfl ?hy37 hHeld ?_
          case hy37 => (intro w hSw; (try dsimp only at hSw); first | (go_simp; done) | (go_simp; with_reducible rfl))
          try simp only [zA, zB, zC, Act.put, zD, zE, zF]
          refine tkA 14 ?vv38 rfl ?hy38 hHeld ?_
          case hy38 => (intro w hSw; (try dsimp only at hSw); first | (go_simp; done) | (go_simp; with_reducible rfl))
          try simp only [zA, zB, zC, Act.put, zD, zE, zF]
          refine tkA 15 ?vv42 rfl ?hy42 hHeld ?_
          case hy42 => (intro w hSw; (try dsimp only at hSw); first | (go_simp; done) | (go_simp; with_reducible rfl))
          try simp only [zA, zB, zC, Act.put]
          refine wpAnyH_done (by kernel_rfl) ?_ _
          clear hHeld
          have h1 := HV3.out.putSwap (j := j) (x := x3) HRK.out
          have hset : (sw ++ [List.replicate T 0]).set k ((List.replicate T 0).set j x3) = sw ++ [(List.replicate T 0).set j x3] := by
            rw [List.set_append_right _ _ (by rw [HSL.out]; exact Nat.le_refl _), HSL.out, Nat.sub_self]
            rfl
          rw [hset] at h1
          clear hset
          have HV5 : Hid _ := hid (h1.below (Below.refl _ _).drew)
          clear h1
          have HB4 : Hid (Below w.heap.size w (W3.setCell ⟨sg3 k, j, none⟩ (.int .i64 (x3 : Int)))) := hid (HB3.out.setCell (by exact hs2) _)
          have hX3 : Hid (x3 ≤ 9) := hid hx9
          clear hwr hx9 hz c3 cg HV3
          show wpList _ _ _ _ _ _
          go_wp2
          go_roundw
          case rel =>
            refine ⟨k + 1, xk + 4, _, _, _, _, _, _, _, by omega, by go_num, by go_num, by omega, hid (hP.out.add hX9.out hX92.out (r := (List.replicate T 0).set j x3) (by simp) (fun y hy => ?_) ?_), HV5, hid HB4.out.drew⟩
            · rcases List.mem_or_eq_of_mem_set hy with h | h
              · rw [List.eq_of_mem_replicate h]; omega
              · rw [h]; exact hX3.out
            · rw [List.getD_eq_getElem?_getD, List.getElem?_set_ne hj2, ← List.getD_eq_getElem?_getD]
              exact rep_getD T k
          case measure => simp [intOf]; omega
      · have hj1i : ¬ ((j : Int) < (T : Int)) := by omega
        clear c3 cg hs1
        go_wp2
        go_roundw
        case rel => exact ⟨k + 1, xk + 4, _, _, _, _, _, _, _, by omega, by go_num, by go_num, by omega, hid (hP.out.add hX9.out hX92.out (by simp) (fun y hy => by rw [List.eq_of_mem_replicate hy]; omega) (rep_getD T _)), HV3, HB3⟩
        case measure => simp [intOf]; omega
    · have HPT : Hid (TokP T T pu dr sw) := hid (by have h1 := hP.out; rwa [show k = T by omega] at h1)
      have hx26 : xk ≤ 26 := by omega
      have HN0 : Hid (NsV wr w.heap.size (.slice none 0 0) [] (fun _ => 0) (fun _ => 0) (fun _ _ => 0) (fun _ _ => 0)) := hid ⟨World.ownsRow_nil _ _ _ _, fun n rs h => by simp at h, fun n k n' k' rs rs' h => by simp at h⟩
      clear hP
      go_wp2
      go_loopw [6, 9] (fun x nv wn => ∃ (n xn : Nat) (L : List (List (List Pt))) (vR : Value) (gn cn : Nat → Nat) (gr cr : Nat → Nat → Nat), n ≤ NN ∧ nv = .int .i64 n ∧ x = .int .i64 xn ∧ xn ≤ 26 + 25 * n ∧ Hid (NamP T NN n L) ∧ Hid (TokV wn w.heap.size w.heap.size T pu dr sw vR vP vD vS sg) ∧ Hid (NsV wn w.heap.size vR L gn cn gr cr) ∧ Hid (Below w.heap.size w wn)) (fun _ nv _ => NN - (intOf nv).toNat)
      case atStart => exact ⟨0, xk, [], _, _, _, _, _, Nat.zero_le _, rfl, rfl, by omega, hid ⟨rfl, fun rs h => (by cases h), fun rs h => (by cases h), fun rs h => (by cases h), fun rs h => (by cases h), fun m rs h => (by simp at h)⟩, hV, HN0, hbr⟩
      case round =>
        clear HN0 hV hbr hx26 hxk hk hlt
        obtain ⟨n, xn, L, vR, gn, cn, gr, cr, hn, rfl, rfl, hxn, hNP, hTV, hNS, hbn⟩ := hrel
        obtain ⟨wn, hwn⟩ : ∃ wn, wn = wr := ⟨_, rfl⟩
        subst hwn
        by_cases hln : n < NN
        · have AT := fun w hv => at_any v xn (by omega) w hv
          have hTi : 0 < T := by omega
          go_upto_region 19 with (first
            | (go_at_call 66; refine (AT _ (HV.out.below hbn.out)).mono ?_; rintro e w' ⟨⟨z, rfl, hz⟩, rfl⟩)
            | (go_at_call 44; refine (pick_any z T hTi hz _).mono ?_; rintro e w' ⟨⟨r, hr, rfl⟩, rfl⟩))
          obtain ⟨cnt, hcnt⟩ : ∃ cnt : Nat, (1 + (r : Int)) = (cnt : Int) := ⟨1 + r, by omega⟩
          have hcT : 1 ≤ cnt ∧ cnt ≤ T := by omega
          have hT6 : T ≤ 6 := hT2.2
          rw [hcnt]
          have HNB : Hid (w.heap.size ≤ wn.heap.size ∧ (∀ m, m < L.length → gn m < wn.heap.size) ∧ ∀ (m : Nat) rs (k : Nat), L[m]? = some rs → k < rs.length → gr m k < wn.heap.size) := hid ⟨hbn.out.size, fun m hm => by
            obtain ⟨rs, hrs⟩ : ∃ rs, L[m]? = some rs := ⟨_, List.getElem?_eq_getElem hm⟩
            exact own_lt (hNS.out.each m rs hrs).row rfl, fun m rs k h1 h2 => ((hNS.out.each m rs h1).lt h2).2⟩
          have HR0 : Hid (RsV wn wn.heap.size (.slice none 0 0) [] (fun _ => 0) (fun _ => 0)) := hid ⟨World.ownsRow_nil _ _ _ _, fun k r h => by simp at h⟩
          clear hcnt hr hz AT hTi
          go_wp2
          go_loopw [6, 11, 12] (fun x vq kv wk => ∃ (k xk : Nat) (rs : List (List Pt)) (v11 : Value) (gk ck : Nat → Nat), k ≤ cnt ∧ kv = .int .i64 k ∧ x = .int .i64 xk ∧ xk ≤ xn + 1 + 4 * k ∧ v11 = vq ∧ Hid (RulP T NN n cnt k rs) ∧ Hid (RsV wk wn.heap.size v11 rs gk ck) ∧ Hid (∀ i j, i < rs.length → j < rs.length → gk i = gk j → i = j) ∧ Hid (TokV wk w.heap.size w.heap.size T pu dr sw vR vP vD vS sg) ∧ Hid (NsV wk w.heap.size vR L gn cn gr cr) ∧ Hid (Below w.heap.size w wk) ∧ Hid (wn.heap.size ≤ wk.heap.size)) (fun _ _ kv _ => cnt - (intOf kv).toNat)
          case atStart => exact ⟨0, xn + 1, [], _, _, _, Nat.zero_le _, rfl, by go_num, by omega, rfl, hid ⟨rfl, fun i r h => (by simp at h), fun r h => (by cases h), fun i r h => (by simp at h), fun r h => (by simp at h)⟩, HR0, hid (fun i j h => (by simp at h)), hTV, hNS, hbn, hid (Nat.le_refl _)⟩
          case round =>
            clear HR0 hTV hNS hbn
            obtain ⟨k, xk, rs, v11, gk, ck, hk, rfl, rfl, hxk, rfl, hRP, hRS, hIJ, hTV, hNS, hbn, hsz⟩ := hrel
            obtain ⟨wk, hwk⟩ : ∃ wk, wk = wr := ⟨_, rfl⟩
            subst hwk
            by_cases hlk : k < cnt
            · have hk6 : k < 6 := by omega
              have AT := fun w hv => at_any v xk (by omega) w hv
              go_upto_region 26 with (first
                | (go_at_call 31; refine (letter_any k hk6 _).mono ?_; rintro e w' ⟨rfl, rfl⟩)
                | (go_at_call 66; refine (AT _ (HV.out.below (bal hbn.out))).mono ?_; rintro e w' ⟨⟨z, rfl, hz⟩, rfl⟩)
                | (go_at_call 44; refine (pick_any z 4 (by omega) hz _).mono ?_; rintro e w' ⟨⟨sz, hsz4, rfl⟩, rfl⟩))
              obtain ⟨W0, hW0⟩ : ∃ W0, wk.alloc (.cells #[.string (letB k)] 9) = W0 := ⟨_, rfl⟩
              rw [hW0]
              have hbk : Below wk.heap.size wk W0 := by rw [← hW0]; exact bal (Below.refl _ _)
              have HRow0 : Hid (W0.ownsRow wk.heap.size 9 1 (.slice (some ⟨wk.heap.size, 0, none⟩) 1 1) ([Pt.tok k]).length (wds [.tok k])) := hid (by rw [← hW0]; exact own_made wk #[.string (letB k)] 1 1 9 wk.heap.size (Nat.le_refl _) (by unfold maxLen; omega) rfl)
              have HTV0 : Hid _ := hid (hTV.out.below hbk)
              have HNS0 : Hid _ := hid (hNS.out.keeps (Keeps.of_below hbk []) (off_nil _ _) (fun _ _ => by simp) (fun _ _ _ _ _ => by simp))
              have HRS0 : Hid _ := hid (hRS.out.keeps (Keeps.of_below hbk []) (off_nil _ _) (fun _ _ => by simp))
              have hwk0 : w.heap.size ≤ wk.heap.size := Nat.le_trans HNB.out.1 hsz.out
              have HB0 : Hid (Below w.heap.size w W0) := hid (hbn.out.trans (hbk.mono hwk0))
              have HS0 : Hid (wk.heap.size ≤ W0.heap.size) := hid hbk.size
              have HGB : Hid (∀ i, i < rs.length → gk i < wk.heap.size) := hid (fun i hi => (hRS.out.lt hi).2)
              have hxk0 : xk ≤ 4 * k + xn + 1 := by omega
              clear hW0 hbk hz AT hTV hNS hRS hbn
              go_wp2
              go_loopw [6, 13, 15] (fun x vr pv wp => ∃ (p xp : Nat) (r : List Pt) (v13 : Value), p ≤ sz ∧ pv = .int .i64 p ∧ x = .int .i64 xp ∧ xp ≤ xk + 1 + p ∧ v13 = vr ∧ Hid (RowP T NN cnt k p r) ∧ Hid (wp.ownsRow wk.heap.size 9 1 v13 r.length (wds r)) ∧ Hid (TokV wp w.heap.size w.heap.size T pu dr sw vR vP vD vS sg) ∧ Hid (NsV wp w.heap.size vR L gn cn gr cr) ∧ Hid (RsV wp wn.heap.size v11 rs gk ck) ∧ Hid (Below w.heap.size w wp) ∧ Hid (wk.heap.size ≤ wp.heap.size)) (fun _ _ pv _ => sz - (intOf pv).toNat)
              case atStart => exact ⟨0, xk + 1, [.tok k], _, Nat.zero_le _, rfl, by go_num, by omega, rfl, hid ⟨rfl, rfl, fun q hq => (by rw [List.mem_singleton.1 hq]; show k < T; omega), fun _ q hq => ⟨k, List.mem_singleton.1 hq⟩⟩, HRow0, HTV0, HNS0, HRS0, HB0, HS0⟩
              case round =>
                clear HRow0 HTV0 HNS0 HRS0 HB0 HS0
                obtain ⟨p, xp, r, v13, hp, rfl, rfl, hxp, rfl, hPP, hRow, hTV, hNS, hRS, hbn, hsp⟩ := hrel
                obtain ⟨wp, hwp⟩ : ∃ wp, wp = wr := ⟨_, rfl⟩
                subst hwp
                by_cases hlp : p < sz
                · have AT := fun w hv => at_any v xp (by omega) w hv
                  have hTNT : ((T + NN : Nat) : Int) = (T : Int) + (NN : Int) := by omega
                  have PK := fun z hz w => pick_any z (T + NN) (by omega) hz w
                  rw [hTNT] at PK
                  go_upto_region 32 with (first
                    | (go_at_call 66; refine (AT _ (HV.out.below hbn.out)).mono ?_; rintro e w' ⟨⟨z, rfl, hz⟩, rfl⟩)
                    | (go_at_call 44; refine (PK z hz _).mono ?_; rintro e w' ⟨⟨c, hc, rfl⟩, rfl⟩))
                  have hcTN : c < T + NN := hc
                  have hpl := hPP.out.len
                  have hrl5 : r.length ≤ 4 := by omega
                  clear AT PK hTNT hz hc
                  have hrow := hRow.out
                  have hspo : wk.heap.size ≤ wp.heap.size := hsp.out
                  by_cases hA : k + 1 = cnt
                  · have hAi : ((k : Int) == (cnt : Int) - 1) = true := by simp; omega
                    clear hA
                    obtain ⟨q, hq, hqT⟩ : ∃ q : Nat, (c : Int) % (T : Int) = (q : Int) ∧ q < T := ⟨c % T, rfl, Nat.mod_lt _ (by omega)⟩
                    go_upto_region 34 with fail
                    rw [hq]
                    clear hq
                    go_wp2_with (first
                      | (go_at_call 31; refine (letter_any q (by omega) _).mono ?_; rintro e w' ⟨rfl, rfl⟩)
                      | (at_builtin; refine wpList_append_lies _ rfl _ _ 39 rfl wk.heap.size 9 iS (.string ByteArray.empty) 1 16 Tryz.underlying39 hiS hzS0 hzS1 hzS2 rfl (by decide) _ _ _ rfl (hrow.alloc _) ⟨wp.heap.size, 0, none⟩ 1 1 [.string (letB q)] rfl rfl (World.news_of_block (heap_alloc_new wp _)) ?c2 (Nat.le_refl 1) ?c3 ?c4 ?c5 _ rfl ?_))
                    case c2 => intro u hu; simp at hu; subst hu; rfl
                    case c3 => unfold maxLen; omega
                    case c4 => omega
                    case c5 => simp; omega
                    intro g3 cap3 w3 hown3 hgrow3 hat3 hlt3
                    have hkeep : Keeps wp w3 v13.ownBlock.toList := ((Keeps.refl _ _).alloc _).grown hgrow3 (fun q hq => .inl (by rw [hq]; simp))
                    have hSg : ∀ g ∈ v13.ownBlock.toList, wk.heap.size ≤ g := fun g hm => (hrow.lt g (mem_own hm)).1
                    have HRow3 : Hid (w3.ownsRow wk.heap.size 9 1 (.slice (some ⟨g3, 0, none⟩) (p + 1 + 1) cap3) (r ++ [Pt.tok q]).length (wds (r ++ [Pt.tok q]))) := hid (by unfold wds at hown3 ⊢; rw [List.map_append, List.length_append, hPP.out.len]; exact hown3)
                    have HTV3 : Hid _ := hid (hTV.out.keeps hkeep (off_own hrow (by decide)) (off_own hrow (by decide)) (off_own hrow (by decide)))
                    have HNS3 : Hid _ := hid (hNS.out.keeps hkeep (off_own hrow (by decide)) (fun m hm hx => by have := hSg _ hx; have := HNB.out.2.1 m hm; have := hsz.out; omega) (fun m rs' k' h1 h2 hx => by have := hSg _ hx; have := HNB.out.2.2 m rs' k' h1 h2; have := hsz.out; omega))
                    have HRS3 : Hid _ := hid (hRS.out.keeps hkeep (off_own hrow (by decide)) (fun i hi hx => by have := hSg _ hx; have := HGB.out i hi; omega))
                    have HB3 : Hid (Below w.heap.size w w3) := hid (hbn.out.trans (hkeep.below (by have := hsp.out; omega) (fun q hq => by have := hSg q hq; omega)))
                    have HP3 : Hid (RowP T NN cnt k (p + 1) (r ++ [Pt.tok q])) := hid ⟨by rw [List.length_append, hPP.out.len]; rfl, by have h1 := hPP.out.head; cases r with | nil => cases h1 | cons a l => exact h1, fun a ha => by
                      rcases List.mem_append.1 ha with ha | ha
                      · exact hPP.out.part a ha
                      · rw [List.mem_singleton.1 ha]; exact (show q < T from hqT), fun hl a ha => by
                      rcases List.mem_append.1 ha with ha | ha
                      · exact hPP.out.last hl a ha
                      · rw [List.mem_singleton.1 ha]; exact ⟨q, rfl⟩⟩
                    have HS3 : Hid (wk.heap.size ≤ w3.heap.size) := hid (Nat.le_trans hsp.out hkeep.size)
                    clear hown3 hgrow3 hat3 hlt3 hkeep hrow hSg
                    go_wp2
                    go_roundw
                    case rel => exact ⟨p + 1, xp + 1, r ++ [Pt.tok q], _, by omega, by go_num, by go_num, by omega, by rfl, HP3, HRow3, HTV3, HNS3, HRS3, HB3, HS3⟩
                    case measure => simp [intOf]; omega
                  · have hAi : ((k : Int) == (cnt : Int) - 1) = false := by simp; omega
                    by_cases hcl : c < T
                    · have hci : (c : Int) < (T : Int) := by omega
                      clear hcl
                      obtain ⟨q, hq, hqT⟩ : ∃ q : Nat, (c : Int) % (T : Int) = (q : Int) ∧ q < T := ⟨c % T, rfl, Nat.mod_lt _ (by omega)⟩
                      go_upto_region 34 with fail
                      rw [hq]
                      clear hq
                      go_wp2_with (first
                        | (go_at_call 31; refine (letter_any q (by omega) _).mono ?_; rintro e w' ⟨rfl, rfl⟩)
                        | (at_builtin; refine wpList_append_lies _ rfl _ _ 39 rfl wk.heap.size 9 iS (.string ByteArray.empty) 1 16 Tryz.underlying39 hiS hzS0 hzS1 hzS2 rfl (by decide) _ _ _ rfl (hrow.alloc _) ⟨wp.heap.size, 0, none⟩ 1 1 [.string (letB q)] rfl rfl (World.news_of_block (heap_alloc_new wp _)) ?c2 (Nat.le_refl 1) ?c3 ?c4 ?c5 _ rfl ?_))
                      case c2 => intro u hu; simp at hu; subst hu; rfl
                      case c3 => unfold maxLen; omega
                      case c4 => omega
                      case c5 => simp; omega
                      intro g3 cap3 w3 hown3 hgrow3 hat3 hlt3
                      have hkeep : Keeps wp w3 v13.ownBlock.toList := ((Keeps.refl _ _).alloc _).grown hgrow3 (fun q hq => .inl (by rw [hq]; simp))
                      have hSg : ∀ g ∈ v13.ownBlock.toList, wk.heap.size ≤ g := fun g hm => (hrow.lt g (mem_own hm)).1
                      have HRow3 : Hid (w3.ownsRow wk.heap.size 9 1 (.slice (some ⟨g3, 0, none⟩) (p + 1 + 1) cap3) (r ++ [Pt.tok q]).length (wds (r ++ [Pt.tok q]))) := hid (by unfold wds at hown3 ⊢; rw [List.map_append, List.length_append, hPP.out.len]; exact hown3)
                      have HTV3 : Hid _ := hid (hTV.out.keeps hkeep (off_own hrow (by decide)) (off_own hrow (by decide)) (off_own hrow (by decide)))
                      have HNS3 : Hid _ := hid (hNS.out.keeps hkeep (off_own hrow (by decide)) (fun m hm hx => by have := hSg _ hx; have := HNB.out.2.1 m hm; have := hsz.out; omega) (fun m rs' k' h1 h2 hx => by have := hSg _ hx; have := HNB.out.2.2 m rs' k' h1 h2; have := hsz.out; omega))
                      have HRS3 : Hid _ := hid (hRS.out.keeps hkeep (off_own hrow (by decide)) (fun i hi hx => by have := hSg _ hx; have := HGB.out i hi; omega))
                      have HB3 : Hid (Below w.heap.size w w3) := hid (hbn.out.trans (hkeep.below (by have := hsp.out; omega) (fun q hq => by have := hSg q hq; omega)))
                      have HP3 : Hid (RowP T NN cnt k (p + 1) (r ++ [Pt.tok q])) := hid ⟨by rw [List.length_append, hPP.out.len]; rfl, by have h1 := hPP.out.head; cases r with | nil => cases h1 | cons a l => exact h1, fun a ha => by
                        rcases List.mem_append.1 ha with ha | ha
                        · exact hPP.out.part a ha
                        · rw [List.mem_singleton.1 ha]; exact (show q < T from hqT), fun hl a ha => by
                        rcases List.mem_append.1 ha with ha | ha
                        · exact hPP.out.last hl a ha
                        · rw [List.mem_singleton.1 ha]; exact ⟨q, rfl⟩⟩
                      have HS3 : Hid (wk.heap.size ≤ w3.heap.size) := hid (Nat.le_trans hsp.out hkeep.size)
                      clear hown3 hgrow3 hat3 hlt3 hkeep hrow hSg
                      go_wp2
                      go_roundw
                      case rel => exact ⟨p + 1, xp + 1, r ++ [Pt.tok q], _, by omega, by go_num, by go_num, by omega, by rfl, HP3, HRow3, HTV3, HNS3, HRS3, HB3, HS3⟩
                      case measure => simp [intOf]; omega
                    · have hci : ¬ ((c : Int) < (T : Int)) := by omega
                      obtain ⟨q, hq, hqN⟩ : ∃ q : Nat, (c : Int) - (T : Int) = (q : Int) ∧ q < NN := ⟨c - T, by omega, by omega⟩
                      have KN := kname_any q (by omega)
                      rw [← hq] at KN
                      have HA : Hid (¬ k + 1 = cnt) := hid hA
                      clear hq hcl hA
                      go_wp2_with (first
                        | (go_at_call 33; refine (KN _).mono ?_; rintro e w' ⟨rfl, rfl⟩)
                        | (at_builtin; refine wpList_append_lies _ rfl _ _ 39 rfl wk.heap.size 9 iS (.string ByteArray.empty) 1 16 Tryz.underlying39 hiS hzS0 hzS1 hzS2 rfl (by decide) _ _ _ rfl (hrow.alloc _) ⟨wp.heap.size, 0, none⟩ 1 1 [.string (namB q)] rfl rfl (World.news_of_block (heap_alloc_new wp _)) ?c2 (Nat.le_refl 1) ?c3 ?c4 ?c5 _ rfl ?_))
                      case c2 => intro u hu; simp at hu; subst hu; rfl
                      case c3 => unfold maxLen; omega
                      case c4 => omega
                      case c5 => simp; omega
                      intro g3 cap3 w3 hown3 hgrow3 hat3 hlt3
                      have hkeep : Keeps wp w3 v13.ownBlock.toList := ((Keeps.refl _ _).alloc _).grown hgrow3 (fun q hq => .inl (by rw [hq]; simp))
                      have hSg : ∀ g ∈ v13.ownBlock.toList, wk.heap.size ≤ g := fun g hm => (hrow.lt g (mem_own hm)).1
                      have HRow3 : Hid (w3.ownsRow wk.heap.size 9 1 (.slice (some ⟨g3, 0, none⟩) (p + 1 + 1) cap3) (r ++ [Pt.nam q]).length (wds (r ++ [Pt.nam q]))) := hid (by unfold wds at hown3 ⊢; rw [List.map_append, List.length_append, hPP.out.len]; exact hown3)
                      have HTV3 : Hid _ := hid (hTV.out.keeps hkeep (off_own hrow (by decide)) (off_own hrow (by decide)) (off_own hrow (by decide)))
                      have HNS3 : Hid _ := hid (hNS.out.keeps hkeep (off_own hrow (by decide)) (fun m hm hx => by have := hSg _ hx; have := HNB.out.2.1 m hm; have := hsz.out; omega) (fun m rs' k' h1 h2 hx => by have := hSg _ hx; have := HNB.out.2.2 m rs' k' h1 h2; have := hsz.out; omega))
                      have HRS3 : Hid _ := hid (hRS.out.keeps hkeep (off_own hrow (by decide)) (fun i hi hx => by have := hSg _ hx; have := HGB.out i hi; omega))
                      have HB3 : Hid (Below w.heap.size w w3) := hid (hbn.out.trans (hkeep.below (by have := hsp.out; omega) (fun q hq => by have := hSg q hq; omega)))
                      have HP3 : Hid (RowP T NN cnt k (p + 1) (r ++ [Pt.nam q])) := hid ⟨by rw [List.length_append, hPP.out.len]; rfl, by have h1 := hPP.out.head; cases r with | nil => cases h1 | cons a l => exact h1, fun a ha => by
                        rcases List.mem_append.1 ha with ha | ha
                        · exact hPP.out.part a ha
                        · rw [List.mem_singleton.1 ha]; exact (show q < NN from hqN), fun hl a ha => by
                        rcases List.mem_append.1 ha with ha | ha
                        · exact hPP.out.last hl a ha
                        · rw [List.mem_singleton.1 ha]; exact absurd hl HA.out⟩
                      have HS3 : Hid (wk.heap.size ≤ w3.heap.size) := hid (Nat.le_trans hsp.out hkeep.size)
                      clear hown3 hgrow3 hat3 hlt3 hkeep hrow hSg
                      go_wp2
                      go_roundw
                      case rel => exact ⟨p + 1, xp + 1, r ++ [Pt.nam q], _, by omega, by go_num, by go_num, by omega, by rfl, HP3, HRow3, HTV3, HNS3, HRS3, HB3, HS3⟩
                      case measure => simp [intOf]; omega
                · have hpz : p = sz := by omega
                  subst hpz
                  have hrw := hRow.out
                  by_cases hk0 : k = 0
                  · have hk0i : ((k : Int) == 0) = true := by simp; omega
                    by_cases hc1 : 1 < cnt
                    · have hc1i : (1 : Int) < (cnt : Int) := by omega
                      by_cases hnN : n + 1 < NN
                      · have hnNi : (n : Int) + 1 < (NN : Int) := by omega
                        have HK0 : Hid (k = 0 ∧ 1 < cnt) := hid ⟨hk0, hc1⟩
                        have hpl := hPP.out.len
                        have hr4 : r.length ≤ 4 := by omega
                        have hspo : wk.heap.size ≤ wp.heap.size := hsp.out
                        have hn1T : ((n + 1 : Nat) : Int) = (n : Int) + 1 := by omega
                        have KN := fun w => kname_any (n + 1) (by omega) w
                        rw [hn1T] at KN
                        clear hk0 hn1T
                        go_upto_region 38 with (first
                          | (go_at_call 33; refine (KN _).mono ?_; rintro e w' ⟨rfl, rfl⟩)
                          | (at_builtin; refine wpList_append_lies _ rfl _ _ 39 rfl wk.heap.size 9 iS (.string ByteArray.empty) 1 16 Tryz.underlying39 hiS hzS0 hzS1 hzS2 rfl (by decide) _ _ _ rfl (hrw.alloc _) ⟨wp.heap.size, 0, none⟩ 1 1 [.string (namB (n + 1))] rfl rfl (World.news_of_block (heap_alloc_new wp _)) ?c2 (Nat.le_refl 1) ?c3 ?c4 ?c5 _ rfl ?_))
                        case c2 => intro u hu; simp at hu; subst hu; rfl
                        case c3 => unfold maxLen; omega
                        case c4 => omega
                        case c5 => simp; omega
                        intro g3 cap3 w3 hown3 hgrow3 hat3 hlt3
                        go_upto_region 38 with fail
                        have hkeep : Keeps wp w3 v13.ownBlock.toList := ((Keeps.refl _ _).alloc _).grown hgrow3 (fun q hq => .inl (by rw [hq]; simp))
                        have hSg : ∀ g ∈ v13.ownBlock.toList, wk.heap.size ≤ g := fun g hm => (hrw.lt g (mem_own hm)).1
                        have hrow3 : w3.ownsRow wk.heap.size 9 1 (.slice (some ⟨g3, 0, none⟩) (p + 1 + 1) cap3) (r ++ [Pt.nam (n + 1)]).length (wds (r ++ [Pt.nam (n + 1)])) := by unfold wds at hown3 ⊢; rw [List.map_append, List.length_append, hPP.out.len]; exact hown3
                        have HTV3 : Hid _ := hid (hTV.out.keeps hkeep (off_own hrw (by decide)) (off_own hrw (by decide)) (off_own hrw (by decide)))
                        have HNS3 : Hid _ := hid (hNS.out.keeps hkeep (off_own hrw (by decide)) (fun m hm hx => by have := hSg _ hx; have := HNB.out.2.1 m hm; have := hsz.out; omega) (fun m rs' k' h1 h2 hx => by have := hSg _ hx; have := HNB.out.2.2 m rs' k' h1 h2; have := hsz.out; omega))
                        have HRS3 : Hid _ := hid (hRS.out.keeps hkeep (off_own hrw (by decide)) (fun i hi hx => by have := hSg _ hx; have := HGB.out i hi; omega))
                        have HB3 : Hid (Below w.heap.size w w3) := hid (hbn.out.trans (hkeep.below (by have := hsp.out; omega) (fun q hq => by have := hSg q hq; omega)))
                        have HS3 : Hid (wk.heap.size ≤ w3.heap.size) := hid (Nat.le_trans hsp.out hkeep.size)
                        clear hown3 hgrow3 hat3 hlt3 hkeep hrw hSg hpl
                        have hrw := hrow3
                        clear hrow3
                        have hl13 : p + 1 + 1 = (r ++ [Pt.nam (n + 1)]).length := by rw [List.length_append, hPP.out.len]; rfl
                        rw [← hl13] at hrw
                        have hg1 : wk.heap.size ≤ g3 ∧ g3 < w3.heap.size := hrw.lt g3 rfl
                        have hl13s : p + 1 + 1 ≤ 5 := by omega
                        obtain ⟨xs, hxs⟩ : ∃ xs, xs = (List.range rs.length).map fun k => Value.slice (some ⟨gk k, 0, none⟩) ((rs.getD k []).length) (ck k) := ⟨_, rfl⟩
                        have hr11 := HRS3.out.row
                        rw [← hxs, hRP.out.len] at hr11
                        have HRW : Hid _ := hid hrw
                        have HXS : Hid _ := hid hxs
                        have HL13 : Hid _ := hid hl13
                        clear hrw hxs hl13
                        have hwnW : wn.heap.size ≤ w3.heap.size := by have := hsz.out; have := HS3.out; omega
                        go_wp2_with (first | (at_builtin; refine wpList_append_lies _ rfl _ _ 46 rfl wn.heap.size 39 iR (.slice none 0 0) 1 24 Tryz.underlying46 hiR hzR0 hzR1 hzR2 rfl (by decide) _ _ _ rfl (hr11.alloc _) ⟨w3.heap.size, 0, none⟩ 1 1 [.slice (some ⟨g3, 0, none⟩) (p + 1 + 1) cap3] rfl rfl (World.news_of_block (heap_alloc_new w3 _)) ?d2 (Nat.le_refl 1) ?d3 ?d4 ?d5 _ rfl ?_))
                        case d2 => first | rfl | (intro u hu; simp at hu; subst hu; rfl)
                        case d3 => unfold maxLen; omega
                        case d4 => omega
                        case d5 => first | omega | (simp; omega)
                        intro g4 cap4 w4 hown4 hgrow4 hat4 hlt4
                        have hkeep : Keeps w3 w4 v11.ownBlock.toList := ((Keeps.refl _ _).alloc _).grown hgrow4 (fun q hq => .inl (by rw [hq]; simp))
                        have hSg : ∀ g ∈ v11.ownBlock.toList, wn.heap.size ≤ g := fun g hm => (hr11.lt g (mem_own hm)).1
                        have HRS4 : Hid (RsV w4 wn.heap.size (.slice (some ⟨g4, 0, none⟩) (k + 1) cap4) (rs ++ [r ++ [Pt.nam (n + 1)]]) (fun i => if i = k then g3 else gk i) (fun i => if i = k then cap3 else ck i)) := hid (by
                          have h := RsV.push HRS3.out (r := r ++ [Pt.nam (n + 1)]) (by rw [← HL13.out]; exact own_base HRW.out hsz.out) hkeep (by rw [← HL13.out, ← HXS.out, hRP.out.len]; exact hown4)
                          rw [hRP.out.len] at h
                          exact h)
                        have HIJ4 : Hid (∀ i j, i < (rs ++ [r ++ [Pt.nam (n + 1)]]).length → j < (rs ++ [r ++ [Pt.nam (n + 1)]]).length → (fun i => if i = k then g3 else gk i) i = (fun i => if i = k then g3 else gk i) j → i = j) := hid (fun i j hi hj he => by
                          rw [List.length_append, List.length_singleton, hRP.out.len] at hi hj
                          simp only at he
                          by_cases e1 : i = k <;> by_cases e2 : j = k
                          · omega
                          · rw [if_pos e1, if_neg e2] at he
                            have := HGB.out j (by rw [hRP.out.len]; omega); omega
                          · rw [if_neg e1, if_pos e2] at he
                            have := HGB.out i (by rw [hRP.out.len]; omega); omega
                          · rw [if_neg e1, if_neg e2] at he
                            exact hIJ.out i j (by rw [hRP.out.len]; omega) (by rw [hRP.out.len]; omega) he)
                        have HTV4 : Hid _ := hid (HTV3.out.keeps hkeep (off_own hr11 (by decide)) (off_own hr11 (by decide)) (off_own hr11 (by decide)))
                        have HNS4 : Hid _ := hid (HNS3.out.keeps hkeep (off_own hr11 (by decide)) (fun m hm hx => by have := hSg _ hx; have := HNB.out.2.1 m hm; omega) (fun m rs' k' h1 h2 hx => by have := hSg _ hx; have := HNB.out.2.2 m rs' k' h1 h2; omega))
                        have HB4 : Hid (Below w.heap.size w w4) := hid (HB3.out.trans (hkeep.below (by have := HNB.out.1; omega) (fun q hq => by have := hSg q hq; have := HNB.out.1; omega)))
                        have HRP4 : Hid (RulP T NN n cnt (k + 1) (rs ++ [r ++ [Pt.nam (n + 1)]])) := hid (hRP.out.add ((by have h1 := hPP.out.head; cases r with | nil => cases h1 | cons a l => exact h1)) (by rw [← HL13.out]; exact hl13s) (fun a ha => by
                          rcases List.mem_append.1 ha with ha | ha
                          · exact hPP.out.part a ha
                          · rw [List.mem_singleton.1 ha]; exact (show n + 1 < NN from hnN)) (fun h => by have := HK0.out; omega) (fun _ _ _ => List.mem_append_right _ (List.mem_singleton.2 rfl)))
                        have HS4 : Hid (wn.heap.size ≤ w4.heap.size) := hid (Nat.le_trans hwnW hkeep.size)
                        clear hown4 hgrow4 hat4 hlt4 hkeep hr11 hSg
                        go_wp2
                        go_roundw
                        case rel => exact ⟨k + 1, xp, rs ++ [r ++ [Pt.nam (n + 1)]], _, _, _, by omega, by go_num, rfl, by omega, by rfl, HRP4, HRS4, HIJ4, HTV4, HNS4, HB4, HS4⟩
                        case measure => simp [intOf]; omega
                      · have hnNi : ¬ ((n : Int) + 1 < (NN : Int)) := by omega
                        clear hk0
                        obtain ⟨l13, hl13⟩ : ∃ l, l = (r).length := ⟨_, rfl⟩
                        rw [← hl13] at hrw
                        obtain ⟨g13, c13, hv13, hg1, hg2, hg3⟩ := owned_shape hrw (show 0 < l13 by rw [hl13]; rw [hPP.out.len]; omega)
                        have hl13s : l13 ≤ 5 := by rw [hl13]; rw [hPP.out.len]; omega
                        obtain ⟨xs, hxs⟩ : ∃ xs, xs = (List.range rs.length).map fun k => Value.slice (some ⟨gk k, 0, none⟩) ((rs.getD k []).length) (ck k) := ⟨_, rfl⟩
                        have hr11 := hRS.out.row
                        rw [← hxs, hRP.out.len] at hr11
                        have HRW : Hid _ := hid hrw
                        have HXS : Hid _ := hid hxs
                        have HL13 : Hid _ := hid hl13
                        subst hv13
                        clear hrw hxs hl13
                        have hwnW : wn.heap.size ≤ wp.heap.size := by have := hsz.out; have := hsp.out; omega
                        go_wp2_with (first | (at_builtin; refine wpList_append_lies _ rfl _ _ 46 rfl wn.heap.size 39 iR (.slice none 0 0) 1 24 Tryz.underlying46 hiR hzR0 hzR1 hzR2 rfl (by decide) _ _ _ rfl (hr11.alloc _) ⟨wp.heap.size, 0, none⟩ 1 1 [.slice (some ⟨g13, 0, none⟩) l13 c13] rfl rfl (World.news_of_block (heap_alloc_new wp _)) ?d2 (Nat.le_refl 1) ?d3 ?d4 ?d5 _ rfl ?_))
                        case d2 => first | rfl | (intro u hu; simp at hu; subst hu; rfl)
                        case d3 => unfold maxLen; omega
                        case d4 => omega
                        case d5 => first | omega | (simp; omega)
                        intro g4 cap4 w4 hown4 hgrow4 hat4 hlt4
                        have hkeep : Keeps wp w4 v11.ownBlock.toList := ((Keeps.refl _ _).alloc _).grown hgrow4 (fun q hq => .inl (by rw [hq]; simp))
                        have hSg : ∀ g ∈ v11.ownBlock.toList, wn.heap.size ≤ g := fun g hm => (hr11.lt g (mem_own hm)).1
                        have HRS4 : Hid (RsV w4 wn.heap.size (.slice (some ⟨g4, 0, none⟩) (k + 1) cap4) (rs ++ [r]) (fun i => if i = k then g13 else gk i) (fun i => if i = k then c13 else ck i)) := hid (by
                          have h := RsV.push hRS.out (r := r) (by rw [← HL13.out]; exact own_base HRW.out hsz.out) hkeep (by rw [← HL13.out, ← HXS.out, hRP.out.len]; exact hown4)
                          rw [hRP.out.len] at h
                          exact h)
                        have HIJ4 : Hid (∀ i j, i < (rs ++ [r]).length → j < (rs ++ [r]).length → (fun i => if i = k then g13 else gk i) i = (fun i => if i = k then g13 else gk i) j → i = j) := hid (fun i j hi hj he => by
                          rw [List.length_append, List.length_singleton, hRP.out.len] at hi hj
                          simp only at he
                          by_cases e1 : i = k <;> by_cases e2 : j = k
                          · omega
                          · rw [if_pos e1, if_neg e2] at he
                            have := HGB.out j (by rw [hRP.out.len]; omega); omega
                          · rw [if_neg e1, if_pos e2] at he
                            have := HGB.out i (by rw [hRP.out.len]; omega); omega
                          · rw [if_neg e1, if_neg e2] at he
                            exact hIJ.out i j (by rw [hRP.out.len]; omega) (by rw [hRP.out.len]; omega) he)
                        have HTV4 : Hid _ := hid (hTV.out.keeps hkeep (off_own hr11 (by decide)) (off_own hr11 (by decide)) (off_own hr11 (by decide)))
                        have HNS4 : Hid _ := hid (hNS.out.keeps hkeep (off_own hr11 (by decide)) (fun m hm hx => by have := hSg _ hx; have := HNB.out.2.1 m hm; omega) (fun m rs' k' h1 h2 hx => by have := hSg _ hx; have := HNB.out.2.2 m rs' k' h1 h2; omega))
                        have HB4 : Hid (Below w.heap.size w w4) := hid (hbn.out.trans (hkeep.below (by have := HNB.out.1; omega) (fun q hq => by have := hSg q hq; have := HNB.out.1; omega)))
                        have HRP4 : Hid (RulP T NN n cnt (k + 1) (rs ++ [r])) := hid (hRP.out.add (hPP.out.head) (by rw [← HL13.out]; exact hl13s) (hPP.out.part) (hPP.out.last) (fun _ _ h => absurd h hnN))
                        have HS4 : Hid (wn.heap.size ≤ w4.heap.size) := hid (Nat.le_trans hwnW hkeep.size)
                        clear hown4 hgrow4 hat4 hlt4 hkeep hr11 hSg
                        go_wp2
                        go_roundw
                        case rel => exact ⟨k + 1, xp, rs ++ [r], _, _, _, by omega, by go_num, rfl, by omega, by rfl, HRP4, HRS4, HIJ4, HTV4, HNS4, HB4, HS4⟩
                        case measure => simp [intOf]; omega
                    · have hc1i : ¬ ((1 : Int) < (cnt : Int)) := by omega
                      clear hk0
                      obtain ⟨l13, hl13⟩ : ∃ l, l = (r).length := ⟨_, rfl⟩
                      rw [← hl13] at hrw
                      obtain ⟨g13, c13, hv13, hg1, hg2, hg3⟩ := owned_shape hrw (show 0 < l13 by rw [hl13]; rw [hPP.out.len]; omega)
                      have hl13s : l13 ≤ 5 := by rw [hl13]; rw [hPP.out.len]; omega
                      obtain ⟨xs, hxs⟩ : ∃ xs, xs = (List.range rs.length).map fun k => Value.slice (some ⟨gk k, 0, none⟩) ((rs.getD k []).length) (ck k) := ⟨_, rfl⟩
                      have hr11 := hRS.out.row
                      rw [← hxs, hRP.out.len] at hr11
                      have HRW : Hid _ := hid hrw
                      have HXS : Hid _ := hid hxs
                      have HL13 : Hid _ := hid hl13
                      subst hv13
                      clear hrw hxs hl13
                      have hwnW : wn.heap.size ≤ wp.heap.size := by have := hsz.out; have := hsp.out; omega
                      go_wp2_with (first | (at_builtin; refine wpList_append_lies _ rfl _ _ 46 rfl wn.heap.size 39 iR (.slice none 0 0) 1 24 Tryz.underlying46 hiR hzR0 hzR1 hzR2 rfl (by decide) _ _ _ rfl (hr11.alloc _) ⟨wp.heap.size, 0, none⟩ 1 1 [.slice (some ⟨g13, 0, none⟩) l13 c13] rfl rfl (World.news_of_block (heap_alloc_new wp _)) ?d2 (Nat.le_refl 1) ?d3 ?d4 ?d5 _ rfl ?_))
                      case d2 => first | rfl | (intro u hu; simp at hu; subst hu; rfl)
                      case d3 => unfold maxLen; omega
                      case d4 => omega
                      case d5 => first | omega | (simp; omega)
                      intro g4 cap4 w4 hown4 hgrow4 hat4 hlt4
                      have hkeep : Keeps wp w4 v11.ownBlock.toList := ((Keeps.refl _ _).alloc _).grown hgrow4 (fun q hq => .inl (by rw [hq]; simp))
                      have hSg : ∀ g ∈ v11.ownBlock.toList, wn.heap.size ≤ g := fun g hm => (hr11.lt g (mem_own hm)).1
                      have HRS4 : Hid (RsV w4 wn.heap.size (.slice (some ⟨g4, 0, none⟩) (k + 1) cap4) (rs ++ [r]) (fun i => if i = k then g13 else gk i) (fun i => if i = k then c13 else ck i)) := hid (by
                        have h := RsV.push hRS.out (r := r) (by rw [← HL13.out]; exact own_base HRW.out hsz.out) hkeep (by rw [← HL13.out, ← HXS.out, hRP.out.len]; exact hown4)
                        rw [hRP.out.len] at h
                        exact h)
                      have HIJ4 : Hid (∀ i j, i < (rs ++ [r]).length → j < (rs ++ [r]).length → (fun i => if i = k then g13 else gk i) i = (fun i => if i = k then g13 else gk i) j → i = j) := hid (fun i j hi hj he => by
                        rw [List.length_append, List.length_singleton, hRP.out.len] at hi hj
                        simp only at he
                        by_cases e1 : i = k <;> by_cases e2 : j = k
                        · omega
                        · rw [if_pos e1, if_neg e2] at he
                          have := HGB.out j (by rw [hRP.out.len]; omega); omega
                        · rw [if_neg e1, if_pos e2] at he
                          have := HGB.out i (by rw [hRP.out.len]; omega); omega
                        · rw [if_neg e1, if_neg e2] at he
                          exact hIJ.out i j (by rw [hRP.out.len]; omega) (by rw [hRP.out.len]; omega) he)
                      have HTV4 : Hid _ := hid (hTV.out.keeps hkeep (off_own hr11 (by decide)) (off_own hr11 (by decide)) (off_own hr11 (by decide)))
                      have HNS4 : Hid _ := hid (hNS.out.keeps hkeep (off_own hr11 (by decide)) (fun m hm hx => by have := hSg _ hx; have := HNB.out.2.1 m hm; omega) (fun m rs' k' h1 h2 hx => by have := hSg _ hx; have := HNB.out.2.2 m rs' k' h1 h2; omega))
                      have HB4 : Hid (Below w.heap.size w w4) := hid (hbn.out.trans (hkeep.below (by have := HNB.out.1; omega) (fun q hq => by have := hSg q hq; have := HNB.out.1; omega)))
                      have HRP4 : Hid (RulP T NN n cnt (k + 1) (rs ++ [r])) := hid (hRP.out.add (hPP.out.head) (by rw [← HL13.out]; exact hl13s) (hPP.out.part) (hPP.out.last) (fun _ h _ => absurd h hc1))
                      have HS4 : Hid (wn.heap.size ≤ w4.heap.size) := hid (Nat.le_trans hwnW hkeep.size)
                      clear hown4 hgrow4 hat4 hlt4 hkeep hr11 hSg
                      go_wp2
                      go_roundw
                      case rel => exact ⟨k + 1, xp, rs ++ [r], _, _, _, by omega, by go_num, rfl, by omega, by rfl, HRP4, HRS4, HIJ4, HTV4, HNS4, HB4, HS4⟩
                      case measure => simp [intOf]; omega
                  · have hk0i : ((k : Int) == 0) = false := by simp; omega
                    obtain ⟨l13, hl13⟩ : ∃ l, l = (r).length := ⟨_, rfl⟩
                    rw [← hl13] at hrw
                    obtain ⟨g13, c13, hv13, hg1, hg2, hg3⟩ := owned_shape hrw (show 0 < l13 by rw [hl13]; rw [hPP.out.len]; omega)
                    have hl13s : l13 ≤ 5 := by rw [hl13]; rw [hPP.out.len]; omega
                    obtain ⟨xs, hxs⟩ : ∃ xs, xs = (List.range rs.length).map fun k => Value.slice (some ⟨gk k, 0, none⟩) ((rs.getD k []).length) (ck k) := ⟨_, rfl⟩
                    have hr11 := hRS.out.row
                    rw [← hxs, hRP.out.len] at hr11
                    have HRW : Hid _ := hid hrw
                    have HXS : Hid _ := hid hxs
                    have HL13 : Hid _ := hid hl13
                    subst hv13
                    clear hrw hxs hl13
                    have hwnW : wn.heap.size ≤ wp.heap.size := by have := hsz.out; have := hsp.out; omega
                    go_wp2_with (first | (at_builtin; refine wpList_append_lies _ rfl _ _ 46 rfl wn.heap.size 39 iR (.slice none 0 0) 1 24 Tryz.underlying46 hiR hzR0 hzR1 hzR2 rfl (by decide) _ _ _ rfl (hr11.alloc _) ⟨wp.heap.size, 0, none⟩ 1 1 [.slice (some ⟨g13, 0, none⟩) l13 c13] rfl rfl (World.news_of_block (heap_alloc_new wp _)) ?d2 (Nat.le_refl 1) ?d3 ?d4 ?d5 _ rfl ?_))
                    case d2 => first | rfl | (intro u hu; simp at hu; subst hu; rfl)
                    case d3 => unfold maxLen; omega
                    case d4 => omega
                    case d5 => first | omega | (simp; omega)
                    intro g4 cap4 w4 hown4 hgrow4 hat4 hlt4
                    have hkeep : Keeps wp w4 v11.ownBlock.toList := ((Keeps.refl _ _).alloc _).grown hgrow4 (fun q hq => .inl (by rw [hq]; simp))
                    have hSg : ∀ g ∈ v11.ownBlock.toList, wn.heap.size ≤ g := fun g hm => (hr11.lt g (mem_own hm)).1
                    have HRS4 : Hid (RsV w4 wn.heap.size (.slice (some ⟨g4, 0, none⟩) (k + 1) cap4) (rs ++ [r]) (fun i => if i = k then g13 else gk i) (fun i => if i = k then c13 else ck i)) := hid (by
                      have h := RsV.push hRS.out (r := r) (by rw [← HL13.out]; exact own_base HRW.out hsz.out) hkeep (by rw [← HL13.out, ← HXS.out, hRP.out.len]; exact hown4)
                      rw [hRP.out.len] at h
                      exact h)
                    have HIJ4 : Hid (∀ i j, i < (rs ++ [r]).length → j < (rs ++ [r]).length → (fun i => if i = k then g13 else gk i) i = (fun i => if i = k then g13 else gk i) j → i = j) := hid (fun i j hi hj he => by
                      rw [List.length_append, List.length_singleton, hRP.out.len] at hi hj
                      simp only at he
                      by_cases e1 : i = k <;> by_cases e2 : j = k
                      · omega
                      · rw [if_pos e1, if_neg e2] at he
                        have := HGB.out j (by rw [hRP.out.len]; omega); omega
                      · rw [if_neg e1, if_pos e2] at he
                        have := HGB.out i (by rw [hRP.out.len]; omega); omega
                      · rw [if_neg e1, if_neg e2] at he
                        exact hIJ.out i j (by rw [hRP.out.len]; omega) (by rw [hRP.out.len]; omega) he)
                    have HTV4 : Hid _ := hid (hTV.out.keeps hkeep (off_own hr11 (by decide)) (off_own hr11 (by decide)) (off_own hr11 (by decide)))
                    have HNS4 : Hid _ := hid (hNS.out.keeps hkeep (off_own hr11 (by decide)) (fun m hm hx => by have := hSg _ hx; have := HNB.out.2.1 m hm; omega) (fun m rs' k' h1 h2 hx => by have := hSg _ hx; have := HNB.out.2.2 m rs' k' h1 h2; omega))
                    have HB4 : Hid (Below w.heap.size w w4) := hid (hbn.out.trans (hkeep.below (by have := HNB.out.1; omega) (fun q hq => by have := hSg q hq; have := HNB.out.1; omega)))
                    have HRP4 : Hid (RulP T NN n cnt (k + 1) (rs ++ [r])) := hid (hRP.out.add (hPP.out.head) (by rw [← HL13.out]; exact hl13s) (hPP.out.part) (hPP.out.last) (fun h _ _ => absurd h hk0))
                    have HS4 : Hid (wn.heap.size ≤ w4.heap.size) := hid (Nat.le_trans hwnW hkeep.size)
                    clear hown4 hgrow4 hat4 hlt4 hkeep hr11 hSg
                    go_wp2
                    go_roundw
                    case rel => exact ⟨k + 1, xp, rs ++ [r], _, _, _, by omega, by go_num, rfl, by omega, by rfl, HRP4, HRS4, HIJ4, HTV4, HNS4, HB4, HS4⟩
                    case measure => simp [intOf]; omega
            · have hkz : k = cnt := by omega
              subst hkz
              have hrl := hRP.out.len
              have hnl := hNP.out.len
              obtain ⟨g11, c11, hv11, hq1, hq2, hq3⟩ := owned_shape hRS.out.row (show 0 < rs.length by omega)
              rw [hrl] at hv11
              subst hv11
              obtain ⟨xs, hxs⟩ : ∃ xs, xs = (List.range L.length).map fun n => Value.slice (some ⟨gn n, 0, none⟩) ((L.getD n []).length) (cn n) := ⟨_, rfl⟩
              have hrN := hNS.out.row
              rw [← hxs, hnl] at hrN
              have HXS : Hid _ := hid hxs
              have c0 := hTV.out.cells.1
              have hwW : w.heap.size ≤ wk.heap.size := Nat.le_trans HNB.out.1 hsz.out
              have hbl : w.heap.size < wk.heap.size := lt_of_block hTV.out.blk
              have hfB : some w.heap.size ≠ vR.ownBlock := fun e => own_not_block hrN hTV.out.blk (by decide) e.symm
              have hwnk : wn.heap.size ≤ wk.heap.size := hsz.out
              clear hxs hrl hnl
              go_upto_region 40 with (first | (at_builtin; refine wpList_append_lies _ rfl _ _ 64 rfl w.heap.size 46 iN (.slice none 0 0) 1 24 Tryz.underlying64 hiN hzN0 hzN1 hzN2 rfl (by decide) _ _ _ rfl (hrN.alloc _) ⟨wk.heap.size, 0, none⟩ 1 1 [.slice (some ⟨g11, 0, none⟩) k c11] rfl rfl (World.news_of_block (heap_alloc_new wk _)) ?d2 (Nat.le_refl 1) ?d3 ?d4 ?d5 _ rfl ?_))
              case d2 => first | rfl | (intro u hu; simp at hu; subst hu; rfl)
              case d3 => unfold maxLen; omega
              case d4 => omega
              case d5 => first | omega | (simp; omega)
              intro g4 cap4 w4 hown4 hgrow4 hat4 hlt4
              have hkeep : Keeps wk w4 vR.ownBlock.toList := ((Keeps.refl _ _).alloc _).grown hgrow4 (fun q hq => .inl (by rw [hq]; simp))
              have hb4 := (hkeep.block w.heap.size hbl (fun hm => hfB (mem_own hm).symm)).trans hTV.out.blk
              have b14 : w4.cell? ⟨w.heap.size, 0, none⟩ = some vR := block_cell hb4
              have f14 : w4.frozen? ⟨w.heap.size, 0, none⟩ = false := block_free hb4
              have HTV5 : Hid _ := hid (hTV.out.setR hrN hkeep (.slice (some ⟨g4, 0, none⟩) (n + 1) cap4))
              have HNS5 : Hid (NsV (w4.setCell ⟨w.heap.size, 0, none⟩ (.slice (some ⟨g4, 0, none⟩) (n + 1) cap4)) w.heap.size (.slice (some ⟨g4, 0, none⟩) (n + 1) cap4) (L ++ [rs]) (fun m => if m = n then g11 else gn m) (fun m => if m = n then c11 else cn m) (fun m j => if m = n then gk j else gr m j) (fun m j => if m = n then ck j else cr m j)) := hid (by
                have h := NsV.push hNS.out (rs := rs) (g := g11) (c := c11) (by rw [hRP.out.len]; exact hRS.out.base HNB.out.1) hIJ.out (fun m rs' i j h1 h2 h3 e => by have := HNB.out.2.2 m rs' i h1 h2; have := (hRS.out.lt h3).1; omega) hkeep (by rw [hRP.out.len, ← HXS.out, hNP.out.len]; exact hown4)
                rw [hNP.out.len] at h
                exact h.setOther hb4)
              have HB5 : Hid (Below w.heap.size w (w4.setCell ⟨w.heap.size, 0, none⟩ (.slice (some ⟨g4, 0, none⟩) (n + 1) cap4))) := hid ((hbn.out.trans (hkeep.below hwW (own_ge hrN))).setCell (by exact Nat.le_refl _) _)
              clear hown4 hgrow4 hat4 hlt4 hkeep hrN hb4 hfB hTV hNS hbn c0
              go_upto_region 40 with fail
              obtain ⟨W5, hW5⟩ : ∃ W, w4.setCell ⟨w.heap.size, 0, none⟩ (.slice (some ⟨g4, 0, none⟩) (n + 1) cap4) = W := ⟨_, rfl⟩
              rw [hW5] at HTV5 HNS5 HB5 ⊢
              have hTT : 0 < T := by omega
              have hxkb : xk ≤ 26 + 25 * (n + 1) := by omega
              have hb0 : w.heap.size ≤ W5.heap.size := HB5.out.size
              clear hW5 b14 f14
              by_cases hc1 : k = 1
              · have hk1i : ((k : Int) == 1) = true := by simp; omega
                have HPre : Hid (Mk.Pre ⟨pu, dr, sw, L ++ [rs]⟩ NN) := hid (pre_one hNP.out HPT.out hT2 hN2.2 hln (by have h1 := hRP.out; rwa [hc1] at h1))
                have hL1 : (L ++ [rs]).length = n + 1 := by rw [List.length_append, hNP.out.len]; rfl
                have hrl : ∀ q ∈ L ++ [rs], 0 < q.length := fun q hq => (HPre.out.c1 q hq).1
                have hql : ∀ q ∈ L ++ [rs], ∀ a ∈ q, 0 < a.length := fun q hq a ha => by
                  obtain ⟨i, hi, rfl⟩ := List.mem_iff_getElem.1 ha
                  have h1 := (HPre.out.head q hq i _ (List.getElem?_eq_getElem hi)).1
                  cases h2 : q[i] with
                  | nil => rw [h2] at h1; cases h1
                  | cons x l => simp
                obtain ⟨role, hro⟩ := role_ex HNS5.out
                obtain ⟨gR, cR, hsc⟩ := shc_of HTV5.out HNS5.out (by rw [hL1]; omega) hrl hql hro
                have HSM : Hid (Small (L ++ [rs])) := hid ⟨by rw [hL1]; omega, fun q hq => by have := (HPre.out.c1 q hq).2; have h6 := HPre.out.t6; omega, fun q hq a ha => by
                  obtain ⟨i, hi, rfl⟩ := List.mem_iff_getElem.1 ha
                  exact (HPre.out.head q hq i _ (List.getElem?_eq_getElem hi)).2, fun q hq a ha x hx => by
                  have h1 := HPre.out.part q hq a ha x hx
                  have h6 := HPre.out.t6
                  have h4 := HPre.out.n4
                  cases x with
                  | tok t => have h7 : t < pu.length := h1; show t < 6; simp only at h6; omega
                  | nam m => have h7 : m < NN := h1; show m < 4; omega⟩
                have hgr : ∀ (m : Nat) q (j : Nat) a, (L ++ [rs])[m]? = some q → q[j]? = some a → w.heap.size ≤ (fun m j => if m = n then gk j else gr m j) m j := fun m q j a h1 h2 => ((HNS5.out.each m q h1).lt (List.getElem?_eq_some_iff.1 h2).1).1
                have HSH : Hid _ := hid (short_any (L ++ [rs]) HSM.out (L ++ [rs]).length W5 w.heap.size w.heap.size role gR cR _ _ _ _ _ hsc (cutAt_start _ _) hgr)
                have HRO : Hid _ := hid hro
                have HRL : Hid _ := hid (And.intro hrl hql)
                have HL1 : Hid _ := hid hL1
                rw [hL1] at HSH
                have hn1T : ((n + 1 : Nat) : Int) = (n : Int) + 1 := by omega
                rw [hn1T] at HSH
                clear hrl hql hsc hro hgr hL1 hc1 hn1T
                go_wp2_with (first | (go_at_call 67; refine HSH.out.mono ?_; rintro e w6 ⟨rfl, hc6, hre6, hb6⟩; have H6 : Hid _ := hid (And.intro hc6 (And.intro hre6 hb6)); clear hc6 hre6 hb6))
                go_ret
                obtain ⟨⟨c6, hcut, hsh⟩, hre, hb6⟩ := H6.out
                refine ⟨w.heap.size, Mk.cut ⟨pu, dr, sw, L ++ [rs]⟩, rfl, HPre.out.cut_good, ?_, HB5.out.trans hb6⟩
                exact mkv_cut HTV5.out hTT HPT.out.pl HPT.out.dl HPT.out.sl (by rw [HL1.out]; omega) HRL.out.1 HRL.out.2 HRO.out hsh (by rw [HL1.out]; exact hcut) hre hb6.size
              · have hk1i : ((k : Int) == 1) = false := by simp; omega
                have HNP5 : Hid (NamP T NN (n + 1) (L ++ [rs])) := hid (hNP.out.add hRP.out (by omega) (by omega))
                clear hc1
                go_wp2
                go_roundw
                case rel => exact ⟨n + 1, xk, L ++ [rs], _, _, _, _, _, by omega, by go_num, rfl, hxkb, HNP5, HTV5, HNS5, HB5⟩
                case measure => simp [intOf]; omega
        · have hnn : n = NN := by omega
          have HPre : Hid (Mk.Pre ⟨pu, dr, sw, L⟩ NN) := hid (pre_all hNP.out HPT.out hT2 hN2.2 hn (by omega))
          have hTT : 0 < T := by omega
          have HM : Hid (MkV wn wn.heap.size w.heap.size ⟨pu, dr, sw, L⟩) := hid (mkv_of hTV.out hNS.out hTT HPT.out.pl HPT.out.dl HPT.out.sl (by rw [hNP.out.len]; omega) (fun q hq => (HPre.out.c1 q hq).1) (fun q hq a ha => by
            obtain ⟨i, hi, rfl⟩ := List.mem_iff_getElem.1 ha
            have h1 := (HPre.out.head q hq i _ (List.getElem?_eq_getElem hi)).1
            cases h2 : q[i] with
            | nil => rw [h2] at h1; cases h1
            | cons x l => simp))
          clear hTV hNS
          go_wp2
          go_ret
          exact ⟨w.heap.size, ⟨pu, dr, sw, L⟩, rfl, Mk.Pre.good (by have h1 := HPre.out; rwa [show NN = (Mk.rules ⟨pu, dr, sw, L⟩).length from by show NN = L.length; rw [hNP.out.len]; omega] at h1), HM.out, hbn.out⟩

end Go.Proofs.YtjjggdcnpndgjaaGreatDoor
