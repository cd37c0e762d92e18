/- What build lays of the names (heap); what lies in the end is the made grammar. What short is handed, and what it leaves: the made grammar, cut. -/
import Derived.Test.YtjjggdcnpndgjaaGreatDoorJ21
namespace Go.Proofs.YtjjggdcnpndgjaaGreatDoor
open Go.RowKit

theorem own_base {w : World} {B B' e sz n : Nat} {v : Value} {xs : List Value} (h : w.ownsRow B e sz v n xs) (hB : B' ≤ B) : w.ownsRow B' e sz v n xs := by
  obtain ⟨h1, h2⟩ := h
  refine ⟨h1, ?_⟩
  rcases h2 with h2 | ⟨g, cap, cur, hv, hg, r⟩
  · exact .inl h2
  · exact .inr ⟨g, cap, cur, hv, Nat.le_trans hB hg, r⟩

theorem RsV.base {w : World} {B B' : Nat} {v : Value} {rs : List (List Pt)} {gk ck : Nat → Nat} (h : RsV w B v rs gk ck) (hB : B' ≤ B) : RsV w B' v rs gk ck :=
  ⟨own_base h.row hB, fun k r hr => own_base (h.each k r hr) hB⟩

theorem RsV.kind {w : World} {B : Nat} {v : Value} {rs : List (List Pt)} {gk ck : Nat → Nat} (h : RsV w B v rs gk ck) {k : Nat} (hk : k < rs.length) : ∃ c, w.heap[gk k]? = some (.cells c 9 (0, 0)) := by
  obtain ⟨r, hr⟩ : ∃ r, rs[k]? = some r := ⟨_, List.getElem?_eq_getElem hk⟩
  exact own_kind (h.each k r hr) rfl

/-- One more name. -/
theorem NsV.push {w w1 : World} {B g c g' cap : Nat} {v : Value} {L : List (List (List Pt))} {gn cn : Nat → Nat} {gr cr : Nat → Nat → Nat} {rs : List (List Pt)} {gk ck : Nat → Nat} (h : NsV w B v L gn cn gr cr) (hr : RsV w B (.slice (some ⟨g, 0, none⟩) rs.length c) rs gk ck)
    (hinj : ∀ i j, i < rs.length → j < rs.length → gk i = gk j → i = j) (hold : ∀ (n : Nat) rs' (k j : Nat), L[n]? = some rs' → k < rs'.length → j < rs.length → gr n k ≠ gk j) (hk : Keeps w w1 v.ownBlock.toList)
    (hown : w1.ownsRow B 46 1 (.slice (some ⟨g', 0, none⟩) (L.length + 1) cap) (L.length + 1) (((List.range L.length).map fun n => Value.slice (some ⟨gn n, 0, none⟩) ((L.getD n []).length) (cn n)) ++ [.slice (some ⟨g, 0, none⟩) rs.length c])) :
    NsV w1 B (.slice (some ⟨g', 0, none⟩) (L.length + 1) cap) (L ++ [rs]) (fun n => if n = L.length then g else gn n) (fun n => if n = L.length then c else cn n) (fun n k => if n = L.length then gk k else gr n k) (fun n k => if n = L.length then ck k else cr n k) := by
  have hrs : ∀ {q : Value} {qs : List (List Pt)} {fk fc : Nat → Nat}, RsV w B q qs fk fc → RsV w1 B q qs fk fc := fun hq => hq.keeps hk (off_own h.row (by decide)) (fun k hkl hm => by
    obtain ⟨cc, hc⟩ := hq.kind hkl
    obtain ⟨dd, hd⟩ := own_kind h.row (mem_own hm)
    exact kind_ne hc hd (by decide) rfl)
  refine ⟨?_, fun n qs hq => ?_, fun n k n' k' qs qs' h1 h2 h3 h4 he => ?_⟩
  · rw [List.length_append, List.length_singleton]
    rw [range_snoc L.length (fun n => Value.slice (some ⟨gn n, 0, none⟩) ((L.getD n []).length) (cn n))]
    · simp only [if_pos, List.getD_eq_getElem?_getD, List.getElem?_concat_length, Option.getD_some]
      simp only [List.getD_eq_getElem?_getD] at hown
      exact hown
    · intro i hi
      simp only [if_neg (show ¬ i = L.length by omega), List.getD_eq_getElem?_getD, List.getElem?_append_left hi]
  · by_cases hi : n < L.length
    · rw [List.getElem?_append_left hi] at hq
      simp only [if_neg (show ¬ n = L.length by omega)]
      exact hrs (h.each n qs hq)
    · rw [List.getElem?_append_right (by omega)] at hq
      obtain ⟨hl, e⟩ := List.getElem?_eq_some_iff.1 hq
      simp only [List.length_singleton] at hl
      have hn : n = L.length := by omega
      subst hn
      simp only [Nat.sub_self, List.getElem_singleton] at e
      subst e
      simp only [if_pos]
      exact hrs hr
  · have old : ∀ {m : Nat} {ps : List (List Pt)}, (L ++ [rs])[m]? = some ps → (m < L.length ∧ L[m]? = some ps) ∨ (m = L.length ∧ ps = rs) := fun {m ps} hm => by
      by_cases hi : m < L.length
      · rw [List.getElem?_append_left hi] at hm; exact .inl ⟨hi, hm⟩
      · rw [List.getElem?_append_right (by omega)] at hm
        obtain ⟨hl, e⟩ := List.getElem?_eq_some_iff.1 hm
        simp only [List.length_singleton] at hl
        have hm' : m = L.length := by omega
        subst hm'
        simp only [Nat.sub_self, List.getElem_singleton] at e
        exact .inr ⟨rfl, e.symm⟩
    rcases old h1 with ⟨a1, a2⟩ | ⟨rfl, rfl⟩ <;> rcases old h3 with ⟨b1, b2⟩ | ⟨rfl, rfl⟩
    · simp only [if_neg (show ¬ n = L.length by omega), if_neg (show ¬ n' = L.length by omega)] at he
      exact h.inj n k n' k' qs qs' a2 h2 b2 h4 he
    · simp only [if_neg (show ¬ n = L.length by omega), if_pos] at he
      exact absurd he (hold n qs k k' a2 h2 h4)
    · simp only [if_neg (show ¬ n' = L.length by omega), if_pos] at he
      exact absurd he.symm (hold n' qs' k' k b2 h4 h2)
    · simp only [if_pos] at he
      exact ⟨rfl, hinj k k' h2 h4 he⟩

theorem NsV.setOther {w : World} {B gb j : Nat} {u v : Value} {L : List (List (List Pt))} {gn cn : Nat → Nat} {gr cr : Nat → Nat → Nat} {cs : Array Value} {fr : Nat × Nat} (h : NsV w B v L gn cn gr cr) (hb : w.heap[gb]? = some (.cells cs 77 fr)) : NsV (w.setCell ⟨gb, j, none⟩ u) B v L gn cn gr cr :=
  ⟨row_over' h.row hb (by decide), fun n rs hn => (h.each n rs hn).setOther hb (by decide) (by decide), h.inj⟩

theorem TokV.setR {w w1 : World} {B b T : Nat} {pu dr : List Nat} {sw : List (List Nat)} {vR vP vD vS : Value} {sg : Nat → Nat} {n : Nat} {xs : List Value} (h : TokV w B b T pu dr sw vR vP vD vS sg) (hrow : w.ownsRow B 46 1 vR n xs) (hk : Keeps w w1 vR.ownBlock.toList) (u : Value) : TokV (w1.setCell ⟨b, 0, none⟩ u) B b T pu dr sw u vP vD vS sg := by
  have h' := h.keeps hk (off_own hrow (by decide)) (off_own hrow (by decide)) (off_own hrow (by decide))
  refine ⟨cells_set h'.blk _, h'.hb, row_over' h'.puts h'.blk (by decide), row_over' h'.drops h'.blk (by decide), row_over' h'.swaps h'.blk (by decide), fun i r hr => ?_, h'.pd, h'.ps, h'.inj⟩
  obtain ⟨h1, h2, h3⟩ := h'.rows i r hr
  exact ⟨(Below.heap_setCell _ _ _ _ (by exact kind_ne h1 h'.blk (by decide))).trans h1, h2, h3⟩

theorem list_own {w : World} {B e : Nat} {v : Value} {n : Nat} {xs : List Value} (h : w.ownsRow B e 1 v n xs) (hn : 0 < n) {P : Nat → Value → Prop} (hP : ∀ j, j < n → ∃ x, xs[j]? = some x ∧ P j x) : ListV w w.heap.size v n P := by
  obtain ⟨g, cap, rfl, _, h2, h3⟩ := owned_shape h hn
  refine ⟨g, cap, rfl, h3, h2, fun j hj => ?_⟩
  obtain ⟨x, hx, hp⟩ := hP j hj
  exact ⟨x, (h.cellAt j (by omega)).trans hx, hp⟩

theorem ints_at (l : List Nat) {j : Nat} (h : j < l.length) : (ints l)[j]? = some (.int .i64 (l.getD j 0 : Nat)) := by
  unfold ints
  rw [List.getElem?_map, List.getElem?_eq_getElem h, List.getD_eq_getElem?_getD, List.getElem?_eq_getElem h]
  rfl

theorem range_at {α : Type} (f : Nat → α) {n j : Nat} (h : j < n) : ((List.range n).map f)[j]? = some (f j) := by
  rw [List.getElem?_map, List.getElem?_range h]; rfl

/-- What lies is the grammar. -/
theorem mkv_of {w : World} {B b T : Nat} {pu dr : List Nat} {sw : List (List Nat)} {vR vP vD vS : Value} {sg : Nat → Nat} {L : List (List (List Pt))} {gn cn : Nat → Nat} {gr cr : Nat → Nat → Nat} (h : TokV w B b T pu dr sw vR vP vD vS sg) (hN : NsV w B vR L gn cn gr cr)
    (hT : 0 < T) (hp : pu.length = T) (hd : dr.length = T) (hs : sw.length = T) (hl : 0 < L.length) (hr : ∀ rs ∈ L, 0 < rs.length) (hq : ∀ rs ∈ L, ∀ r ∈ rs, 0 < r.length) : MkV w w.heap.size b ⟨pu, dr, sw, L⟩ where
  lt := lt_of_block h.blk
  rules := ⟨vR, h.cells.1, list_own hN.row hl (fun n hn => ⟨_, range_at _ hn, by
    obtain ⟨rs, hrs⟩ : ∃ rs, L[n]? = some rs := ⟨_, List.getElem?_eq_getElem hn⟩
    have hm := List.mem_of_getElem? hrs
    have e : (L.getD n []) = rs := by rw [List.getD_eq_getElem?_getD, hrs]; rfl
    rw [e]
    refine ⟨rs, hrs, list_own (hN.each n rs hrs).row (hr rs hm) (fun k hk => ⟨_, range_at _ hk, ?_⟩)⟩
    obtain ⟨r, hrk⟩ : ∃ r, rs[k]? = some r := ⟨_, List.getElem?_eq_getElem hk⟩
    have e2 : (rs.getD k []) = r := by rw [List.getD_eq_getElem?_getD, hrk]; rfl
    rw [e2]
    refine ⟨r, hrk, list_own ((hN.each n rs hrs).each k r hrk) (hq rs hm r (List.mem_of_getElem? hrk)) (fun p hp => ?_)⟩
    obtain ⟨q, hq⟩ : ∃ q, r[p]? = some q := ⟨_, List.getElem?_eq_getElem hp⟩
    exact ⟨.string (wordP q), by unfold wds; rw [List.getElem?_map, hq]; rfl, q, hq, rfl⟩⟩)⟩
  puts := ⟨vP, h.cells.2.1, list_own h.puts (by omega) (fun j hj => ⟨_, ints_at pu hj, rfl⟩)⟩
  drops := ⟨vD, h.cells.2.2.1, by
    have h1 := h.drops
    rw [hd, ← hp] at h1
    exact list_own h1 (by show 0 < pu.length; omega) (fun j hj => ⟨_, ints_at dr (by rw [hd, ← hp]; exact hj), rfl⟩)⟩
  swaps := ⟨vS, h.cells.2.2.2, by
    have h1 := h.swaps
    rw [hs] at h1
    have h2 : ∀ i, i < T → ListV w w.heap.size (.slice (some ⟨sg i, 0, none⟩) T T) T fun j y => y = .int .i64 (swpOf ⟨pu, dr, sw, L⟩ i j : Nat) := fun i hi => by
      obtain ⟨r, hri⟩ : ∃ r, sw[i]? = some r := ⟨_, List.getElem?_eq_getElem (by omega)⟩
      obtain ⟨k1, k2, k3⟩ := h.rows i r hri
      refine ⟨sg i, T, rfl, Nat.le_refl _, lt_of_block k1, fun j hj => ⟨_, (block_cell k1).trans ?_, rfl⟩⟩
      rw [List.getElem?_toArray, ints_at r (by omega)]
      congr 3
      unfold swpOf
      simp only [List.getD_eq_getElem?_getD, hri, Option.getD_some]
    show ListV w w.heap.size vS pu.length _
    rw [hp]
    exact list_own h1 hT (fun i hi => ⟨_, range_at _ hi, h2 i hi⟩)⟩

end Go.Proofs.YtjjggdcnpndgjaaGreatDoor

namespace Go.Proofs.YtjjggdcnpndgjaaGreatDoor
open Go.RowKit

/-- A block's place among the rules: those of the rules have one, those of another kind have none. -/
def RoleOk (w : World) (L : List (List (List Pt))) (gr : Nat → Nat → Nat) (role : Nat → Option (Nat × Nat)) : Prop :=
  (∀ (n k : Nat) rs r, L[n]? = some rs → rs[k]? = some r → role (gr n k) = some (n, k)) ∧ ∀ (g t : Nat) (c : Array Value) (fr : Nat × Nat), w.heap[g]? = some (.cells c t fr) → t ≠ 9 → role g = none

theorem role_ex {w : World} {B : Nat} {v : Value} {L : List (List (List Pt))} {gn cn : Nat → Nat} {gr cr : Nat → Nat → Nat} (h : NsV w B v L gn cn gr cr) : ∃ role, RoleOk w L gr role := by
  classical
  refine ⟨fun g => if hx : ∃ x : Nat × Nat, ∃ rs r, L[x.1]? = some rs ∧ rs[x.2]? = some r ∧ gr x.1 x.2 = g then some hx.choose else none, fun n k rs r hn hk => ?_, fun g t c fr hg ht => ?_⟩
  · have hx : ∃ x : Nat × Nat, ∃ rs r, L[x.1]? = some rs ∧ rs[x.2]? = some r ∧ gr x.1 x.2 = gr n k := ⟨(n, k), rs, r, hn, hk, rfl⟩
    show (if hx : ∃ x : Nat × Nat, ∃ rs r, L[x.1]? = some rs ∧ rs[x.2]? = some r ∧ gr x.1 x.2 = gr n k then some hx.choose else none) = _
    rw [dif_pos hx]
    obtain ⟨rs', r', h1, h2, h3⟩ := hx.choose_spec
    obtain ⟨e1, e2⟩ := h.inj _ _ _ _ rs' rs h1 (List.getElem?_eq_some_iff.1 h2).1 hn (List.getElem?_eq_some_iff.1 hk).1 h3
    congr 1
    exact Prod.ext e1 e2
  · show (if hx : ∃ x : Nat × Nat, ∃ rs r, L[x.1]? = some rs ∧ rs[x.2]? = some r ∧ gr x.1 x.2 = g then some hx.choose else none) = _
    rw [dif_neg]
    rintro ⟨x, rs, r, h1, h2, rfl⟩
    obtain ⟨d, hd⟩ := (h.each x.1 rs h1).kind (List.getElem?_eq_some_iff.1 h2).1
    exact kind_ne hg hd ht rfl

def partAt (L : List (List (List Pt))) (n k p : Nat) : Pt := ((L.getD n []).getD k []).getD p (.tok 0)

theorem partAt_eq {L : List (List (List Pt))} {n k p : Nat} {rs : List (List Pt)} {r : List Pt} {a : Pt} (h1 : L[n]? = some rs) (h2 : rs[k]? = some r) (h3 : r[p]? = some a) : partAt L n k p = a := by
  unfold partAt
  simp only [List.getD_eq_getElem?_getD, h1, h2, h3, Option.getD_some]

theorem cutAt_start (n : Nat) (L : List (List (List Pt))) : CutAt n L 0 0 0 (partAt L) :=
  ⟨fun n' rs k' r p' a h1 h2 h3 => ⟨fun hd => by unfold donB at hd; omega, fun _ => partAt_eq h1 h2 h3⟩⟩

theorem shc_of {w : World} {B b T : Nat} {pu dr : List Nat} {sw : List (List Nat)} {vR vP vD vS : Value} {sg : Nat → Nat} {L : List (List (List Pt))} {gn cn : Nat → Nat} {gr cr : Nat → Nat → Nat} (h : TokV w B b T pu dr sw vR vP vD vS sg) (hN : NsV w B vR L gn cn gr cr)
    (hl : 0 < L.length) (hr : ∀ rs ∈ L, 0 < rs.length) (hq : ∀ rs ∈ L, ∀ r ∈ rs, 0 < r.length) {role : Nat → Option (Nat × Nat)} (hro : RoleOk w L gr role) : ∃ gR cR, ShC w b L role gR cR gn cn gr cr (partAt L) := by
  obtain ⟨gR, cR, rfl, _, hgl, hcR⟩ := owned_shape hN.row hl
  obtain ⟨cc, hcc⟩ := own_kind hN.row (g := gR) rfl
  have hname : ∀ {n : Nat} {rs : List (List Pt)}, L[n]? = some rs → ∃ c, w.heap[gn n]? = some (.cells c 39 (0, 0)) := fun hn => own_kind (hN.each _ _ hn).row rfl
  have hcap : ∀ {e n g c : Nat} {xs : List Value}, w.ownsRow B e 1 (.slice (some ⟨g, 0, none⟩) n c) n xs → 0 < n → n ≤ c := fun h0 hn => by
    obtain ⟨g', c', e, _, _, h5⟩ := owned_shape h0 hn
    injection e with _ _ e3
    omega
  refine ⟨gR, cR, hro.2 _ _ _ _ h.blk (by decide), hro.2 _ _ _ _ hcc (by decide), fun n hn => ?_, fun n rs k r h1 h2 => hro.1 n k rs r h1 h2, h.cells.1, hcR, fun n rs hn => ?_, fun n rs k r hn hk => ?_, fun n rs k r p a hn hk hp => ?_⟩
  · obtain ⟨rs, hrs⟩ : ∃ rs, L[n]? = some rs := ⟨_, List.getElem?_eq_getElem hn⟩
    obtain ⟨c, hc⟩ := hname hrs
    exact hro.2 _ _ _ _ hc (by decide)
  · have hnl := (List.getElem?_eq_some_iff.1 hn).1
    have e : (L.getD n []) = rs := by rw [List.getD_eq_getElem?_getD, hn]; rfl
    refine ⟨(hN.row.cellAt n (by omega)).trans ?_, hcap (hN.each n rs hn).row (hr rs (List.mem_of_getElem? hn))⟩
    rw [range_at _ hnl, e]
  · have hkl := (List.getElem?_eq_some_iff.1 hk).1
    have e : (rs.getD k []) = r := by rw [List.getD_eq_getElem?_getD, hk]; rfl
    refine ⟨((hN.each n rs hn).row.cellAt k (by omega)).trans ?_, hcap ((hN.each n rs hn).each k r hk) (hq rs (List.mem_of_getElem? hn) r (List.mem_of_getElem? hk))⟩
    rw [range_at _ hkl, e]
  · have hpl := (List.getElem?_eq_some_iff.1 hp).1
    refine ⟨(((hN.each n rs hn).each k r hk).cellAt p (by omega)).trans ?_, ((hN.each n rs hn).each k r hk).frozenAt p⟩
    unfold wds
    rw [List.getElem?_map, hp, partAt_eq hn hk hp]
    rfl

theorem list_rest {w w' : World} {role : Nat → Option (Nat × Nat)} {B e : Nat} {v : Value} {n : Nat} {xs : List Value} (h : w.ownsRow B e 1 v n xs) (hn : 0 < n) (hrole : ∀ g c, w.heap[g]? = some (.cells c e (0, 0)) → role g = none) (hre : Rest role w w') (hsz : w.heap.size ≤ w'.heap.size) {P : Nat → Value → Prop} (hP : ∀ j, j < n → ∃ x, xs[j]? = some x ∧ P j x) : ListV w' w'.heap.size v n P := by
  obtain ⟨g, cap, rfl, _, h2, h3⟩ := owned_shape h hn
  obtain ⟨c, hc⟩ := own_kind h (g := g) rfl
  refine ⟨g, cap, rfl, h3, by omega, fun j hj => ?_⟩
  obtain ⟨x, hx, hp⟩ := hP j hj
  exact ⟨x, (hre g j (hrole g c hc)).trans ((h.cellAt j (by omega)).trans hx), hp⟩

/-- What lies behind short is the grammar, cut. -/
theorem mkv_cut {w w' : World} {B b T : Nat} {pu dr : List Nat} {sw : List (List Nat)} {vR vP vD vS : Value} {sg : Nat → Nat} {L : List (List (List Pt))} {gn cn : Nat → Nat} {gr cr : Nat → Nat → Nat} (h : TokV w B b T pu dr sw vR vP vD vS sg)
    (hT : 0 < T) (hp : pu.length = T) (hd : dr.length = T) (hs : sw.length = T) (hl : 0 < L.length) (hr : ∀ rs ∈ L, 0 < rs.length) (hq : ∀ rs ∈ L, ∀ r ∈ rs, 0 < r.length)
    {role : Nat → Option (Nat × Nat)} (hro : RoleOk w L gr role) {gR cR : Nat} {c : Nat → Nat → Nat → Pt} (hS : ShC w' b L role gR cR gn cn gr cr c) (hC : CutAt L.length L L.length 0 0 c) (hre : Rest role w w') (hsz : w.heap.size ≤ w'.heap.size) : MkV w' w'.heap.size b (Mk.cut ⟨pu, dr, sw, L⟩) := by
  have hcl : (cutL L.length L).length = L.length := by unfold cutL; rw [List.length_map]
  have hrole : ∀ {e : Nat}, e ≠ 9 → ∀ g c, w.heap[g]? = some (.cells c e (0, 0)) → role g = none := fun he g c hg => hro.2 _ _ _ _ hg he
  have hcell : ∀ (j : Nat), w'.cell? ⟨b, j, none⟩ = w.cell? ⟨b, j, none⟩ := fun j => hre b j (hro.2 _ _ _ _ h.blk (by decide))
  refine ⟨by have := lt_of_block h.blk; omega, ⟨_, hS.c0, ?_⟩, ⟨vP, (hcell 1).trans h.cells.2.1, ?_⟩, ⟨vD, (hcell 2).trans h.cells.2.2.1, ?_⟩, ⟨vS, (hcell 3).trans h.cells.2.2.2, ?_⟩⟩
  · show ListV w' w'.heap.size (.slice (some ⟨gR, 0, none⟩) L.length cR) (cutL L.length L).length _
    rw [hcl]
    obtain ⟨rs0, hrs0⟩ : ∃ rs, L[0]? = some rs := ⟨_, List.getElem?_eq_getElem hl⟩
    refine ⟨gR, cR, rfl, hS.lR, World.block_lt_of_cell? _ _ (hS.names 0 rs0 hrs0).1, fun n hn => ?_⟩
    obtain ⟨rs, hrs⟩ : ∃ rs, L[n]? = some rs := ⟨_, List.getElem?_eq_getElem hn⟩
    have hm := List.mem_of_getElem? hrs
    obtain ⟨h1, h2⟩ := hS.names n rs hrs
    refine ⟨_, h1, rs.map (fun r => r.map (cutP L.length)), by show (cutL L.length L)[n]? = _; unfold cutL; rw [List.getElem?_map, hrs]; rfl, ?_⟩
    rw [List.length_map]
    obtain ⟨r0, hr0⟩ : ∃ r, rs[0]? = some r := ⟨_, List.getElem?_eq_getElem (hr rs hm)⟩
    refine ⟨gn n, cn n, rfl, h2, World.block_lt_of_cell? _ _ (hS.rules n rs 0 r0 hrs hr0).1, fun k hk => ?_⟩
    obtain ⟨r, hrk⟩ : ∃ r, rs[k]? = some r := ⟨_, List.getElem?_eq_getElem hk⟩
    obtain ⟨h3, h4⟩ := hS.rules n rs k r hrs hrk
    refine ⟨_, h3, r.map (cutP L.length), by rw [List.getElem?_map, hrk]; rfl, ?_⟩
    rw [List.length_map]
    have hq0 := hq rs hm r (List.mem_of_getElem? hrk)
    obtain ⟨a0, ha0⟩ : ∃ a, r[0]? = some a := ⟨_, List.getElem?_eq_getElem hq0⟩
    refine ⟨gr n k, cr n k, rfl, h4, World.block_lt_of_cell? _ _ (hS.parts n rs k r 0 a0 hrs hrk ha0).1, fun p hp => ?_⟩
    obtain ⟨a, ha⟩ : ∃ a, r[p]? = some a := ⟨_, List.getElem?_eq_getElem hp⟩
    refine ⟨_, (hS.parts n rs k r p a hrs hrk ha).1, cutP L.length a, by rw [List.getElem?_map, ha]; rfl, ?_⟩
    rw [(hC.holds n rs k r p a hrs hrk ha).1 (by unfold donB; omega)]
  · exact list_rest h.puts (by show 0 < pu.length; omega) (hrole (by decide)) hre hsz (fun j hj => ⟨_, ints_at pu hj, rfl⟩)
  · have h1 := h.drops
    rw [hd, ← hp] at h1
    exact list_rest h1 (by omega) (hrole (by decide)) hre hsz (fun j hj => ⟨_, ints_at dr (by rw [hd, ← hp]; exact hj), rfl⟩)
  · have h1 := h.swaps
    rw [hs] at h1
    show ListV w' w'.heap.size vS pu.length _
    rw [hp]
    refine list_rest h1 hT (hrole (by decide)) hre hsz (fun i hi => ⟨_, range_at _ hi, ?_⟩)
    obtain ⟨r, hri⟩ : ∃ r, sw[i]? = some r := ⟨_, List.getElem?_eq_getElem (by omega)⟩
    obtain ⟨k1, k2, k3⟩ := h.rows i r hri
    have e : (Mk.cut ⟨pu, dr, sw, L⟩).puts.length = T := hp
    rw [e]
    refine ⟨sg i, T, rfl, Nat.le_refl _, by have := lt_of_block k1; omega, fun j hj => ⟨_, (hre (sg i) j (hro.2 _ _ _ _ k1 (by decide))).trans ((block_cell k1).trans ?_), rfl⟩⟩
    rw [List.getElem?_toArray, ints_at r (by omega)]
    congr 3
    unfold swpOf
    simp only [Mk.cut, List.getD_eq_getElem?_getD, hri, Option.getD_some]

end Go.Proofs.YtjjggdcnpndgjaaGreatDoor
