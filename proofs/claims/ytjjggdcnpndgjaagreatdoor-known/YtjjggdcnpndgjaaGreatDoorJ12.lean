/- Rows that are made. What Told leans on: rows that make lays; a row of facts, one written in place. (*Facts).Told. (*Facts).Told, walked. -/
import Derived.Test.YtjjggdcnpndgjaaGreatDoorJPfault2
import Derived.Test.YtjjggdcnpndgjaaGreatDoorJPwords2
import Derived.Test.YtjjggdcnpndgjaaGreatDoorJ9
import Derived.Test.YtjjggdcnpndgjaaGreatDoorJ8
namespace Go.Proofs.YtjjggdcnpndgjaaGreatDoor
open Go.RowKit

theorem flatM {α : Type} (m : Nat) (f : α → List Value) (hf : ∀ a, (f a).length = m) : ∀ (l : List α) (i : Nat) (a : α) (j : Nat), l[i]? = some a → j < m → (l.flatMap f)[i * m + j]? = (f a)[j]? := by
  intro l
  induction l with
  | nil => intro i a j h; simp at h
  | cons x r ih =>
    intro i a j h hj
    rw [List.flatMap_cons]
    match i with
    | 0 =>
      simp at h; subst h
      rw [List.getElem?_append_left (by rw [hf]; omega)]
      congr 1; omega
    | i + 1 =>
      simp at h
      rw [List.getElem?_append_right (by rw [hf, Nat.succ_mul]; omega), hf]
      rw [← ih i a j h hj]
      congr 1; rw [Nat.succ_mul]; omega

theorem flatM_len {α : Type} (m : Nat) (f : α → List Value) (hf : ∀ a, (f a).length = m) (l : List α) : (l.flatMap f).length = l.length * m := by
  induction l with
  | nil => simp
  | cons x r ih => rw [List.flatMap_cons, List.length_append, ih, hf, List.length_cons, Nat.succ_mul]; omega

theorem made_flat {α : Type} (m : Nat) (hm : 0 < m) (f : α → List Value) (hf : ∀ a, (f a).length = m) (a : α) (n : Nat) : (madeCells (f a).toArray (n * m)).toList = (List.replicate n a).flatMap f := by
  apply List.ext_getElem?
  intro q
  by_cases hq : q < n * m
  · have hd : q / m < n := by rw [Nat.div_lt_iff_lt_mul hm]; exact hq
    have hr : q % m < m := Nat.mod_lt _ hm
    have h1 := flatM m f hf (List.replicate n a) (q / m) a (q % m) (by simp [hd]) hr
    rw [show q / m * m + q % m = q from by rw [Nat.mul_comm]; exact Nat.div_add_mod q m] at h1
    rw [h1]
    unfold madeCells
    rw [Array.toList_map, List.getElem?_map]
    rw [show (Array.range (n * m)).toList[q]? = some q from by simp [hq]]
    simp only [Option.map_some, List.size_toArray, hf]
    rw [List.getElem?_eq_getElem (by rw [hf]; exact hr)]
    simp [hf, hr]
  · rw [List.getElem?_eq_none (by rw [Array.length_toList, size_madeCells]; omega), List.getElem?_eq_none (by rw [flatM_len m f hf]; simp; omega)]

theorem own_made (w : World) (cur : Array Value) (n size e base : Nat) (hb : base ≤ w.heap.size) (hm : n ≤ maxLen) (hs : cur.size = n * size) :
    (w.alloc (.cells cur e)).ownsRow base e size (.slice (some ⟨w.heap.size, 0, none⟩) n n) n cur.toList :=
  ⟨by rw [Array.length_toList]; exact hs, .inr ⟨w.heap.size, n, cur, rfl, hb, heap_alloc_new w _, Nat.le_refl _, hm, hs, List.take_of_length_le (by rw [Array.length_toList, hs]; exact Nat.le_refl _)⟩⟩


end Go.Proofs.YtjjggdcnpndgjaaGreatDoor

namespace Go.Proofs.YtjjggdcnpndgjaaGreatDoor
open Go.RowKit Go.Shelf

theorem fcCells_set : ∀ (fs : List FactR) (ps : List (Value × Value)) (i : Nat) (f : FactR) (p : Value × Value), fs.length = ps.length → i < fs.length →
    fcCells (fs.set i f) (ps.set i p) = (((((fcCells fs ps).set (i * 5) (.string f.name)).set (i * 5 + 1) (.bool f.nul)).set (i * 5 + 2) p.1).set (i * 5 + 3) p.2).set (i * 5 + 4) (.int .i64 f.least)
  | [], _, i, _, _, _, h => by simp at h
  | _ :: _, [], _, _, _, h, _ => by simp at h
  | g :: r, q :: s, 0, f, p, _, _ => by simp [fcCells]
  | g :: r, q :: s, i + 1, f, p, hl, hi => by
    have h1 := fcCells_set r s i f p (by simpa using hl) (by simpa using hi)
    unfold fcCells at h1 ⊢
    simp only [List.set_cons_succ, List.zip_cons_cons, List.flatMap_cons]
    rw [h1]
    simp only [show (i + 1) * 5 = i * 5 + 1 + 1 + 1 + 1 + 1 from by omega, List.cons_append, List.nil_append, List.set_cons_succ]

def zeroR : FactR := ⟨ByteArray.empty, false, [], [], 0⟩
def zeroP : Value × Value := (.slice none 0 0, .slice none 0 0)

/-- The rows of the first j names. -/
def toldR (f : Nat → FactR) (n j : Nat) : List FactR := (List.range n).map fun i => if i < j then f i else zeroR

theorem toldR_len (f : Nat → FactR) (n j : Nat) : (toldR f n j).length = n := by simp [toldR]
theorem toldR_next (f : Nat → FactR) {n j : Nat} (h : j < n) : (toldR f n j).set j (f j) = toldR f n (j + 1) := by
  apply List.ext_getElem?
  intro i
  rw [List.getElem?_set]
  by_cases hi : i < n
  · by_cases e : j = i
    · subst e; simp [toldR, h]
    · rw [if_neg e]
      simp only [toldR, List.getElem?_map, List.getElem?_range hi, Option.map_some]
      congr 1
      by_cases h1 : i < j
      · rw [if_pos h1, if_pos (by omega)]
      · rw [if_neg h1, if_neg (by omega)]
  · rw [if_neg (by omega), List.getElem?_eq_none (by rw [toldR_len]; omega), List.getElem?_eq_none (by rw [toldR_len]; omega)]

theorem FcV.set {w w1 : World} {B n : Nat} {gt : Nat} {fs : List FactR} {ps : List (Value × Value)} (h : FcV w B (.slice (some ⟨gt, 0, none⟩) n n) fs ps) (hn : fs.length = n) {i : Nat} (hi : i < n) {f : FactR} {p : Value × Value} (hp1 : OwnS w B p.1 f.first) (hp2 : OwnS w B p.2 f.follow)
    (hw : w1 = ((((w.setCell ⟨gt, i * 5, none⟩ (.string f.name)).setCell ⟨gt, i * 5 + 1, none⟩ (.bool f.nul)).setCell ⟨gt, i * 5 + 2, none⟩ p.1).setCell ⟨gt, i * 5 + 3, none⟩ p.2).setCell ⟨gt, i * 5 + 4, none⟩ (.int .i64 f.least)) :
    FcV w1 B (.slice (some ⟨gt, 0, none⟩) n n) (fs.set i f) (ps.set i p) ∧ Keeps w w1 [gt] := by
  have hl := h.pl
  have hk : Keeps w w1 [gt] := by
    rw [hw]
    exact (((((Keeps.refl w [gt]).setCell (by simp) _).setCell (by simp) _).setCell (by simp) _).setCell (by simp) _).setCell (by simp) _
  have hoff : ∀ {q : Value} {l : List ByteArray}, OwnS w B q l → ∀ g, q.ownBlock = some g → g ∉ [gt] := fun hq g hg hm => own_apart hq h.row (by decide) hg (by rw [List.mem_singleton.1 hm]; rfl)
  refine ⟨⟨?_, by simp [hl], fun j y q hy hq => ?_⟩, hk⟩
  · rw [fcCells_set fs ps i f p (by omega) (by omega), List.length_set, hn]
    have hr := h.row
    rw [hn] at hr
    rw [hw]
    exact (((((hr.stored (i * 5) _).1.stored (i * 5 + 1) _).1.stored (i * 5 + 2) _).1.stored (i * 5 + 3) _).1.stored (i * 5 + 4) _).1
  · by_cases e : i = j
    · subst e
      rw [List.getElem?_set_self (by omega)] at hy hq
      injection hy with hy; injection hq with hq
      subst hy; subst hq
      exact ⟨hp1.keeps hk (hoff hp1), hp2.keeps hk (hoff hp2)⟩
    · rw [List.getElem?_set_ne e] at hy hq
      have h1 := h.wds j y q hy hq
      exact ⟨h1.1.keeps hk (hoff h1.1), h1.2.keeps hk (hoff h1.2)⟩

end Go.Proofs.YtjjggdcnpndgjaaGreatDoor

namespace Go.Proofs.YtjjggdcnpndgjaaGreatDoor
open Go.RowKit Go.Shelf

theorem Tryz.infoN81 : (Tryz.prog.info? 81).map (fun i => (i.zero, i.size, i.bytes)) = some (some (.agg #[.string ByteArray.empty, .bool false, .slice none 0 0, .slice none 0 0, .int .i64 0]), 5, 80) := by kernel_rfl

def factP (tws : List ByteArray) (pg : List Nm) (nT : Nat) (k : List Fa) (i : Nat) : FactR :=
  ⟨nmW pg i, emP k i, wdsOf tws nT (bitsOf (fhAt k i)), wdsOf tws nT (bitsOf (foAt k i)), flAt k i⟩

theorem fcCells_len (fs : List FactR) (ps : List (Value × Value)) (h : ps.length = fs.length) : (fcCells fs ps).length = fs.length * 5 := by
  unfold fcCells
  rw [flatM_len 5 _ (fun _ => rfl), List.length_zip, h, Nat.min_self]

theorem FcV.cellSome {w : World} {B n gt : Nat} {fs : List FactR} {ps : List (Value × Value)} (h : FcV w B (.slice (some ⟨gt, 0, none⟩) n n) fs ps) (hn : fs.length = n) {q : Nat} (hq : q < n * 5) : ∃ u, w.cell? ⟨gt, q, none⟩ = some u := by
  have hr := h.row
  rw [hn] at hr
  refine ⟨_, (hr.cellAt q hq).trans (List.getElem?_eq_getElem (by rw [fcCells_len _ _ h.pl, hn]; exact hq))⟩

theorem FcV.made (w : World) (n : Nat) (hn : n ≤ 20) (B : Nat) (hB : B ≤ w.heap.size) (F : Nat → FactR) : FcV (w.alloc (.cells (madeCells #[.string ByteArray.empty, .bool false, .slice none 0 0, .slice none 0 0, .int .i64 0] (n * 5)) 81)) B (.slice (some ⟨w.heap.size, 0, none⟩) n n) (toldR F n 0) (List.replicate n zeroP) where
  row := by
    have h1 := own_made w (madeCells #[.string ByteArray.empty, .bool false, .slice none 0 0, .slice none 0 0, .int .i64 0] (n * 5)) n 5 81 B hB (by unfold maxLen; omega) (size_madeCells _ _)
    have h2 := made_flat 5 (by omega) (fun t : FactR × (Value × Value) => [.string t.1.name, .bool t.1.nul, t.2.1, t.2.2, .int .i64 t.1.least]) (fun _ => rfl) (zeroR, zeroP) n
    have h3 : toldR F n 0 = List.replicate n zeroR := by
      unfold toldR
      apply List.ext_getElem?
      intro i
      simp [List.getElem?_replicate]
      by_cases hi : i < n
      · simp [hi]
      · simp [hi]
    rw [h3, List.length_replicate]
    unfold fcCells
    rw [show (List.replicate n zeroR).zip (List.replicate n zeroP) = List.replicate n (zeroR, zeroP) from by simp, ← h2]
    exact h1
  pl := by rw [toldR_len, List.length_replicate]
  wds := fun i x p hx hp => by
    have hi : i < n := by have := (List.getElem?_eq_some_iff.1 hp).1; simpa using this
    have e1 : x = zeroR := by
      simp [toldR, hi] at hx
      exact hx.symm
    have e2 : p = zeroP := by
      rw [List.getElem?_replicate, if_pos hi] at hp
      injection hp with hp
      exact hp.symm
    subst e1; subst e2
    exact ⟨World.ownsRow_nil _ _ _ _, World.ownsRow_nil _ _ _ _⟩

end Go.Proofs.YtjjggdcnpndgjaaGreatDoor

namespace Go.Proofs.YtjjggdcnpndgjaaGreatDoor
open Go.RowKit Go.Shelf

theorem dec_zero (n : Nat) : decide (n = 0) = ((n : Int) == 0) := by
  rw [Bool.eq_iff_iff]
  simp

set_option maxHeartbeats 2000000 in
set_option maxRecDepth 100000 in
theorem told_any (w : World) (n₀ fb kb : Nat) (N : NG) (tws : List ByteArray) (pg : List Nm) (adT : Option Addr) (capT gN capN : Nat) (k : List Fa) (h : FcM w n₀ fb kb N tws pg adT capT gN capN k) (hT : TabAt 1 Lib.deBruijn32tab w)
    (hh : ∀ n, fhAt k n < 2 ^ 21 ∧ ∀ t, t ∈ bitsOf (fhAt k n) → t ≤ N.nT) (ho : ∀ n, foAt k n < 2 ^ 21 ∧ ∀ t, t ∈ bitsOf (foAt k n) → t ≤ N.nT) :
    Calls Tryz.prog 69 #[.pointer (some ⟨fb, 0, none⟩)] w fun e w' => ∃ v ps, e = .returned v ∧ FcV w' w.heap.size v (toldR (factP tws pg N.nT k) N.nN N.nN) ps ∧ Below w.heap.size w w' := by
  obtain ⟨i0, hi, hz0, hz1, hz2⟩ := info_parts Tryz.infoN81
  have hfw := h.lf
  have hkw := h.kn.lt
  have hn20 := h.gr.leN
  have f2 := h.f2
  have H : Hid _ := hid h
  have HT : Hid _ := hid hT
  have HH : Hid _ := hid hh
  have HO : Hid _ := hid ho
  obtain ⟨nN, hn1⟩ : ∃ n, n = N.nN := ⟨_, rfl⟩
  rw [← hn1] at hn20 f2 ⊢
  have HN : Hid (nN = N.nN) := hid hn1
  obtain ⟨F, hF⟩ : ∃ F, F = factP tws pg N.nT k := ⟨_, rfl⟩
  rw [← hF]
  have HF : Hid (F = factP tws pg N.nT k) := hid hF
  clear h hT hh ho hn1 hF
  go_enter Tryz.func69, Tryz.ntmps69
  go_wp2_with (at_make; refine wpList_make_exact _ rfl _ _ 22 rfl 81 i0 (.agg #[.string ByteArray.empty, .bool false, .slice none 0 0, .slice none 0 0, .int .i64 0]) Tryz.underlying22 hi hz0 _ _ nN rfl rfl rfl rfl (by rw [hz2]; omega) (by omega) ?_; rw [hz1])
  go_loopw [17] (fun i wr => ∃ (j : Nat) (ps : List (Value × Value)), j ≤ nN ∧ i = .int .i64 j ∧ Hid (FcV wr w.heap.size (.slice (some ⟨w.heap.size, 0, none⟩) nN nN) (toldR F nN j) ps) ∧ Hid (Below w.heap.size w wr)) (fun i _ => nN - (intOf i).toNat)
  case atStart => exact ⟨0, _, Nat.zero_le _, rfl, hid (FcV.made w nN hn20 w.heap.size (Nat.le_refl _) F), hid (bal (Below.refl _ _))⟩
  case round =>
    obtain ⟨j, ps, hj, rfl, hFc, hB⟩ := hrel
    by_cases hlt : j < nN
    · have hszr := hB.out.size
      have hwr : w.heap.size < wr.heap.size := by
        obtain ⟨u, hu⟩ := hFc.out.cellSome (toldR_len _ _ _) (q := 0) (by omega)
        exact World.block_lt_of_cell? wr _ hu
      have HKr : Hid (FcM wr n₀ fb kb N tws pg adT capT gN capN k) := hid (H.out.below hB.out)
      have f1 := HKr.out.f1
      rw [← HN.out] at f1
      obtain ⟨a, ha⟩ : ∃ a, k[j]? = some a := ⟨_, List.getElem?_eq_getElem (by rw [H.out.kn.1, ← HN.out]; exact hlt)⟩
      obtain ⟨c0, c1, c2, c3⟩ := HKr.out.kn.cells ha
      obtain ⟨nm, hnm⟩ : ∃ nm, pg[j]? = some nm := ⟨_, List.getElem?_eq_getElem (by rw [H.out.gr.pgl, ← HN.out]; exact hlt)⟩
      have cn := (HKr.out.gr.names j nm hnm).1
      have hgN : gN < wr.heap.size := by have := H.out.gr.hgN; have := H.out.ln; omega
      have hfr : fb < wr.heap.size := by omega
      have HJ : Hid (F j = ⟨nm.1, ((a.least : Int) == 0), wdsOf tws N.nT (bitsOf a.first), wdsOf tws N.nT (bitsOf a.follow), (a.least : Int)⟩) := hid (by
        rw [HF.out]
        unfold factP nmW emP
        rw [fl_at ha, fh_at ha, fo_at ha, Int.toNat_natCast, List.getD_eq_getElem?_getD, hnm, dec_zero]; rfl)
      have HA1 := HH.out j
      have HA2 := HO.out j
      rw [fh_at ha] at HA1
      rw [fo_at ha] at HA2
      have HBt : Hid _ := hid (And.intro HA1 HA2)
      clear ha hnm HA1 HA2
      go_wp2
      have HB2 : Hid (Below wr.heap.size wr (wr.alloc (.cells #[.int .i64 a.least, .bool a.reached, .int .u32 a.first, .int .u32 a.follow] 216))) := hid (bal (Below.refl _ _))
      have g0 := box_at wr #[.int .i64 a.least, .bool a.reached, .int .u32 a.first, .int .u32 a.follow] 216 0
      have g1 := box_at wr #[.int .i64 a.least, .bool a.reached, .int .u32 a.first, .int .u32 a.follow] 216 1
      have g2 := box_at wr #[.int .i64 a.least, .bool a.reached, .int .u32 a.first, .int .u32 a.follow] 216 2
      have g3 := box_at wr #[.int .i64 a.least, .bool a.reached, .int .u32 a.first, .int .u32 a.follow] 216 3
      have hs2 : wr.heap.size + 1 ≤ (wr.alloc (.cells #[.int .i64 a.least, .bool a.reached, .int .u32 a.first, .int .u32 a.follow] 216)).heap.size := by rw [World.size_alloc]; omega
      obtain ⟨W2, hW2⟩ : ∃ W2, wr.alloc (.cells #[.int .i64 a.least, .bool a.reached, .int .u32 a.first, .int .u32 a.follow] 216) = W2 := ⟨_, rfl⟩
      rw [hW2] at HB2 g0 g1 g2 g3 hs2 ⊢
      have g0 : W2.cell? ⟨wr.heap.size, 0, none⟩ = some (.int .i64 a.least) := g0
      have g1 : W2.cell? ⟨wr.heap.size, 1, none⟩ = some (.bool a.reached) := g1
      have g2 : W2.cell? ⟨wr.heap.size, 2, none⟩ = some (.int .u32 a.first) := g2
      have g3 : W2.cell? ⟨wr.heap.size, 3, none⟩ = some (.int .u32 a.follow) := g3
      have g4 := (HB2.out.cell (p := ⟨fb, 1, none⟩) (by exact hfr)).trans f1
      have g5 := (HB2.out.cell (p := ⟨gN, j * 2, none⟩) (by exact hgN)).trans cn
      have HBW : Hid (Below w.heap.size w W2) := hid (hB.out.trans (HB2.out.mono hszr))
      have HW1 : Hid (∀ W, Below W2.heap.size W2 W → Calls Tryz.prog 112 #[.pointer (some ⟨fb, 0, none⟩), .int .u32 a.first] W fun e w' => ∃ v, e = .returned v ∧ OwnS w' W.heap.size v (wdsOf tws N.nT (bitsOf a.first)) ∧ Below W.heap.size W w') := hid fun W hW =>
        fwords_any W n₀ fb kb N tws pg adT capT gN capN k (H.out.below (HBW.out.trans (hW.mono HBW.out.size))) (TabAt.below HT.out (HBW.out.trans (hW.mono HBW.out.size)) (World.block_lt_of_cell? _ _ (HT.out 0 (by decide)))) a.first HBt.out.1.1 HBt.out.1.2
      have HW2 : Hid (∀ W, Below W2.heap.size W2 W → Calls Tryz.prog 112 #[.pointer (some ⟨fb, 0, none⟩), .int .u32 a.follow] W fun e w' => ∃ v, e = .returned v ∧ OwnS w' W.heap.size v (wdsOf tws N.nT (bitsOf a.follow)) ∧ Below W.heap.size W w') := hid fun W hW =>
        fwords_any W n₀ fb kb N tws pg adT capT gN capN k (H.out.below (HBW.out.trans (hW.mono HBW.out.size))) (TabAt.below HT.out (HBW.out.trans (hW.mono HBW.out.size)) (World.block_lt_of_cell? _ _ (HT.out 0 (by decide)))) a.follow HBt.out.2.1 HBt.out.2.2
      have hl1 : wr.heap.size < W2.drew.heap.size := by show wr.heap.size < W2.heap.size; omega
      have hl2 : fb < W2.drew.heap.size := by show fb < W2.heap.size; omega
      have hl3 : gN < W2.drew.heap.size := by show gN < W2.heap.size; omega
      clear hW2 c0 c1 c2 c3 cn f1 f2
      refine wp_region_last (fun w' => w'.cell? ⟨wr.heap.size, 0, none⟩ = some (.int .i64 a.least) ∧ w'.cell? ⟨wr.heap.size, 1, none⟩ = some (.bool a.reached) ∧ w'.cell? ⟨wr.heap.size, 2, none⟩ = some (.int .u32 a.first) ∧ w'.cell? ⟨wr.heap.size, 3, none⟩ = some (.int .u32 a.follow) ∧ w'.cell? ⟨fb, 1, none⟩ = some (.slice (some ⟨gN, 0, none⟩) nN capN) ∧ w'.cell? ⟨gN, j * 2, none⟩ = some (.string nm.1) ∧ Below W2.heap.size W2 w') (by kernel_rfl) (by kernel_rfl) ⟨g0, g1, g2, g3, g4, g5, bdr (Below.refl _ _)⟩ (fun hHeld => ?_)
      simp only [cutLast, idle, lastOf]
      refine tkA 0 ?vv79 rfl ?hy79 hHeld ?_
      case hy79 => (intro w hSw; (try dsimp only at hSw); first | (go_simp; done) | (go_simp; with_reducible rfl))
      try simp only [zA, zC, Act.put, zD, zE, zF]
      refine tkA 1 ?vv57 rfl ?hy57 hHeld ?_
      case hy57 => (intro w hSw; (try dsimp only at hSw); first | (go_simp; done) | (go_simp; with_reducible rfl))
      try simp only [zA, zB, zC, Act.put, zD, zE, zF]
      refine tkA 2 ?vv58 rfl ?hy58 hHeld ?_
      case hy58 => (intro w hSw; (try dsimp only at hSw); first | (go_simp; done) | (go_simp; with_reducible rfl))
      try simp only [zA, zB, zC, Act.put, zD, zE, zF]
      refine tkA 3 ?vv59 rfl ?hy59 hHeld ?_
      case hy59 => (intro w hSw; (try dsimp only at hSw); first | (go_simp; done) | (go_simp; with_reducible rfl))
      try simp only [zA, zB, zC, Act.put, zD, zE, zF]
      refine tkA 4 ?vv60 rfl ?hy60 hHeld ?_
      case hy60 => (intro w hSw; (try dsimp only at hSw); first | (go_simp; done) | (go_simp; with_reducible rfl))
      try simp only [zA, zB, zC, Act.put, zD, zE, zF]
      refine tkA 5 ?vv61 rfl ?hy61 hHeld ?_
      case hy61 => (intro w hSw; (try dsimp only at hSw); first | (go_simp; done) | (go_simp; with_reducible rfl))
      try simp only [zA, zB, zC, Act.put, zD, zE, zF]
      refine tkA 6 ?vv62 rfl ?hy62 hHeld ?_
      case hy62 => (intro w hSw; (try dsimp only at hSw); first | (go_simp; done) | (go_simp; with_reducible rfl))
      try simp only [zA, zB, zC, Act.put, zD, zE, zF]
      refine tkA 7 ?vv63 rfl ?hy63 hHeld ?_
      case hy63 => (intro w hSw; (try dsimp only at hSw); first | (go_simp; done) | (go_simp; with_reducible rfl))
      try simp only [zA, zB, zC, Act.put, zD, zE, zF]
      refine tkA 8 ?vv64 rfl ?hy64 hHeld ?_
      case hy64 => (intro w hSw; (try dsimp only at hSw); first | (go_simp; done) | (go_simp; with_reducible rfl))
      try simp only [zA, zB, zC, Act.put, zD, zE, zF]
      refine tkA 9 ?vv65 rfl ?hy65 hHeld ?_
      case hy65 => (intro w hSw; (try dsimp only at hSw); first | (go_simp; done) | (go_simp; with_reducible rfl))
      try simp only [zA, zB, zC, Act.put, zD, zE, zF]
      refine tkA 10 ?vv66 rfl ?hy66 hHeld ?_
      case hy66 => (intro w hSw; (try dsimp only at hSw); first | (go_simp; done) | (go_simp; with_reducible rfl))
      try simp only [zA, zB, zC, Act.put, zD, zE, zF]
      refine tkA 11 ?vv67 rfl ?hy67 hHeld ?_
      case hy67 => (intro w hSw; (try dsimp only at hSw); first | (go_simp; done) | (go_simp; with_reducible rfl))
      try simp only [zA, zB, zC, Act.put, zD, zE, zF]
      refine tkA 13 ?vv68 rfl ?hy68 hHeld ?_
      case hy68 => (intro w hSw; (try dsimp only at hSw); first | (go_simp; done) | (go_simp; with_reducible rfl))
      try simp only [zA, zB, zC, Act.put, zD, zE, zF]
      refine tkA 14 ?vv69 rfl ?hy69 hHeld ?_
      case hy69 => (intro w hSw; (try dsimp only at hSw); first | (go_simp; done) | (go_simp; with_reducible rfl))
      try simp only [zA, zB, zC, Act.put, zD, zE, zF]
      refine tkA 15 ?vv70 rfl ?hy70 hHeld ?_
      case hy70 => (intro w hSw; (try dsimp only at hSw); first | (go_simp; done) | (go_simp; with_reducible rfl))
      try simp only [zA, zB, zC, Act.put, zD, zE, zF]
      refine tkA 17 ?vv71 rfl ?hy71 hHeld ?_
      case hy71 => (intro w hSw; (try dsimp only at hSw); first | (go_simp; done) | (go_simp; with_reducible rfl))
      try simp only [zA, zB, zC, Act.put, zD, zE, zF]
      refine tkA 18 ?vv72 rfl ?hy72 hHeld ?_
      case hy72 => (intro w hSw; (try dsimp only at hSw); first | (go_simp; done) | (go_simp; with_reducible rfl))
      try simp only [zA, zB, zC, Act.put, zD, zE, zF]
      refine tkA 19 ?vv73 rfl ?hy73 hHeld ?_
      case hy73 => (intro w hSw; (try dsimp only at hSw); first | (go_simp; done) | (go_simp; with_reducible rfl))
      try simp only [zA, zB, zC, Act.put, zD, zE, zF]
      refine tkA 21 ?vv74 rfl ?hy74 hHeld ?_
      case hy74 => (intro w hSw; (try dsimp only at hSw); first | (go_simp; done) | (go_simp; with_reducible rfl))
      try simp only [zA, zB, zC, Act.put, zD, zE, zF]
      refine tkA 22 ?vv75 rfl ?hy75 hHeld ?_
      case hy75 => (intro w hSw; (try dsimp only at hSw); first | (go_simp; done) | (go_simp; with_reducible rfl))
      try simp only [zA, zB, zC, Act.put, zD, zE, zF]
      refine wpAnyH_ready (rs := [12]) (by kernel_rfl) (by simp) ?_
      refine AllReadyH.cons rfl (fun K hK => ?_) AllReadyH.nil
      try simp only [zA, zB, zC]
      rw [if_pos (by rfl)]; go_simp; refine (nullable_any _ _ _ _ _).mono ?_; rintro e w3 ⟨rfl, hb3⟩
      refine hK.out _ _ ?_ (fun hHeld => ?_)
      · exact ⟨(hb3.cell (by exact hl1)).trans hHeld.1, (hb3.cell (by exact hl1)).trans hHeld.2.1, (hb3.cell (by exact hl1)).trans hHeld.2.2.1, (hb3.cell (by exact hl1)).trans hHeld.2.2.2.1, (hb3.cell (by exact hl2)).trans hHeld.2.2.2.2.1, (hb3.cell (by exact hl3)).trans hHeld.2.2.2.2.2.1, hHeld.2.2.2.2.2.2.trans hb3⟩
      clear hK K
      try simp only [zA, zB, zC, Act.put, zD, zE, zF]
      have hz3 := hb3.size
      refine wpAnyH_ready (rs := [16]) (by kernel_rfl) (by simp) ?_
      refine AllReadyH.cons rfl (fun K hK => ?_) AllReadyH.nil
      try simp only [zA, zB, zC]
      rw [if_pos (by rfl)]; go_simp; refine (HW1.out _ hHeld.2.2.2.2.2.2).mono ?_; rintro e w4 ⟨v1, rfl, ho1, hb4⟩; obtain ⟨a1, k1, rfl⟩ := own_slice ho1
      refine hK.out _ _ ?_ (fun hHeld => ?_)
      · exact ⟨(hb4.cell (by exact Nat.lt_of_lt_of_le hl1 hz3)).trans hHeld.1, (hb4.cell (by exact Nat.lt_of_lt_of_le hl1 hz3)).trans hHeld.2.1, (hb4.cell (by exact Nat.lt_of_lt_of_le hl1 hz3)).trans hHeld.2.2.1, (hb4.cell (by exact Nat.lt_of_lt_of_le hl1 hz3)).trans hHeld.2.2.2.1, (hb4.cell (by exact Nat.lt_of_lt_of_le hl2 hz3)).trans hHeld.2.2.2.2.1, (hb4.cell (by exact Nat.lt_of_lt_of_le hl3 hz3)).trans hHeld.2.2.2.2.2.1, hHeld.2.2.2.2.2.2.trans (hb4.mono hz3)⟩
      clear hK K
      try simp only [zA, zB, zC, Act.put, zD, zE, zF]
      have hz4 := hb4.size
      refine wpAnyH_ready (rs := [20]) (by kernel_rfl) (by simp) ?_
      refine AllReadyH.cons rfl (fun K hK => ?_) AllReadyH.nil
      try simp only [zA, zB, zC]
      rw [if_pos (by rfl)]; go_simp; refine (HW2.out _ hHeld.2.2.2.2.2.2).mono ?_; rintro e w5 ⟨v2, rfl, ho2, hb5⟩; obtain ⟨a2, k2, rfl⟩ := own_slice ho2
      refine hK.out _ _ ?_ (fun hHeld => ?_)
      · exact ⟨(hb5.cell (by exact Nat.lt_of_lt_of_le hl1 (Nat.le_trans hz3 hz4))).trans hHeld.1, (hb5.cell (by exact Nat.lt_of_lt_of_le hl1 (Nat.le_trans hz3 hz4))).trans hHeld.2.1, (hb5.cell (by exact Nat.lt_of_lt_of_le hl1 (Nat.le_trans hz3 hz4))).trans hHeld.2.2.1, (hb5.cell (by exact Nat.lt_of_lt_of_le hl1 (Nat.le_trans hz3 hz4))).trans hHeld.2.2.2.1, (hb5.cell (by exact Nat.lt_of_lt_of_le hl2 (Nat.le_trans hz3 hz4))).trans hHeld.2.2.2.2.1, (hb5.cell (by exact Nat.lt_of_lt_of_le hl3 (Nat.le_trans hz3 hz4))).trans hHeld.2.2.2.2.2.1, hHeld.2.2.2.2.2.2.trans (hb5.mono (Nat.le_trans hz3 hz4))⟩
      clear hK K
      try simp only [zA, zB, zC, Act.put, zD, zE, zF]
      refine tkA 23 ?vv76 rfl ?hy76 hHeld ?_
      case hy76 => (intro w hSw; (try dsimp only at hSw); first | (go_simp; done) | (go_simp; with_reducible rfl))
      try simp only [zA, zB, zC, Act.put, zD, zE, zF]
      refine tkA 24 ?vv77 rfl ?hy77 hHeld ?_
      case hy77 => (intro w hSw; (try dsimp only at hSw); first | (go_simp; done) | (go_simp; with_reducible rfl))
      try simp only [zA, zB, zC, Act.put, zD, zE, zF]
      refine tkA 25 ?vv78 rfl ?hy78 hHeld ?_
      case hy78 => (intro w hSw; (try dsimp only at hSw); first | (go_simp; done) | (go_simp; with_reducible rfl))
      try simp only [zA, zB, zC, Act.put]
      refine wpAnyH_done (by kernel_rfl) ?_ _
      have hb25 : Below W2.heap.size W2 w5 := hHeld.2.2.2.2.2.2
      have hB5 : Below wr.heap.size wr w5 := HB2.out.trans (hb25.mono HB2.out.size)
      have ho1' := OwnS.base (B' := w.heap.size) (OwnS.below ho1 hb5) (by have := W2.heap.size; have h1 : W2.drew.heap.size = W2.heap.size := rfl; have := HBW.out.size; omega)
      have ho2' := OwnS.base (B' := w.heap.size) ho2 (by have h1 : W2.drew.heap.size = W2.heap.size := rfl; have := HBW.out.size; omega)
      have hF5 := hFc.out.below hB5
      have hlen := toldR_len F nN j
      obtain ⟨u0, y0⟩ := hF5.cellSome hlen (q := j * 5) (by omega)
      obtain ⟨u1, y1⟩ := hF5.cellSome hlen (q := j * 5 + 1) (by omega)
      obtain ⟨u2, y2⟩ := hF5.cellSome hlen (q := j * 5 + 2) (by omega)
      obtain ⟨u3, y3⟩ := hF5.cellSome hlen (q := j * 5 + 3) (by omega)
      obtain ⟨u4, y4⟩ := hF5.cellSome hlen (q := j * 5 + 4) (by omega)
      have hrw := hF5.row
      rw [hlen] at hrw
      have z0 := hrw.frozenAt (j * 5)
      have z1 := hrw.frozenAt (j * 5 + 1)
      have z2 := hrw.frozenAt (j * 5 + 2)
      have z3 := hrw.frozenAt (j * 5 + 3)
      have z4 := hrw.frozenAt (j * 5 + 4)
      have HO1 : Hid _ := hid ho1'
      have HO2 : Hid _ := hid ho2'
      have HF5 : Hid _ := hid hF5
      have HB5 : Hid (Below w.heap.size w w5) := hid (hB.out.trans (hB5.mono hszr))
      clear hHeld hb25 hB5 ho1' ho2' ho1 ho2 hb3 hb4 hb5 hF5 hz3 hz4 g0 g1 g2 g3 g4 g5 hlen hrw
      show wpList _ _ _ _ _ _
      go_wp2
      go_roundw
      case rel =>
        obtain ⟨q1, q2⟩ := HF5.out.set (toldR_len F nN j) hlt (f := F j) (p := (.slice a1 (wdsOf tws N.nT (bitsOf a.first)).length k1, .slice a2 (wdsOf tws N.nT (bitsOf a.follow)).length k2)) (by rw [HJ.out]; exact HO1.out) (by rw [HJ.out]; exact HO2.out) rfl
        rw [toldR_next F hlt, HJ.out] at q1
        rw [HJ.out] at q2
        exact ⟨j + 1, _, by omega, by go_num, hid q1, hid (HB5.out.trans (q2.below HB5.out.size (fun q hq => by have := List.mem_singleton.1 hq; omega)))⟩
      case measure => simp [intOf]; omega
    · have HE : Hid (FcV wr w.heap.size (.slice (some ⟨w.heap.size, 0, none⟩) nN nN) (toldR F nN nN) ps) := hid (by have h1 := hFc.out; rw [show j = nN from by omega] at h1; exact h1)
      go_wp2
      go_ret
      exact ⟨_, ps, rfl, HE.out, hB.out⟩

end Go.Proofs.YtjjggdcnpndgjaaGreatDoor
