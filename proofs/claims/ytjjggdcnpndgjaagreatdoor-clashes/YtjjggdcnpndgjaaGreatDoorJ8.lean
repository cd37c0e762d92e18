/- (*Grammar).heads. (*Grammar).heads, walked. -/
import Derived.Test.YtjjggdcnpndgjaaGreatDoorJWspeaks
import Derived.Test.YtjjggdcnpndgjaaGreatDoorJ1
import Derived.Laws.MakeOwn
namespace Go.Proofs.YtjjggdcnpndgjaaGreatDoor
open Go.RowKit

/-- make([]T, n): the world behind it, written out. -/
theorem wpList_make_exact {P : Program} (w : World) {ops : Array Oper} {rest : List Oper} {o : Oper} {a : Act} {Q : Exit → Act → World → Prop}
    (hg : o.guard = none) (l c : Operand) (t : TypeId) (hop : o.op = Op.makeSlice t l c)
    (e : TypeId) (i : TypeInfo) (z : Value) (h1 : P.underlying t = some (.slice e)) (h2 : P.info? e = some i) (h3 : i.zero = some z)
    (L C : Int) (n : Nat) (hl : a.eval l = .int .i64 L) (hc : a.eval c = .int .i64 C) (hL : L = (n : Int)) (hC : C = (n : Int)) (b2 : (i.bytes : Int) * (n : Int) ≤ 281474976710656) (b3 : (n : Int) ≤ 9223372036854775807)
    (hK : wpList P ops Q rest (a.put o.dst (.slice (some ⟨w.heap.size, 0, none⟩) n n)) (w.alloc (.cells (madeCells z.cells (n * i.size)) e))) :
    wpList P ops Q (o :: rest) a w := by
  refine wpList_plain hg fun K hK' => ?_
  have hrun := run_make (P := P) w t e i z h1 h2 h3 .i64 .i64 n n (by omega) (Int.le_refl _) b2 b3
  simp only [Int.toNat_natCast] at hrun
  subst hL
  subst hC
  unfold Oper.wp
  simp [execOp, hop, hl, hc, hrun, Result.andThen]
  exact hK' _ _ hK

/-- The first k rows are laid. -/
structure MatK (w : World) (b : Nat) (N : NG) (k : Nat) : Prop where
  top : w.ownsRow b 150 1 (.slice (some ⟨b, 0, none⟩) N.nN N.nN) N.nN (rowVals b (N.nT + 1) k ++ List.replicate (N.nN - k) (.slice none 0 0))
  rows : ∀ n, n < k → w.ownsRow b 4 1 (rowSl b (N.nT + 1) n) (N.nT + 1) (bools (row0 N))
  size : w.heap.size = b + 1 + k

theorem MatK.start (w : World) (N : NG) (hn : N.nN ≤ 20) : MatK (w.alloc (.cells (madeCells #[Value.slice none 0 0] N.nN) 150)) w.heap.size N 0 where
  top := by
    have := World.ownsRow_lit (base := w.heap.size) (e := 150) (size := 1) w (madeCells #[Value.slice none 0 0] N.nN) N.nN (Nat.le_refl _) (by unfold maxLen; omega) (by rw [size_madeCells, Nat.mul_one])
    rw [toList_madeCells_one] at this
    simpa [rowVals] using this
  rows := fun n h => by omega
  size := by simp

theorem MatK.next {w : World} {b : Nat} {N : NG} {k : Nat} (h : MatK w b N k) (hk : k < N.nN) (hT : N.nT ≤ 20) :
    MatK ((w.alloc (.cells (madeCells #[Value.bool false] (N.nT + 1)) 4)).setCell ⟨b, k, none⟩ (.slice (some ⟨w.heap.size, 0, none⟩) (N.nT + 1) (N.nT + 1))) b N (k + 1) where
  top := by
    have h1 := (h.top.alloc (.cells (madeCells #[Value.bool false] (N.nT + 1)) 4)).stored k (.slice (some ⟨w.heap.size, 0, none⟩) (N.nT + 1) (N.nT + 1))
    have h2 : (rowVals b (N.nT + 1) k ++ List.replicate (N.nN - k) (Value.slice none 0 0)).set k (.slice (some ⟨w.heap.size, 0, none⟩) (N.nT + 1) (N.nT + 1)) = rowVals b (N.nT + 1) (k + 1) ++ List.replicate (N.nN - (k + 1)) (.slice none 0 0) := by
      have hl : (rowVals b (N.nT + 1) k).length = k := by unfold rowVals; simp
      rw [List.set_append_right _ _ (by omega), hl, Nat.sub_self]
      obtain ⟨m, hm⟩ : ∃ m, N.nN - k = m + 1 := ⟨N.nN - k - 1, by omega⟩
      rw [hm, List.replicate_succ, List.set_cons_zero, show N.nN - (k + 1) = m by omega]
      unfold rowVals
      rw [List.range_succ, List.map_append]
      simp [rowSl, h.size]
    rw [h2] at h1
    exact h1.1
  rows := fun n hn => by
    have hb : b < w.heap.size := (h.top.lt b rfl).2
    by_cases e : n = k
    · subst e
      have h1 := World.ownsRow_lit (base := b) (e := 4) (size := 1) w (madeCells #[Value.bool false] (N.nT + 1)) (N.nT + 1) (by omega) (by unfold maxLen; omega) (by rw [size_madeCells, Nat.mul_one])
      rw [toList_madeCells_one, show List.replicate (N.nT + 1) (Value.bool false) = bools (row0 N) by simp [bools, row0]] at h1
      have h2 := ownsRow_setCell_other h1 (a := ⟨b, n, none⟩) (by simp [Value.ownBlock]; omega) (.slice (some ⟨w.heap.size, 0, none⟩) (N.nT + 1) (N.nT + 1))
      unfold rowSl
      rw [← h.size]
      exact h2
    · refine ownsRow_setCell_other ((h.rows n (by omega)).alloc _) (a := ⟨b, k, none⟩) ?_ _
      simp [rowSl, Value.ownBlock]; omega
  size := by rw [World.size_setCell, World.size_alloc, h.size]; omega

theorem MatK.done {w : World} {b : Nat} {N : NG} (h : MatK w b N N.nN) : Mat w b N (List.replicate N.nN (row0 N)) where
  ok := mok0 N
  top := by have := h.top; rw [Nat.sub_self] at this; simpa using this
  rows := fun n hn => by
    have : mAt (List.replicate N.nN (row0 N)) n = row0 N := by
      unfold mAt; rw [List.getD_eq_getElem?_getD, List.getElem?_replicate, if_pos hn]; rfl
    rw [this]; exact h.rows n hn

/-- The row n of a matrix, its first t places turned. -/
def rowUpto (h : List (List Bool)) (n : Nat) (f : Nat → Bool) (t : Nat) : List (List Bool) := h.set n (upto (mAt h n) f t)

theorem mAt_rowUpto {h : List (List Bool)} {n : Nat} (hn : n < h.length) (f : Nat → Bool) (t : Nat) : mAt (rowUpto h n f t) n = upto (mAt h n) f t := by
  unfold rowUpto; rw [mAt_set, if_pos ⟨rfl, hn⟩]

theorem mAt_rowUpto_other {h : List (List Bool)} {n m : Nat} (hm : n ≠ m) (f : Nat → Bool) (t : Nat) : mAt (rowUpto h n f t) m = mAt h m := by
  unfold rowUpto; rw [mAt_set, if_neg (fun e => hm e.1)]

theorem rowUpto_zero {h : List (List Bool)} {n : Nat} (f : Nat → Bool) : rowUpto h n f 0 = h := by
  unfold rowUpto; rw [upto_zero]
  apply List.ext_getElem?
  intro i
  rw [List.getElem?_set]
  split
  · rename_i e
    subst e
    unfold mAt
    by_cases hl : n < h.length <;> simp [hl]
  · rfl

theorem rowUpto_put {h : List (List Bool)} {n t : Nat} (hn : n < h.length) (f : Nat → Bool) (ht : t < (mAt h n).length) : (rowUpto h n f t).set n ((mAt (rowUpto h n f t) n).set t (f t)) = rowUpto h n f (t + 1) := by
  rw [mAt_rowUpto hn, upto_set ht]
  unfold rowUpto
  rw [List.set_set]

/-- A bit of the row that is being turned. -/
theorem bit_rowUpto {h : List (List Bool)} {n t : Nat} (hn : n < h.length) (f : Nat → Bool) (ht : t < (mAt h n).length) (m : Nat) : col (rowUpto h n f t) t m = col h t m := by
  unfold col
  by_cases e : n = m
  · subst e
    rw [mAt_rowUpto hn, bAt_upto, if_pos ht, if_neg (by omega)]
  · rw [mAt_rowUpto_other e]

end Go.Proofs.YtjjggdcnpndgjaaGreatDoor

namespace Go.Proofs.YtjjggdcnpndgjaaGreatDoor
open Go.RowKit

set_option maxHeartbeats 4000000 in
set_option maxRecDepth 100000 in
theorem heads_any (G : Gr) (N : NG) (hR : Rep G N) (w : World) (B gb : Nat) (hG : GrAt w B gb G) (go capo : Nat) (E : List Bool) (hE : RowV w (.slice (some ⟨go, 0, none⟩) N.nN capo) (bools E)) (hEl : E.length = N.nN) :
    Calls Tryz.prog 77 #[.pointer (some ⟨gb, 0, none⟩), .slice (some ⟨go, 0, none⟩) N.nN capo] w fun e w' =>
      e = .returned (.slice (some ⟨w.heap.size, 0, none⟩) N.nN N.nN) ∧ Mat w' w.heap.size N (headsN N (bAt E)) ∧ Below w.heap.size w w' := by
  obtain ⟨i0, hi, hz0, hz1, hz2⟩ := info_parts Tryz.info4
  obtain ⟨j0, ji, jz0, jz1, jz2⟩ := info_parts Tryz.info150
  obtain ⟨adT, capT, gN, capN, gR, capR, hX⟩ := ctx_of hR hG
  have hnle := hR.leN
  have htle := hR.leT
  have hrle := hR.leR
  have hgb := hX.hgb
  have hgN := hX.hgN
  have hgR := hX.hgR
  have c2 := hX.c2
  have lN := hX.lN
  have lR := hX.lR
  have hMK := fun W : World => MatK.start W N hnle
  have HX : Hid (Ctx w B gb G N adT capT gN capN gR capR) := hid hX
  have HE : Hid (RowV w (.slice (some ⟨go, 0, none⟩) N.nN capo) (bools E)) := hid hE
  have HEl : Hid (E.length = N.nN) := hid hEl
  obtain ⟨nN, hn1⟩ : ∃ n, n = N.nN := ⟨_, rfl⟩
  obtain ⟨nT, hn2⟩ : ∃ n, n = N.nT := ⟨_, rfl⟩
  obtain ⟨nR, hn3⟩ : ∃ n, n = N.rules.length := ⟨_, rfl⟩
  rw [← hn1] at hnle c2 lN ⊢
  rw [← hn2] at htle
  rw [← hn3] at hrle lR
  have H1 : Hid (nN = N.nN) := hid hn1
  have H2 : Hid (nT = N.nT) := hid hn2
  have H3 : Hid (nR = N.rules.length) := hid hn3
  have HMK : Hid _ := hid hMK
  clear hX hR hn1 hn2 hn3 hG hE hEl hMK
  obtain ⟨b0, hb0⟩ : ∃ b, b = w.heap.size := ⟨_, rfl⟩
  have H0 : Hid (b0 = w.heap.size) := hid hb0
  rw [← hb0] at hgb hgN hgR
  rw [← hb0]
  go_enter Tryz.func77, Tryz.ntmps77
  go_wp2_with (first
    | (at_make; refine wpList_make_exact _ rfl _ _ 152 rfl 150 j0 (.slice none 0 0) Tryz.underlying152 ji jz0 _ _ nN rfl rfl rfl rfl (by rw [jz2]; omega) (by omega) ?_))
  have HK0 : Hid (MatK (w.alloc (.cells (madeCells #[Value.slice none 0 0] nN) 150)) b0 N 0) := hid (by
    have := HMK.out w
    rw [H1.out, H0.out]; exact this)
  have HB0 : Hid (Below b0 w (w.alloc (.cells (madeCells #[Value.slice none 0 0] nN) 150))) := hid ((Below.refl _ _).alloc (Nat.le_of_eq hb0) _)
  obtain ⟨W0, hW0⟩ : ∃ W0, W0 = w.alloc (.cells (madeCells #[Value.slice none 0 0] nN) 150) := ⟨_, rfl⟩
  rw [← hW0] at HK0 HB0 ⊢
  rw [← hb0]
  have HF : Hid (∀ i : Nat, i < nR → ∃ q, N.rules[i]? = some q) := hid fun i h => ⟨_, List.getElem?_eq_getElem (by rw [← H3.out]; exact h)⟩
  have HBel : Hid (∀ W, Below b0 w W → Below w.heap.size w W) := hid fun W h => by rw [← H0.out]; exact h
  clear hb0 hW0 HMK c2
  go_loopw [6] (fun i wr => ∃ (k : Nat), k ≤ nN ∧ i = .int .i64 k ∧ Hid (MatK wr b0 N k) ∧ Hid (Below b0 w wr)) (fun i _ => nN - (intOf i).toNat)
  case atStart => exact ⟨0, Nat.zero_le _, rfl, HK0, HB0⟩
  case round =>
    clear HK0 HB0
    obtain ⟨k, hk, rfl, hK, hbr⟩ := hrel
    obtain ⟨W, hW⟩ : ∃ W, W = wr := ⟨_, rfl⟩
    subst hW
    by_cases hlt : k < nN
    · have hX := HX.out.below (HBel.out _ hbr.out)
      have c0 := hX.c0
      have lT := hX.lT
      rw [← H2.out] at c0 lT
      have hw0 := hK.out.size
      have hlK : ∃ u, W.cell? ⟨b0, k, none⟩ = some u := by
        have h1 := hK.out.top.cellAt k (by rw [← H1.out]; omega)
        rw [List.getElem?_eq_getElem (by unfold rowVals; simp; have := H1.out; omega)] at h1
        exact ⟨_, h1⟩
      obtain ⟨u0, hu0⟩ := hlK
      have hba : Below W.heap.size W (W.alloc (.cells (madeCells #[Value.bool false] (nT + 1)) 4)) := (Below.refl _ _).alloc (Nat.le_refl _) _
      have hca : (W.alloc (.cells (madeCells #[Value.bool false] (nT + 1)) 4)).cell? ⟨b0, k, none⟩ = some u0 := (hba.cell (by simp; omega)).trans hu0
      have hfa : (W.alloc (.cells (madeCells #[Value.bool false] (nT + 1)) 4)).frozen? ⟨b0, k, none⟩ = false := (hba.frozen (by simp; omega)).trans (hK.out.top.frozenAt k)
      clear hba hu0
      have h3 := hK.out.next (by rw [← H1.out]; exact hlt) (by rw [← H2.out]; exact htle)
      rw [← H2.out] at h3
      have HK3 : Hid _ := hid h3
      have HB3 : Hid (Below b0 w ((W.alloc (.cells (madeCells #[Value.bool false] (nT + 1)) 4)).setCell ⟨b0, k, none⟩ (.slice (some ⟨W.heap.size, 0, none⟩) (nT + 1) (nT + 1)))) :=
        hid ((hbr.out.alloc (by omega) _).setCell (p := ⟨b0, k, none⟩) (Nat.le_refl _) _)
      have hne : ¬ W.heap.size = b0 := by omega
      clear hX h3 hw0
      go_wp2_with (first
        | (at_make; refine wpList_make_exact _ rfl _ _ 150 rfl 4 i0 (.bool false) Tryz.underlying150 hi hz0 _ _ (nT + 1) rfl rfl (by omega) (by omega) (by rw [hz2]; omega) (by omega) ?_; rw [hz1]))
      go_roundw
      case rel => exact ⟨k + 1, by omega, by go_num, HK3, HB3⟩
      case measure => simp [intOf]; omega
    · have HM0 : Hid (Mat W b0 N (List.replicate N.nN (row0 N))) := hid (by
        have h1 := hK.out
        rw [show k = N.nN by have := H1.out; omega] at h1
        exact h1.done)
      clear hK
      go_wp2
      go_loopw [7] (fun i wr => ∃ (k : Nat) (h : List (List Bool)), k ≤ nN + 1 ∧ i = .int .i64 k ∧ Hid (iter (headRound N (bAt E)) (nN + 1 - k) h = headsN N (bAt E)) ∧ Hid (Mat wr b0 N h) ∧ Hid (Below b0 w wr)) (fun i _ => nN + 1 - (intOf i).toNat)
      case atStart => exact ⟨0, _, Nat.zero_le _, rfl, hid (by unfold headsN; rw [← H1.out]; rfl), HM0, hbr⟩
      case round =>
        clear HM0 hbr hlt hk
        obtain ⟨k, h, hk, rfl, hit, hM, hbr⟩ := hrel
        obtain ⟨W, hW⟩ : ∃ W, W = wr := ⟨_, rfl⟩
        subst hW
        have hX := HX.out.below (HBel.out _ hbr.out)
        have c2 := hX.c2
        have c3 := hX.c3
        rw [← H1.out] at c2
        rw [← H3.out] at c3
        clear hX
        by_cases hlt : k ≤ nN
        · have HI : Hid (iter (headRound N (bAt E)) (nN - k) (headRound N (bAt E) h) = headsN N (bAt E)) := hid (by
            have h1 := hit.out
            rw [show nN + 1 - k = (nN - k) + 1 by omega] at h1
            exact h1)
          clear hit
          go_wp2
          clear c2 c3
          go_loopw [8] (fun i wr => ∃ (j : Nat) (h : List (List Bool)), j ≤ nR ∧ i = .int .i64 j ∧ Hid (iter (headRound N (bAt E)) (nN - k) ((N.rules.drop j).foldl (headStep N (bAt E)) h) = headsN N (bAt E)) ∧ Hid (Mat wr b0 N h) ∧ Hid (Below b0 w wr)) (fun i _ => nR - (intOf i).toNat)
          case atStart => exact ⟨0, h, Nat.zero_le _, rfl, HI, hM, hbr⟩
          case round =>
            clear hM hbr HI
            obtain ⟨j, h, hj, rfl, hit, hM, hbr⟩ := hrel
            obtain ⟨W, hW⟩ : ∃ W, W = wr := ⟨_, rfl⟩
            subst hW
            have hX := HX.out.below (HBel.out _ hbr.out)
            have c2 := hX.c2
            have c3 := hX.c3
            rw [← H1.out] at c2
            rw [← H3.out] at c3
            by_cases hlj : j < nR
            · obtain ⟨q, hq⟩ := HF.out j hlj
              obtain ⟨nm, ws, adP, capP, d0, d1, hPs, hix, hpr⟩ := hX.rule j q hq
              have hqn : q.1 < nN := by rw [H1.out]; exact hX.rep.ok.lt q (List.mem_of_getElem? hq)
              have hsz : b0 ≤ W.heap.size := by have := hbr.out.size; have := H0.out; omega
              have CI : Hid (∀ m, Calls Tryz.prog 84 #[.slice (some ⟨gN, 0, none⟩) nN capN, .string nm] (W.drewN m) fun e w' => e = .returned (.int .i64 q.1) ∧ w' = W.drewN m) := hid fun m => by
                rw [← hix, H1.out]
                exact (hX.below (below_draws W m)).index nm
              have CS : Hid (∀ W', Below W.heap.size W W' → Calls Tryz.prog 126 #[.pointer (some ⟨gb, 0, none⟩), .slice adP q.2.length capP, .slice (some ⟨b0, 0, none⟩) nN nN, .slice (some ⟨go, 0, none⟩) nN capo] W' fun e w' =>
                  e = .returned (.tuple #[.slice (some ⟨W'.heap.size, 0, none⟩) (nT + 1) (nT + 1), .bool (speakB h (bAt E) q.2 (row0 N)).2]) ∧
                  w'.ownsRow W'.heap.size 4 1 (.slice (some ⟨W'.heap.size, 0, none⟩) (nT + 1) (nT + 1)) (nT + 1) (bools (speakB h (bAt E) q.2 (row0 N)).1) ∧ Below W'.heap.size W' w') := hid fun W' hb => by
                rw [H1.out, H2.out]
                exact speaks_any G N hX.rep W' B gb (hX.below hb).gr _ ws q.2 (RowO.of (hPs.below hb)) hpr (hX.rep.ok.ps (List.mem_of_getElem? hq)) (hX.rep.ok.parts q (List.mem_of_getElem? hq)) b0 h (hM.out.below hb) go capo E
                  ((HE.out.below (HBel.out _ hbr.out)).below hb) HEl.out
              have hsl := (speakB_spec hM.out.ok (bAt E) q.2 (row0 N) (hX.rep.ok.ps (List.mem_of_getElem? hq)) (by simp [row0])).1
              have HQ : Hid (N.rules[j]? = some q) := hid hq
              obtain ⟨lr, hlr⟩ : ∃ l, l = speakB h (bAt E) q.2 (row0 N) := ⟨_, rfl⟩
              rw [← hlr] at CS hsl
              have HS : Hid (iter (headRound N (bAt E)) (nN - k) ((N.rules.drop (j + 1)).foldl (headStep N (bAt E)) (h.set q.1 (orB (mAt h q.1) lr.1))) = headsN N (bAt E)) := hid (by
                have h1 := hit.out
                rw [drop_cons HQ.out, List.foldl_cons] at h1
                unfold headStep at h1
                rw [← hlr] at h1
                exact h1)
              obtain ⟨l, thr⟩ := lr
              simp only at CS hsl HS
              have HL : Hid (l.length = nT + 1) := hid (by rw [hsl, H2.out])
              obtain ⟨np, hnp⟩ : ∃ n, n = q.2.length := ⟨_, rfl⟩
              rw [← hnp] at d1 CS
              obtain ⟨qn, hqn1⟩ : ∃ n, n = q.1 := ⟨_, rfl⟩
              rw [← hqn1] at hqn CI HS
              clear hX hPs hix hpr hq hqn1 hnp hit hlr hsl
              go_wp2
              go_quiet ((go_at_call 84; exact (CI.out _).mono fun _ _ h => ⟨h.1, _, h.2⟩))
              go_wp2_with (first
                | (go_at_call 126; refine (CS.out _ (below_draws _ _)).mono ?_; rintro e w2 ⟨rfl, hol, hb2⟩))
              obtain ⟨bl, hbl⟩ : ∃ bl, bl = W.heap.size := ⟨_, rfl⟩
              have hblW : W.heap.size ≤ bl := by omega
              have hbe : (W.drewN nq).heap.size = W.heap.size := by simp
              rw [hbe, ← hbl] at hol hb2
              rw [← hbl]
              have hbd : Below W.heap.size W w2 := (below_draws W nq).trans (hb2.mono hblW)
              have hblr : ∀ n, n < nN → ¬ b0 + 1 + n = bl := fun n hn => by
                have := hM.out.lt (n := n) (by rw [← H1.out]; exact hn)
                omega
              have HBR : Hid (∀ n, n < nN → ¬ b0 + 1 + n = bl) := hid hblr
              have HM1 : Hid (Mat w2 b0 N (rowUpto h qn (fun t => bAt (mAt h qn) t || bAt l t) 0)) := hid (by rw [rowUpto_zero]; exact hM.out.below hbd)
              have HOL : Hid (w2.ownsRow bl 4 1 (.slice (some ⟨bl, 0, none⟩) (nT + 1) (nT + 1)) (nT + 1) (bools l)) := hid hol
              have HB1 : Hid (Below b0 w w2) := hid (hbr.out.trans (hbd.mono hsz))
              have HMh : Hid (MOk N h) := hid hM.out.ok
              clear hbl hol hb2 hbd hM hbr hbe c2 c3 d0 d1 hblW hblr hsz CI CS
              go_loopw [12] (fun i wr => ∃ (t : Nat), t ≤ nT + 1 ∧ i = .int .i64 t ∧ Hid (Mat wr b0 N (rowUpto h qn (fun t => bAt (mAt h qn) t || bAt l t) t)) ∧
                Hid (wr.ownsRow bl 4 1 (.slice (some ⟨bl, 0, none⟩) (nT + 1) (nT + 1)) (nT + 1) (bools l)) ∧ Hid (Below b0 w wr)) (fun i _ => nT + 1 - (intOf i).toNat)
              case atStart => exact ⟨0, Nat.zero_le _, rfl, HM1, HOL, HB1⟩
              case round =>
                clear HM1 HOL HB1
                obtain ⟨t, ht, rfl, hM, hol, hbr⟩ := hrel
                obtain ⟨W2, hW⟩ : ∃ W, W = wr := ⟨_, rfl⟩
                subst hW
                have hqN : qn < N.nN := by rw [← H1.out]; exact hqn
                by_cases htl : t < nT + 1
                · have hrow := HMh.out.2 qn hqN
                  have hhl : qn < h.length := by rw [HMh.out.1]; exact hqN
                  have cr := hM.out.cell hqN
                  obtain ⟨cb, hfb⟩ := hM.out.bit (t := t) hqN (by rw [← H2.out]; exact htl)
                  rw [bit_rowUpto hhl _ (by rw [hrow, ← H2.out]; exact htl)] at cb
                  obtain ⟨co, _⟩ := own_cell hol.out HL.out htl
                  have h3 := (hM.out.below ((Below.refl _ W2).drew)).put t hqN (bAt (mAt h qn) t || bAt l t)
                  rw [rowUpto_put hhl (fun t => bAt (mAt h qn) t || bAt l t) (by rw [hrow, ← H2.out]; exact htl)] at h3
                  have hti : (t : Int) < (nT : Int) + 1 := by omega
                  have hne := HBR.out qn hqn
                  have HO3 : Hid (∀ v : Bool, (W2.drew.setCell ⟨b0 + 1 + qn, t, none⟩ (.bool v)).ownsRow bl 4 1 (.slice (some ⟨bl, 0, none⟩) (nT + 1) (nT + 1)) (nT + 1) (bools l)) := hid fun v =>
                    ownsRow_setCell_other hol.out.drew (a := ⟨b0 + 1 + qn, t, none⟩) (by simp [Value.ownBlock]; omega) (.bool v)
                  have HB3 : Hid (∀ v : Bool, Below b0 w (W2.drew.setCell ⟨b0 + 1 + qn, t, none⟩ (.bool v))) := hid fun v => hbr.out.drew.setCell (p := ⟨b0 + 1 + qn, t, none⟩) (by simp; omega) _
                  rw [← H2.out] at cr
                  obtain ⟨br, hbr1⟩ : ∃ br, br = b0 + 1 + qn := ⟨_, rfl⟩
                  rw [← hbr1] at cr cb hfb h3 HO3 HB3
                  have hcd : W2.drew.cell? ⟨br, t, none⟩ = some (.bool (bAt (mAt h qn) t)) := cb
                  have hfd : W2.drew.frozen? ⟨br, t, none⟩ = false := hfb
                  clear hbr1 hne hqN hfb hhl hrow
                  rw [show col h t qn = bAt (mAt h qn) t from rfl] at cb
                  cases ho : bAt (mAt h qn) t
                  · cases hc : bAt l t
                    · rw [ho] at cb hcd
                      rw [hc] at co
                      rw [ho, hc] at h3
                      have HM3 : Hid _ := hid h3
                      clear h3 ho hc
                      go_wp2
                      refine wp_region_last (fun w' => w'.cell? ⟨b0, qn, none⟩ = some (.slice (some ⟨br, 0, none⟩) (nT + 1) (nT + 1)) ∧ w'.cell? ⟨br, t, none⟩ = some (.bool false) ∧ w'.cell? ⟨bl, t, none⟩ = some (.bool false)) (by kernel_rfl) (by kernel_rfl) ⟨cr, cb, co⟩ (fun hHeld => ?_)
                      simp only [cutLast, idle, lastOf]
                      refine tkA 0 ?vv111 rfl ?hy111 hHeld ?_
                      case hy111 => (intro w hSw; (try dsimp only at hSw); first | (go_simp; done) | (go_simp; with_reducible rfl))
                      try simp only [zA, zC, Act.put, zD, zE, zF]
                      refine tkA 1 ?vv58 rfl ?hy58 hHeld ?_
                      case hy58 => (intro w hSw; (try dsimp only at hSw); first | (go_simp; done) | (go_simp; with_reducible rfl))
                      try simp only [zA, zB, zC, Act.put, zD, zE, zF]
                      refine tkA 2 ?vv59 rfl ?hy59 hHeld ?_
                      case hy59 => (intro w hSw; (try dsimp only at hSw); first | (go_simp; done) | (go_simp; with_reducible rfl))
                      try simp only [zA, zB, zC, Act.put, zD, zE, zF]
                      refine tkA 3 ?vv60 rfl ?hy60 hHeld ?_
                      case hy60 => (intro w hSw; (try dsimp only at hSw); first | (go_simp; done) | (go_simp; with_reducible rfl))
                      try simp only [zA, zB, zC, Act.put, zD, zE, zF]
                      refine tkA 4 ?vv61 rfl ?hy61 hHeld ?_
                      case hy61 => (intro w hSw; (try dsimp only at hSw); first | (go_simp; done) | (go_simp; with_reducible rfl))
                      try simp only [zA, zB, zC, Act.put, zD, zE, zF]
                      refine tkA 5 ?vv62 rfl ?hy62 hHeld ?_
                      case hy62 => (intro w hSw; (try dsimp only at hSw); first | (go_simp; done) | (go_simp; with_reducible rfl))
                      try simp only [zA, zB, zC, Act.put, zD, zE, zF]
                      refine tkA 6 ?vv63 rfl ?hy63 hHeld ?_
                      case hy63 => (intro w hSw; (try dsimp only at hSw); first | (go_simp; done) | (go_simp; with_reducible rfl))
                      try simp only [zA, zB, zC, Act.put, zD, zE, zF]
                      refine tkA 7 ?vv64 rfl ?hy64 hHeld ?_
                      case hy64 => (intro w hSw; (try dsimp only at hSw); first | (go_simp; done) | (go_simp; with_reducible rfl))
                      try simp only [zA, zB, zC, Act.put, zD, zE, zF]
                      refine tkA 8 ?vv65 rfl ?hy65 hHeld ?_
                      case hy65 => (intro w hSw; (try dsimp only at hSw); first | (go_simp; done) | (go_simp; with_reducible rfl))
                      try simp only [zA, zB, zC, Act.put, zD, zE, zF]
                      refine tkA 9 ?vv66 rfl ?hy66 hHeld ?_
                      case hy66 => (intro w hSw; (try dsimp only at hSw); first | (go_simp; done) | (go_simp; with_reducible rfl))
                      try simp only [zA, zB, zC, Act.put, zD, zE, zF]
                      refine tkA 10 ?vv67 rfl ?hy67 hHeld ?_
                      case hy67 => (intro w hSw; (try dsimp only at hSw); first | (go_simp; done) | (go_simp; with_reducible rfl))
                      try simp only [zA, zB, zC, Act.put, zD, zE, zF]
                      refine tkA 11 ?vv68 rfl ?hy68 hHeld ?_
                      case hy68 => (intro w hSw; (try dsimp only at hSw); first | (go_simp; done) | (go_simp; with_reducible rfl))
                      try simp only [zA, zB, zC, Act.put, zD, zE, zF]
                      refine tkA 12 ?vv69 rfl ?hy69 hHeld ?_
                      case hy69 => (intro w hSw; (try dsimp only at hSw); first | (go_simp; done) | (go_simp; with_reducible rfl))
                      try simp only [zA, zB, zC, Act.put, zD, zE, zF]
                      refine tkA 13 ?vv70 rfl ?hy70 hHeld ?_
                      case hy70 => (intro w hSw; (try dsimp only at hSw); first | (go_simp; done) | (go_simp; with_reducible rfl))
                      try simp only [zA, zB, zC, Act.put, zD, zE, zF]
                      refine tkA 14 ?vv71 rfl ?hy71 hHeld ?_
                      case hy71 => (intro w hSw; (try dsimp only at hSw); first | (go_simp; done) | (go_simp; with_reducible rfl))
                      try simp only [zA, zB, zC, Act.put, zD, zE, zF]
                      refine tkA 15 ?vv72 rfl ?hy72 hHeld ?_
                      case hy72 => (intro w hSw; (try dsimp only at hSw); first | (go_simp; done) | (go_simp; with_reducible rfl))
                      try simp only [zA, zB, zC, Act.put, zD, zE, zF]
                      refine tkA 16 ?vv73 rfl ?hy73 hHeld ?_
                      case hy73 => (intro w hSw; (try dsimp only at hSw); first | (go_simp; done) | (go_simp; with_reducible rfl))
                      try simp only [zA, zB, zC, Act.put, zD, zE, zF]
                      refine tkA 17 ?vv74 rfl ?hy74 hHeld ?_
                      case hy74 => (intro w hSw; (try dsimp only at hSw); first | (go_simp; done) | (go_simp; with_reducible rfl))
                      try simp only [zA, zB, zC, Act.put, zD, zE, zF]
                      refine tkA 18 ?vv75 rfl ?hy75 hHeld ?_
                      case hy75 => (intro w hSw; (try dsimp only at hSw); first | (go_simp; done) | (go_simp; with_reducible rfl))
                      try simp only [zA, zB, zC, Act.put, zD, zE, zF]
                      refine tkA 19 ?vv108 rfl ?hy108 hHeld ?_
                      case hy108 => (intro w hSw; (try dsimp only at hSw); first | (go_simp; done) | (go_simp; with_reducible rfl))
                      try simp only [zA, zB, zC, Act.put]
                      refine wpAnyH_done (by kernel_rfl) ?_ _
                      clear hHeld
                      show wpList _ _ _ _ _ _
                      go_wp2
                      go_roundw
                      case rel => exact ⟨t + 1, by omega, by go_num, HM3, hid (HO3.out _), hid (HB3.out _)⟩
                      case measure => simp [intOf]; omega
                    · rw [ho] at cb hcd
                      rw [hc] at co
                      rw [ho, hc] at h3
                      have HM3 : Hid _ := hid h3
                      clear h3 ho hc
                      go_wp2
                      refine wp_region_last (fun w' => w'.cell? ⟨b0, qn, none⟩ = some (.slice (some ⟨br, 0, none⟩) (nT + 1) (nT + 1)) ∧ w'.cell? ⟨br, t, none⟩ = some (.bool false) ∧ w'.cell? ⟨bl, t, none⟩ = some (.bool true)) (by kernel_rfl) (by kernel_rfl) ⟨cr, cb, co⟩ (fun hHeld => ?_)
                      simp only [cutLast, idle, lastOf]
                      refine tkA 0 ?vv112 rfl ?hy112 hHeld ?_
                      case hy112 => (intro w hSw; (try dsimp only at hSw); first | (go_simp; done) | (go_simp; with_reducible rfl))
                      try simp only [zA, zC, Act.put, zD, zE, zF]
                      refine tkA 1 ?vv76 rfl ?hy76 hHeld ?_
                      case hy76 => (intro w hSw; (try dsimp only at hSw); first | (go_simp; done) | (go_simp; with_reducible rfl))
                      try simp only [zA, zB, zC, Act.put, zD, zE, zF]
                      refine tkA 2 ?vv77 rfl ?hy77 hHeld ?_
                      case hy77 => (intro w hSw; (try dsimp only at hSw); first | (go_simp; done) | (go_simp; with_reducible rfl))
                      try simp only [zA, zB, zC, Act.put, zD, zE, zF]
                      refine tkA 3 ?vv78 rfl ?hy78 hHeld ?_
                      case hy78 => (intro w hSw; (try dsimp only at hSw); first | (go_simp; done) | (go_simp; with_reducible rfl))
                      try simp only [zA, zB, zC, Act.put, zD, zE, zF]
                      refine tkA 4 ?vv79 rfl ?hy79 hHeld ?_
                      case hy79 => (intro w hSw; (try dsimp only at hSw); first | (go_simp; done) | (go_simp; with_reducible rfl))
                      try simp only [zA, zB, zC, Act.put, zD, zE, zF]
                      refine tkA 5 ?vv80 rfl ?hy80 hHeld ?_
                      case hy80 => (intro w hSw; (try dsimp only at hSw); first | (go_simp; done) | (go_simp; with_reducible rfl))
                      try simp only [zA, zB, zC, Act.put, zD, zE, zF]
                      refine tkA 6 ?vv81 rfl ?hy81 hHeld ?_
                      case hy81 => (intro w hSw; (try dsimp only at hSw); first | (go_simp; done) | (go_simp; with_reducible rfl))
                      try simp only [zA, zB, zC, Act.put, zD, zE, zF]
                      refine tkA 7 ?vv82 rfl ?hy82 hHeld ?_
                      case hy82 => (intro w hSw; (try dsimp only at hSw); first | (go_simp; done) | (go_simp; with_reducible rfl))
                      try simp only [zA, zB, zC, Act.put, zD, zE, zF]
                      refine tkA 8 ?vv83 rfl ?hy83 hHeld ?_
                      case hy83 => (intro w hSw; (try dsimp only at hSw); first | (go_simp; done) | (go_simp; with_reducible rfl))
                      try simp only [zA, zB, zC, Act.put, zD, zE, zF]
                      refine tkA 9 ?vv84 rfl ?hy84 hHeld ?_
                      case hy84 => (intro w hSw; (try dsimp only at hSw); first | (go_simp; done) | (go_simp; with_reducible rfl))
                      try simp only [zA, zB, zC, Act.put, zD, zE, zF]
                      refine tkA 10 ?vv85 rfl ?hy85 hHeld ?_
                      case hy85 => (intro w hSw; (try dsimp only at hSw); first | (go_simp; done) | (go_simp; with_reducible rfl))
                      try simp only [zA, zB, zC, Act.put, zD, zE, zF]
                      refine tkA 11 ?vv86 rfl ?hy86 hHeld ?_
                      case hy86 => (intro w hSw; (try dsimp only at hSw); first | (go_simp; done) | (go_simp; with_reducible rfl))
                      try simp only [zA, zB, zC, Act.put, zD, zE, zF]
                      refine tkA 12 ?vv87 rfl ?hy87 hHeld ?_
                      case hy87 => (intro w hSw; (try dsimp only at hSw); first | (go_simp; done) | (go_simp; with_reducible rfl))
                      try simp only [zA, zB, zC, Act.put, zD, zE, zF]
                      refine tkA 13 ?vv88 rfl ?hy88 hHeld ?_
                      case hy88 => (intro w hSw; (try dsimp only at hSw); first | (go_simp; done) | (go_simp; with_reducible rfl))
                      try simp only [zA, zB, zC, Act.put, zD, zE, zF]
                      refine tkA 14 ?vv89 rfl ?hy89 hHeld ?_
                      case hy89 => (intro w hSw; (try dsimp only at hSw); first | (go_simp; done) | (go_simp; with_reducible rfl))
                      try simp only [zA, zB, zC, Act.put, zD, zE, zF]
                      refine tkA 15 ?vv90 rfl ?hy90 hHeld ?_
                      case hy90 => (intro w hSw; (try dsimp only at hSw); first | (go_simp; done) | (go_simp; with_reducible rfl))
                      try simp only [zA, zB, zC, Act.put, zD, zE, zF]
                      refine tkA 16 ?vv91 rfl ?hy91 hHeld ?_
                      case hy91 => (intro w hSw; (try dsimp only at hSw); first | (go_simp; done) | (go_simp; with_reducible rfl))
                      try simp only [zA, zB, zC, Act.put, zD, zE, zF]
                      refine tkA 17 ?vv92 rfl ?hy92 hHeld ?_
                      case hy92 => (intro w hSw; (try dsimp only at hSw); first | (go_simp; done) | (go_simp; with_reducible rfl))
                      try simp only [zA, zB, zC, Act.put, zD, zE, zF]
                      refine tkA 18 ?vv93 rfl ?hy93 hHeld ?_
                      case hy93 => (intro w hSw; (try dsimp only at hSw); first | (go_simp; done) | (go_simp; with_reducible rfl))
                      try simp only [zA, zB, zC, Act.put, zD, zE, zF]
                      refine tkA 19 ?vv109 rfl ?hy109 hHeld ?_
                      case hy109 => (intro w hSw; (try dsimp only at hSw); first | (go_simp; done) | (go_simp; with_reducible rfl))
                      try simp only [zA, zB, zC, Act.put]
                      refine wpAnyH_done (by kernel_rfl) ?_ _
                      clear hHeld
                      show wpList _ _ _ _ _ _
                      go_wp2
                      go_roundw
                      case rel => exact ⟨t + 1, by omega, by go_num, HM3, hid (HO3.out _), hid (HB3.out _)⟩
                      case measure => simp [intOf]; omega
                  · rw [ho] at cb hcd
                    rw [ho, Bool.true_or] at h3
                    have HM3 : Hid _ := hid h3
                    clear h3 ho co
                    go_wp2
                    refine wp_region_last (fun w' => w'.cell? ⟨b0, qn, none⟩ = some (.slice (some ⟨br, 0, none⟩) (nT + 1) (nT + 1)) ∧ w'.cell? ⟨br, t, none⟩ = some (.bool true)) (by kernel_rfl) (by kernel_rfl) ⟨cr, cb⟩ (fun hHeld => ?_)
                    simp only [cutLast, idle, lastOf]
                    refine tkA 0 ?vv113 rfl ?hy113 hHeld ?_
                    case hy113 => (intro w hSw; (try dsimp only at hSw); first | (go_simp; done) | (go_simp; with_reducible rfl))
                    try simp only [zA, zC, Act.put, zD, zE, zF]
                    refine tkA 1 ?vv94 rfl ?hy94 hHeld ?_
                    case hy94 => (intro w hSw; (try dsimp only at hSw); first | (go_simp; done) | (go_simp; with_reducible rfl))
                    try simp only [zA, zB, zC, Act.put, zD, zE, zF]
                    refine tkA 2 ?vv95 rfl ?hy95 hHeld ?_
                    case hy95 => (intro w hSw; (try dsimp only at hSw); first | (go_simp; done) | (go_simp; with_reducible rfl))
                    try simp only [zA, zB, zC, Act.put, zD, zE, zF]
                    refine tkA 3 ?vv96 rfl ?hy96 hHeld ?_
                    case hy96 => (intro w hSw; (try dsimp only at hSw); first | (go_simp; done) | (go_simp; with_reducible rfl))
                    try simp only [zA, zB, zC, Act.put, zD, zE, zF]
                    refine tkA 4 ?vv97 rfl ?hy97 hHeld ?_
                    case hy97 => (intro w hSw; (try dsimp only at hSw); first | (go_simp; done) | (go_simp; with_reducible rfl))
                    try simp only [zA, zB, zC, Act.put, zD, zE, zF]
                    refine tkA 5 ?vv98 rfl ?hy98 hHeld ?_
                    case hy98 => (intro w hSw; (try dsimp only at hSw); first | (go_simp; done) | (go_simp; with_reducible rfl))
                    try simp only [zA, zB, zC, Act.put, zD, zE, zF]
                    refine tkA 6 ?vv99 rfl ?hy99 hHeld ?_
                    case hy99 => (intro w hSw; (try dsimp only at hSw); first | (go_simp; done) | (go_simp; with_reducible rfl))
                    try simp only [zA, zB, zC, Act.put, zD, zE, zF]
                    refine tkA 7 ?vv100 rfl ?hy100 hHeld ?_
                    case hy100 => (intro w hSw; (try dsimp only at hSw); first | (go_simp; done) | (go_simp; with_reducible rfl))
                    try simp only [zA, zB, zC, Act.put, zD, zE, zF]
                    refine tkA 8 ?vv101 rfl ?hy101 hHeld ?_
                    case hy101 => (intro w hSw; (try dsimp only at hSw); first | (go_simp; done) | (go_simp; with_reducible rfl))
                    try simp only [zA, zB, zC, Act.put, zD, zE, zF]
                    refine tkA 9 ?vv102 rfl ?hy102 hHeld ?_
                    case hy102 => (intro w hSw; (try dsimp only at hSw); first | (go_simp; done) | (go_simp; with_reducible rfl))
                    try simp only [zA, zB, zC, Act.put, zD, zE, zF]
                    refine tkA 10 ?vv103 rfl ?hy103 hHeld ?_
                    case hy103 => (intro w hSw; (try dsimp only at hSw); first | (go_simp; done) | (go_simp; with_reducible rfl))
                    try simp only [zA, zB, zC, Act.put, zD, zE, zF]
                    refine tkA 11 ?vv104 rfl ?hy104 hHeld ?_
                    case hy104 => (intro w hSw; (try dsimp only at hSw); first | (go_simp; done) | (go_simp; with_reducible rfl))
                    try simp only [zA, zB, zC, Act.put, zD, zE, zF]
                    refine tkA 12 ?vv105 rfl ?hy105 hHeld ?_
                    case hy105 => (intro w hSw; (try dsimp only at hSw); first | (go_simp; done) | (go_simp; with_reducible rfl))
                    try simp only [zA, zB, zC, Act.put, zD, zE, zF]
                    refine wpAnyH_take (i := 13) (v := undef) rfl (by kernel_rfl) (by kernel_rfl) (by kernel_rfl) (fun _ _ _ h => h) (Or.inr ⟨by rfl, rfl⟩) hHeld ?_
                    try simp only [zA, zB, zC, Act.put, zD, zE, zF]
                    refine wpAnyH_take (i := 14) (v := undef) rfl (by kernel_rfl) (by kernel_rfl) (by kernel_rfl) (fun _ _ _ h => h) (Or.inr ⟨by rfl, rfl⟩) hHeld ?_
                    try simp only [zA, zB, zC, Act.put, zD, zE, zF]
                    refine wpAnyH_take (i := 15) (v := undef) rfl (by kernel_rfl) (by kernel_rfl) (by kernel_rfl) (fun _ _ _ h => h) (Or.inr ⟨by rfl, rfl⟩) hHeld ?_
                    try simp only [zA, zB, zC, Act.put, zD, zE, zF]
                    refine wpAnyH_take (i := 16) (v := undef) rfl (by kernel_rfl) (by kernel_rfl) (by kernel_rfl) (fun _ _ _ h => h) (Or.inr ⟨by rfl, rfl⟩) hHeld ?_
                    try simp only [zA, zB, zC, Act.put, zD, zE, zF]
                    refine tkA 17 ?vv106 rfl ?hy106 hHeld ?_
                    case hy106 => (intro w hSw; (try dsimp only at hSw); first | (go_simp; done) | (go_simp; with_reducible rfl))
                    try simp only [zA, zB, zC, Act.put, zD, zE, zF]
                    refine tkA 18 ?vv107 rfl ?hy107 hHeld ?_
                    case hy107 => (intro w hSw; (try dsimp only at hSw); first | (go_simp; done) | (go_simp; with_reducible rfl))
                    try simp only [zA, zB, zC, Act.put, zD, zE, zF]
                    refine tkA 19 ?vv110 rfl ?hy110 hHeld ?_
                    case hy110 => (intro w hSw; (try dsimp only at hSw); first | (go_simp; done) | (go_simp; with_reducible rfl))
                    try simp only [zA, zB, zC, Act.put]
                    refine wpAnyH_done (by kernel_rfl) ?_ _
                    clear hHeld
                    show wpList _ _ _ _ _ _
                    go_wp2
                    go_roundw
                    case rel => exact ⟨t + 1, by omega, by go_num, HM3, hid (HO3.out _), hid (HB3.out _)⟩
                    case measure => simp [intOf]; omega
                · have hti : ¬ (t : Int) < (nT : Int) + 1 := by omega
                  have HM5 : Hid (Mat W2 b0 N (h.set qn (orB (mAt h qn) l))) := hid (by
                    have h1 := hM.out
                    have hrow := HMh.out.2 qn hqN
                    rw [show t = (mAt h qn).length by rw [hrow, ← H2.out]; omega] at h1
                    unfold rowUpto at h1
                    rw [upto_or (by rw [hrow, HL.out, H2.out])] at h1
                    exact h1)
                  clear hqN
                  go_wp2
                  go_roundw
                  case rel => exact ⟨j + 1, _, by omega, by go_num, HS, HM5, hbr⟩
                  case measure => simp [intOf]; omega
            · have HS : Hid (iter (headRound N (bAt E)) (nN + 1 - (k + 1)) h = headsN N (bAt E)) := hid (by
                have h1 := hit.out
                rw [List.drop_eq_nil_of_le (by have := H3.out; omega)] at h1
                rw [show nN + 1 - (k + 1) = nN - k by omega]
                exact h1)
              clear hX
              go_wp2
              go_roundw
              case rel => exact ⟨k + 1, h, by omega, by go_num, HS, hM, hbr⟩
              case measure => simp [intOf]; omega
        · have HS : Hid (h = headsN N (bAt E)) := hid (by
            have h1 := hit.out
            rw [show nN + 1 - k = 0 by omega] at h1
            exact h1)
          go_wp2
          go_ret
          exact ⟨rfl, by rw [← HS.out]; exact hM.out, hbr.out⟩

end Go.Proofs.YtjjggdcnpndgjaaGreatDoor
