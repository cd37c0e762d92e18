/- (*Grammar).Votes, walked. -/
import Derived.Test.YtjjggdcnpndgjaaGreatDoorJWtails
import Derived.Test.YtjjggdcnpndgjaaGreatDoorJ9
namespace Go.Proofs.YtjjggdcnpndgjaaGreatDoor
open Go.RowKit

/-- Which tokens speak for a rule. -/
def voteOf (a : List Bool) (thr : Bool) (b : List Bool) (u : Nat) : Bool := bAt a u || (thr && bAt b u)
def voteRow (N : NG) (E : Nat → Bool) (H T : List (List Bool)) (q : Nat × List Pt) : List Bool := (List.range (N.nT + 1)).map (voteOf (speakB H E q.2 (row0 N)).1 (speakB H E q.2 (row0 N)).2 (mAt T q.1))
def votesN (N : NG) : List (List Bool) := N.rules.map (voteRow N (bAt (closedN N false)) (headsN N (bAt (closedN N false))) (tailsN N (headsN N (bAt (closedN N false))) (bAt (closedN N false))))

theorem upto_full (a : List Bool) (f : Nat → Bool) {n : Nat} (h : a.length = n) : upto a f n = (List.range n).map f := by
  unfold upto
  rw [h]
  refine List.map_congr_left fun u hu => ?_
  rw [if_pos (List.mem_range.1 hu)]

/-- Rows of bools, each its own. -/
structure VtV (w : World) (B : Nat) (v : Value) (rows : List (List Bool)) (pvs : List Value) : Prop where
  row : w.ownsRow B 150 1 v rows.length pvs
  each : ∀ (i : Nat) r p, rows[i]? = some r → pvs[i]? = some p → w.ownsRow B 4 1 p r.length (bools r)

theorem VtV.nil (w : World) (B : Nat) : VtV w B (.slice none 0 0) [] [] := ⟨World.ownsRow_nil _ _ _ _, fun i r p h => by simp at h⟩
theorem VtV.below {w w' : World} {B : Nat} {v : Value} {rows : List (List Bool)} {pvs : List Value} (h : VtV w B v rows pvs) (hb : Below w.heap.size w w') : VtV w' B v rows pvs :=
  ⟨own_keeps h.row (Keeps.of_below hb []) (by simp), fun i r p hr hp => own_keeps (h.each i r p hr hp) (Keeps.of_below hb []) (by simp)⟩
theorem VtV.base {w : World} {B B' : Nat} {v : Value} {rows : List (List Bool)} {pvs : List Value} (h : VtV w B v rows pvs) (hB : B' ≤ B) : VtV w B' v rows pvs := by
  have hb : ∀ {e sz n : Nat} {v : Value} {xs : List Value}, w.ownsRow B e sz v n xs → w.ownsRow B' e sz v n xs := fun h => ⟨h.1, by
    rcases h.2 with h2 | ⟨g, cap, cur, hv, hg, r⟩
    · exact .inl h2
    · exact .inr ⟨g, cap, cur, hv, Nat.le_trans hB hg, r⟩⟩
  exact ⟨hb h.row, fun i r p hr hp => hb (h.each i r p hr hp)⟩
theorem VtV.push {w w1 : World} {B : Nat} {v v' p : Value} {rows : List (List Bool)} {r : List Bool} {pvs : List Value} (h : VtV w B v rows pvs) (hp : w.ownsRow B 4 1 p r.length (bools r)) (hk : Keeps w w1 v.ownBlock.toList) (hown : w1.ownsRow B 150 1 v' (rows.length + 1) (pvs ++ [p])) : VtV w1 B v' (rows ++ [r]) (pvs ++ [p]) := by
  have hpl : pvs.length = rows.length := by have := h.row.1; omega
  have hoff : ∀ {n : Nat} {q : Value} {xs : List Value}, w.ownsRow B 4 1 q n xs → ∀ g, q.ownBlock = some g → g ∉ v.ownBlock.toList := fun hq g hg hm => own_apart hq h.row (by decide) hg (mem_own hm)
  refine ⟨by rw [List.length_append]; exact hown, fun i q u hq hu => ?_⟩
  by_cases hi : i < rows.length
  · rw [List.getElem?_append_left hi] at hq
    rw [List.getElem?_append_left (by omega)] at hu
    exact own_keeps (h.each i q u hq hu) hk (hoff (h.each i q u hq hu))
  · rw [List.getElem?_append_right (by omega)] at hq
    rw [List.getElem?_append_right (by omega)] at hu
    obtain ⟨h1, _⟩ := List.getElem?_eq_some_iff.1 hq
    simp at h1
    rw [show i - rows.length = 0 by omega] at hq
    rw [show i - pvs.length = 0 by omega] at hu
    simp at hq hu
    subst hq; subst hu
    exact own_keeps hp hk (hoff hp)

theorem ownsRow_base' {w : World} {B B' e sz n : Nat} {v : Value} {xs : List Value} (h : w.ownsRow B e sz v n xs) (hB : B' ≤ B) : w.ownsRow B' e sz v n xs := by
  refine ⟨h.1, ?_⟩
  rcases h.2 with h2 | ⟨g, cap, cur, hv, hg, r⟩
  · exact .inl h2
  · exact .inr ⟨g, cap, cur, hv, Nat.le_trans hB hg, r⟩

theorem rs_map {α β : Type} (f : α → β) {l : List α} {k : Nat} {x : α} (h : l[k]? = some x) : (l.take (k + 1)).map f = (l.take k).map f ++ [f x] := by
  obtain ⟨hk, e⟩ := List.getElem?_eq_some_iff.1 h
  rw [List.take_succ_eq_append_getElem hk, e, List.map_append]; rfl

set_option maxHeartbeats 4000000 in
set_option maxRecDepth 100000 in
theorem votes_any (G : Gr) (N : NG) (hR : Rep G N) (w : World) (B gb : Nat) (hG : GrAt w B gb G) :
    Calls Tryz.prog 83 #[.pointer (some ⟨gb, 0, none⟩)] w fun e w' => ∃ v pvs, e = .returned v ∧ VtV w' w.heap.size v (votesN N) pvs ∧ Below w.heap.size w w' := by
  obtain ⟨i0, hi, hz0, hz1, hz2⟩ := info_parts Tryz.info150
  obtain ⟨adT, capT, gN, capN, gR, capR, hX⟩ := ctx_of hR hG
  have hnle := hR.leN
  have htle := hR.leT
  have hrle := hR.leR
  have lN := hX.lN
  have lR := hX.lR
  have HX : Hid (Ctx w B gb G N adT capT gN capN gR capR) := hid hX
  have CA : Hid (Calls Tryz.prog 76 #[.pointer (some ⟨gb, 0, none⟩), .bool false] w fun e w' => ∃ g cap, e = .returned (.slice (some ⟨g, 0, none⟩) N.nN cap) ∧ N.nN ≤ cap ∧ RowV w' (.slice (some ⟨g, 0, none⟩) N.nN cap) (bools (closedN N false)) ∧ g < w'.heap.size ∧ Below w.heap.size w w') := hid (by
    refine (closed_any G N hR w B gb hG false).mono ?_
    rintro e w' ⟨cap, h1, h2, h3⟩
    have hlen := (closedN_lfp N hR.ok false).2
    have hcap : N.nN ≤ cap := by
      rcases h2.2 with ⟨h4, _⟩ | ⟨g', cap', cur, h4, _, _, h5, _⟩
      · cases h4
      · injection h4 with _ _ h4; omega
    exact ⟨_, cap, h1, hcap, RowV.own h2 (by rw [bools_len, hlen]), (h2.lt _ rfl).2, h3⟩)
  have CH : Hid (∀ W g cap, Below w.heap.size w W → RowV W (.slice (some ⟨g, 0, none⟩) N.nN cap) (bools (closedN N false)) → Calls Tryz.prog 77 #[.pointer (some ⟨gb, 0, none⟩), .slice (some ⟨g, 0, none⟩) N.nN cap] W fun e w' => ∃ b, e = .returned (.slice (some ⟨b, 0, none⟩) N.nN N.nN) ∧ Mat w' b N (headsN N (bAt (closedN N false))) ∧ Below W.heap.size W w') := hid fun W g cap hb hr => by
    refine (heads_any G N hR W B gb (hG.below hb) g cap (closedN N false) hr (closedN_lfp N hR.ok false).2).mono ?_
    rintro e w' ⟨h1, h2, h3⟩
    exact ⟨_, h1, h2, h3⟩
  have CT : Hid (∀ W b g cap, Below w.heap.size w W → Mat W b N (headsN N (bAt (closedN N false))) → RowV W (.slice (some ⟨g, 0, none⟩) N.nN cap) (bools (closedN N false)) → Calls Tryz.prog 78 #[.pointer (some ⟨gb, 0, none⟩), .slice (some ⟨b, 0, none⟩) N.nN N.nN, .slice (some ⟨g, 0, none⟩) N.nN cap] W fun e w' =>
      ∃ b', e = .returned (.slice (some ⟨b', 0, none⟩) N.nN N.nN) ∧ Mat w' b' N (tailsN N (headsN N (bAt (closedN N false))) (bAt (closedN N false))) ∧ Below W.heap.size W w') := hid fun W b g cap hb hm hr => by
    refine (tails_any G N hR W B gb (hG.below hb) b _ hm g cap (closedN N false) hr (closedN_lfp N hR.ok false).2).mono ?_
    rintro e w' ⟨h1, h2, h3⟩
    exact ⟨_, h1, h2, h3⟩
  have HCl : Hid ((closedN N false).length = N.nN) := hid (closedN_lfp N hR.ok false).2
  have HVN : Hid (votesN N = N.rules.map (voteRow N (bAt (closedN N false)) (headsN N (bAt (closedN N false))) (tailsN N (headsN N (bAt (closedN N false))) (bAt (closedN N false))))) := hid rfl
  obtain ⟨VN, hVN⟩ : ∃ VN, VN = votesN N := ⟨_, rfl⟩
  rw [← hVN] at HVN ⊢
  obtain ⟨nN, hn1⟩ : ∃ n, n = N.nN := ⟨_, rfl⟩
  obtain ⟨nR, hn3⟩ : ∃ n, n = N.rules.length := ⟨_, rfl⟩
  rw [← hn1] at hnle lN CA CH CT
  rw [← hn3] at hrle lR
  have H1 : Hid (nN = N.nN) := hid hn1
  have H3 : Hid (nR = N.rules.length) := hid hn3
  have HG : Hid (GrAt w B gb G) := hid hG
  clear hX hn1 hn3 hG hR hVN
  obtain ⟨E, hE⟩ : ∃ E, E = closedN N false := ⟨_, rfl⟩
  rw [← hE] at CA CH CT HCl HVN
  obtain ⟨Hm, hHm⟩ : ∃ Hm, Hm = headsN N (bAt E) := ⟨_, rfl⟩
  rw [← hHm] at CH CT HVN
  obtain ⟨Tm, hTm⟩ : ∃ Tm, Tm = tailsN N Hm (bAt E) := ⟨_, rfl⟩
  rw [← hTm] at CT HVN
  clear hE hHm hTm
  go_enter Tryz.func83, Tryz.ntmps83
  go_wp2_with (first
    | (go_at_call 76; refine CA.out.mono ?_; rintro e w1 ⟨ga, capa, rfl, hla, hra, hga, hb1⟩)
    | (go_at_call 77; refine (CH.out _ _ _ hb1 hra).mono ?_; rintro e w2 ⟨bh, rfl, hmh, hb2⟩; have hb12 := hb1.trans (hb2.mono hb1.size); have hra2 := hra.below hb2)
    | (go_at_call 78; refine (CT.out _ _ _ _ hb12 hmh hra2).mono ?_; rintro e w3 ⟨bt, rfl, hmt, hb3⟩; have hb13 := hb12.trans (hb3.mono hb12.size)))
  have HBW : Hid (Below w.heap.size w w3) := hid hb13
  have HMh : Hid (Mat w3 bh N Hm) := hid (hmh.below hb3)
  have HMt : Hid (Mat w3 bt N Tm) := hid hmt
  have HRa : Hid (RowV w3 (.slice (some ⟨ga, 0, none⟩) nN capa) (bools E)) := hid (hra2.below hb3)
  clear hb1 hb2 hb3 hb12 hb13 hmh hmt hra hra2 hga CA CH CT
  obtain ⟨w0, hw0⟩ : ∃ w0, w0 = w3.heap.size := ⟨_, rfl⟩
  have H0 : Hid (w0 = w3.heap.size) := hid hw0
  clear hw0
  go_loopw [6, 7] (fun v i wr => ∃ (k : Nat) (pvs : List Value), k ≤ nR ∧ i = .int .i64 k ∧ Hid (VtV wr w0 v ((N.rules.take k).map (voteRow N (bAt E) Hm Tm)) pvs) ∧ Hid (Below w0 w3 wr)) (fun _ i _ => nR - (intOf i).toNat)
  case atStart => exact ⟨0, [], Nat.zero_le _, rfl, hid (VtV.nil _ _), Below.refl _ _⟩
  case round =>
    obtain ⟨k, pvs, hk, rfl, hF, hbr⟩ := hrel
    obtain ⟨W, rfl⟩ : ∃ W, W = wr := ⟨_, rfl⟩
    have hb3 : Below w3.heap.size w3 W := by rw [← H0.out]; exact hbr.out
    have hsz3 : w.heap.size ≤ w3.heap.size := HBW.out.size
    have HBwW : Hid (Below w.heap.size w W) := hid (HBW.out.trans (hb3.mono hsz3))
    have hw0W : w0 ≤ W.heap.size := by rw [H0.out]; exact hb3.size
    have hX := HX.out.below HBwW.out
    have c2 := hX.c2
    have c3 := hX.c3
    rw [← H1.out] at c2
    rw [← H3.out] at c3
    by_cases hlt : k < nR
    · obtain ⟨q, hq⟩ : ∃ q, N.rules[k]? = some q := ⟨_, List.getElem?_eq_getElem (by rw [← H3.out]; exact hlt)⟩
      obtain ⟨nm, ws, adP, capP, d0, d1, hPs, hix, hpr⟩ := hX.rule k q hq
      have hgR := hX.hgR
      have hgb := hX.hgb
      have hqn : q.1 < nN := by rw [H1.out]; exact hX.rep.ok.lt q (List.mem_of_getElem? hq)
      have CI : Hid (∀ m, Calls Tryz.prog 84 #[.slice (some ⟨gN, 0, none⟩) nN capN, .string nm] (W.drewN m) fun e w' => e = .returned (.int .i64 q.1) ∧ w' = W.drewN m) := hid fun m => by
        rw [← hix, H1.out]
        exact (hX.below (below_draws W m)).index nm
      have hq8 := hX.rep.ok.parts q (List.mem_of_getElem? hq)
      have CS : Hid (∀ W', Below W.heap.size W W' → Calls Tryz.prog 126 #[.pointer (some ⟨gb, 0, none⟩), .slice adP q.2.length capP, .slice (some ⟨bh, 0, none⟩) N.nN N.nN, .slice (some ⟨ga, 0, none⟩) N.nN capa] W' fun e w' =>
          e = .returned (.tuple #[.slice (some ⟨W'.heap.size, 0, none⟩) (N.nT + 1) (N.nT + 1), .bool (speakB Hm (bAt E) q.2 (row0 N)).2]) ∧
          w'.ownsRow W'.heap.size 4 1 (.slice (some ⟨W'.heap.size, 0, none⟩) (N.nT + 1) (N.nT + 1)) (N.nT + 1) (bools (speakB Hm (bAt E) q.2 (row0 N)).1) ∧ Below W'.heap.size W' w') := hid fun W' hb =>
        speaks_any G N hX.rep W' B gb (hX.below hb).gr _ ws q.2 (RowO.of (hPs.below hb)) hpr (hX.rep.ok.ps (List.mem_of_getElem? hq)) hq8
          bh Hm ((HMh.out.below hb3).below hb) ga capa E (by have := HRa.out; rw [H1.out] at this; exact (this.below hb3).below hb) HCl.out
      have hsl := (speakB_spec HMh.out.ok (bAt E) q.2 (row0 N) (hX.rep.ok.ps (List.mem_of_getElem? hq)) (by simp [row0])).1
      have HQ : Hid ((N.rules.take (k + 1)).map (voteRow N (bAt E) Hm Tm) = (N.rules.take k).map (voteRow N (bAt E) Hm Tm) ++ [voteRow N (bAt E) Hm Tm q]) := hid (rs_map _ hq)
      have HVR : Hid (voteRow N (bAt E) Hm Tm q = (List.range (N.nT + 1)).map (voteOf (speakB Hm (bAt E) q.2 (row0 N)).1 (speakB Hm (bAt E) q.2 (row0 N)).2 (mAt Tm q.1))) := hid rfl
      obtain ⟨vr, hvr⟩ : ∃ vr, vr = voteRow N (bAt E) Hm Tm q := ⟨_, rfl⟩
      rw [← hvr] at HQ HVR
      obtain ⟨lr, hlr⟩ : ∃ l, l = speakB Hm (bAt E) q.2 (row0 N) := ⟨_, rfl⟩
      rw [← hlr] at CS hsl HVR
      obtain ⟨qn, hqn1⟩ : ∃ n, n = q.1 := ⟨_, rfl⟩
      rw [← hqn1] at hqn CI HVR
      obtain ⟨np, hnp⟩ : ∃ n, n = q.2.length := ⟨_, rfl⟩
      rw [← hnp] at d1 CS
      rw [← H1.out] at CS
      obtain ⟨nT, hnT⟩ : ∃ n, n = N.nT := ⟨_, rfl⟩
      rw [← hnT] at CS hsl HVR htle
      have HnT : Hid (nT = N.nT) := hid hnT
      obtain ⟨l, thr⟩ := lr
      simp only at CS hsl HVR
      have HL : Hid (l.length = nT + 1) := hid hsl
      have HKf : Hid (((N.rules.take k).map (voteRow N (bAt E) Hm Tm)).length = k) := hid (by rw [List.length_map, List.length_take, ← H3.out]; omega)
      have HBb3 : Hid _ := hid hb3
      have hgRW : gR < W.heap.size := hgR
      clear hX hPs hix hpr hq hqn1 hnp hnT hvr hlr hsl hq8 hb3
      go_wp2
      go_quiet ((go_at_call 84; exact (CI.out _).mono fun _ _ h => ⟨h.1, _, h.2⟩))
      go_wp2_with (first
        | (go_at_call 126; refine (CS.out _ (below_draws _ _)).mono ?_; rintro e w4 ⟨rfl, hol, hb4⟩))
      have hbe : (W.drewN nq).heap.size = W.heap.size := by simp
      rw [hbe] at hol hb4
      have HB4 : Hid (Below W.heap.size W w4) := hid ((below_draws W nq).trans hb4)
      have HO0 : Hid (w4.ownsRow W.heap.size 4 1 (.slice (some ⟨W.heap.size, 0, none⟩) (nT + 1) (nT + 1)) (nT + 1) (bools (upto l (voteOf l thr (mAt Tm qn)) 0))) := hid (by rw [upto_zero]; exact hol)
      clear hol hb4 hbe c2 c3 d0 d1 CI CS
      go_loopw [11] (fun i wr => ∃ t : Nat, t ≤ nT + 1 ∧ i = .int .i64 t ∧ Hid (wr.ownsRow W.heap.size 4 1 (.slice (some ⟨W.heap.size, 0, none⟩) (nT + 1) (nT + 1)) (nT + 1) (bools (upto l (voteOf l thr (mAt Tm qn)) t))) ∧ Hid (Below W.heap.size W wr)) (fun i _ => nT + 1 - (intOf i).toNat)
      case atStart => exact ⟨0, Nat.zero_le _, rfl, HO0, HB4⟩
      case round =>
        clear HO0 HB4
        obtain ⟨t, ht, rfl, hO, hB5⟩ := hrel
        obtain ⟨W5, rfl⟩ : ∃ W5, W5 = wr := ⟨_, rfl⟩
        have hsz5 := hB5.out.size
        by_cases hlt5 : t < nT + 1
        · have hul : (upto l (voteOf l thr (mAt Tm qn)) t).length = nT + 1 := by rw [upto_len, HL.out]
          obtain ⟨k0, f0⟩ := own_cell hO.out hul hlt5
          have hMt := (HMt.out.below HBb3.out).below hB5.out
          have hqN : qn < N.nN := by rw [← H1.out]; exact hqn
          have k1 := hMt.cell hqN
          obtain ⟨k2, _⟩ := hMt.bit hqN (t := t) (by rw [← HnT.out]; exact hlt5)
          rw [← HnT.out] at k1
          have hx : bAt (upto l (voteOf l thr (mAt Tm qn)) t) t = bAt l t := by rw [bAt_upto, HL.out, if_pos hlt5, if_neg (by omega)]
          rw [hx] at k0
          have HS : Hid ((W5.setCell ⟨W.heap.size, t, none⟩ (.bool (voteOf l thr (mAt Tm qn) t))).ownsRow W.heap.size 4 1 (.slice (some ⟨W.heap.size, 0, none⟩) (nT + 1) (nT + 1)) (nT + 1) (bools (upto l (voteOf l thr (mAt Tm qn)) (t + 1)))) := hid (by
            rw [← upto_set (by rw [HL.out]; exact hlt5), bools_set]
            exact (hO.out.stored t _).1)
          have HBS : Hid (Below W.heap.size W (W5.setCell ⟨W.heap.size, t, none⟩ (.bool (voteOf l thr (mAt Tm qn) t)))) := hid (hB5.out.setCell (by exact Nat.le_refl _) _)
          obtain ⟨y, hy⟩ : ∃ y, y = col Tm t qn := ⟨_, rfl⟩
          have hvo : voteOf l thr (mAt Tm qn) t = (bAt l t || (thr && y)) := by rw [hy]; rfl
          rw [← hy] at k2
          rw [hvo] at HS HBS
          obtain ⟨x, hxx⟩ : ∃ x, x = bAt l t := ⟨_, rfl⟩
          rw [← hxx] at k0 HS HBS
          have hti : (t : Int) < (nT : Int) + 1 := by omega
          have hbt1 : bt + 1 + qn < W5.heap.size := hMt.lt hqN
          clear hMt hx hvo hy hxx hul hO
          cases x
          · cases thr
            · have HS : Hid ((W5.setCell ⟨W.heap.size, t, none⟩ (.bool false)).ownsRow W.heap.size 4 1 (.slice (some ⟨W.heap.size, 0, none⟩) (nT + 1) (nT + 1)) (nT + 1) (bools (upto l (voteOf l false (mAt Tm qn)) (t + 1)))) := HS
              have HBS : Hid (Below W.heap.size W (W5.setCell ⟨W.heap.size, t, none⟩ (.bool false))) := HBS
              go_wp2
              go_roundw
              case rel => exact ⟨t + 1, by omega, by go_num, HS, HBS⟩
              case measure => simp [intOf]; omega
            · have HS : Hid ((W5.setCell ⟨W.heap.size, t, none⟩ (.bool y)).ownsRow W.heap.size 4 1 (.slice (some ⟨W.heap.size, 0, none⟩) (nT + 1) (nT + 1)) (nT + 1) (bools (upto l (voteOf l true (mAt Tm qn)) (t + 1)))) := HS
              have HBS : Hid (Below W.heap.size W (W5.setCell ⟨W.heap.size, t, none⟩ (.bool y))) := HBS
              go_wp2
              go_roundw
              case rel => exact ⟨t + 1, by omega, by go_num, HS, HBS⟩
              case measure => simp [intOf]; omega
          · have HS : Hid ((W5.setCell ⟨W.heap.size, t, none⟩ (.bool true)).ownsRow W.heap.size 4 1 (.slice (some ⟨W.heap.size, 0, none⟩) (nT + 1) (nT + 1)) (nT + 1) (bools (upto l (voteOf l thr (mAt Tm qn)) (t + 1)))) := HS
            have HBS : Hid (Below W.heap.size W (W5.setCell ⟨W.heap.size, t, none⟩ (.bool true))) := HBS
            go_wp2
            go_roundw
            case rel => exact ⟨t + 1, by omega, by go_num, HS, HBS⟩
            case measure => simp [intOf]; omega
        · obtain rfl : t = nT + 1 := by omega
          have HO : Hid (W5.ownsRow W.heap.size 4 1 (.slice (some ⟨W.heap.size, 0, none⟩) (nT + 1) (nT + 1)) (nT + 1) (bools vr)) := hid (by
            rw [HVR.out, ← upto_full l _ HL.out]; exact hO.out)
          have hF5 := hF.out.below hB5.out
          have hrow := hF5.row
          rw [HKf.out] at hrow
          have HR : Hid _ := hid hrow
          have HF5 : Hid _ := hid hF5
          have hw05 : w0 ≤ W5.heap.size := Nat.le_trans hw0W hsz5
          clear hO hF5 hrow hF
          go_wp2_with (first
            | (at_builtin; refine wpList_append_lies _ rfl _ _ 152 rfl w0 150 i0 (.slice none 0 0) 1 24 Tryz.underlying152 hi hz0 hz1 hz2 rfl (by decide) _ _ _ rfl (HR.out.alloc _) ⟨W5.heap.size, 0, none⟩ 1 1 [.slice (some ⟨W.heap.size, 0, none⟩) (nT + 1) (nT + 1)] rfl rfl (World.news_of_block (heap_alloc_new W5 _)) ?d2 (Nat.le_refl 1) ?d3 ?d4 ?d5 _ rfl ?_))
          case d2 => intro u hu; simp at hu; subst hu; rfl
          case d3 => unfold maxLen; omega
          case d4 => omega
          case d5 => simp; omega
          intro g6 cap6 w6 hown6 hgrow6 hat6 hlt6
          have hkeep : Keeps W5 w6 u6.ownBlock.toList := ((Keeps.refl _ _).alloc _).grown hgrow6 (fun q hq => .inl (by rw [hq]; simp))
          have HF6 : Hid (VtV w6 w0 (.slice (some ⟨g6, 0, none⟩) (k + 1) cap6) ((N.rules.take (k + 1)).map (voteRow N (bAt E) Hm Tm)) (pvs ++ [.slice (some ⟨W.heap.size, 0, none⟩) (nT + 1) (nT + 1)])) := hid (by
            rw [HQ.out]
            refine HF5.out.push ?_ hkeep (by rw [HKf.out]; exact hown6)
            have e : vr.length = nT + 1 := by rw [HVR.out]; simp
            rw [e]
            exact ownsRow_base' HO.out hw0W)
          have HB6 : Hid (Below w0 w3 w6) := hid ((hbr.out.trans (hB5.out.mono hw0W)).trans (hkeep.below hw05 (own_ge HR.out)))
          clear hown6 hgrow6 hat6 hlt6 hkeep
          go_wp2
          go_roundw
          case rel => exact ⟨k + 1, _, by omega, by go_num, HF6, HB6⟩
          case measure => simp [intOf]; omega
    · have HE : Hid (VtV W w.heap.size u6 VN pvs) := hid (by
        have h1 := hF.out
        rw [show k = nR by omega, H3.out, List.take_length, ← HVN.out] at h1
        exact h1.base (by rw [H0.out]; exact hsz3))
      clear hX
      go_wp2
      go_ret
      exact ⟨_, pvs, rfl, HE.out, HBwW.out⟩

end Go.Proofs.YtjjggdcnpndgjaaGreatDoor
