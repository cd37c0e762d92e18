/- (line).rules: the lists of parts of a rule line. -/
import Derived.Test.YtjjggdcnpndgjaaDoorPrul
import Derived.Test.YtjjggdcnpndgjaaDoorWwords
namespace Go.Proofs.YtjjggdcnpndgjaaDoor
open Go.RowKit

theorem Tryd.info33 : (Tryd.prog.info? 33).map (fun i => (i.zero, i.size, i.bytes)) = some (some (.slice none 0 0), 1, 24) := by kernel_rfl

set_option maxHeartbeats 1000000 in
set_option maxRecDepth 100000 in
theorem rules_any (a sh : Nat) (p : Value) (l : List ByteArray) (w : World) (hW : WordsV w p l) (hl : 3 ≤ l.length) (hll : l.length ≤ 4001) :
    Calls Tryd.prog 30 #[.agg #[.int .i64 a, .int .i64 sh, p]] w fun e w' => ∃ v Bl pvd pl, e = .returned v ∧ RulV w' w.heap.size Bl v (pst (l.drop 3)).1 (pst (l.drop 3)).2 pvd pl ∧ Below w.heap.size w w' := by
  obtain ⟨j0, ji, jz0, jz1, jz2⟩ := info_parts Tryd.info33
  obtain ⟨i0, hi, hz0, hz1, hz2⟩ := info_parts Tryd.info9
  obtain ⟨g, n, cap, ad, cs, rfl, h2, h3, h4, h5, h6, h7⟩ := hW
  have had := h7 (by omega)
  subst had
  have hst : StrsAt w g 0 l := ⟨lt_of_block h5, fun j hj => by rw [Nat.zero_add, block_cell h5]; exact h6 j hj⟩
  obtain ⟨m, hm⟩ : ∃ m, n = m + 2 := ⟨n - 2, by omega⟩
  subst hm
  obtain ⟨c2, hc2⟩ : ∃ c, cap = c + 2 := ⟨cap - 2, by omega⟩
  subst hc2
  have HST : Hid (StrsAt w g 0 l) := hid hst
  have HL : Hid (l.length = 3 + m) := hid (by omega)
  have hm4 : m ≤ 4000 := by omega
  clear h5 h6 h7 hst h2 hl hll
  have hsz1 : (w.alloc (.cells #[.int .i64 a, .int .i64 sh, .slice (some ⟨g, 1, none⟩) (m + 2) (c2 + 2)] 66)).heap.size = w.heap.size + 1 := by simp
  have hR0 := RulV.start (w.alloc (.cells #[.int .i64 a, .int .i64 sh, .slice (some ⟨g, 1, none⟩) (m + 2) (c2 + 2)] 66)) (B := w.heap.size) (by simp)
  rw [hsz1] at hR0
  have HB0 : Hid (Below w.heap.size w ((w.alloc (.cells #[.int .i64 a, .int .i64 sh, .slice (some ⟨g, 1, none⟩) (m + 2) (c2 + 2)] 66)).alloc (.cells #[.slice none 0 0] 33))) :=
    hid (((Below.refl _ _).alloc (Nat.le_refl _) _).alloc (by simp) _)
  have HR0 : Hid _ := hid hR0
  clear hR0 hsz1
  by_cases hz : c2 = 0
  · subst hz
    have hm0 : m = 0 := by omega
    subst hm0
    have HE : Hid (pst (l.drop 3) = ([], [])) := hid (by rw [List.drop_eq_nil_of_le (by have := HL.out; omega)]; rfl)
    go_enter Tryd.func30, Tryd.ntmps30
    go_wp2
    go_loopw [3, 12] (fun v i wr => i = .int .i64 0 ∧ v = .slice (some ⟨w.heap.size + 1, 0, none⟩) 1 1 ∧ Hid (RulV wr w.heap.size (w.heap.size + 1 + 1) v [] [] [] (.slice none 0 0)) ∧ Hid (Below w.heap.size w wr)) (fun _ i _ => 0)
    case atStart => exact ⟨rfl, rfl, HR0, HB0⟩
    case round =>
      clear HR0 HB0
      obtain ⟨rfl, rfl, hR, hbr⟩ := hrel
      go_wp2
      go_ret
      rw [HE.out]
      exact ⟨_, _, _, _, rfl, hR.out, hbr.out⟩
  · go_enter Tryd.func30, Tryd.ntmps30
    go_wp2
    go_loopw [3, 12] (fun v i wr => ∃ (k d gv cap Bl : Nat) (done : List (List ByteArray)) (cur : List ByteArray) (pvd : List Value) (pl : Value), k ≤ m ∧ d ≤ k ∧ i = .int .i64 k ∧ v = .slice (some ⟨gv, 0, none⟩) (d + 1) cap ∧ Hid (done.length = d) ∧ Hid (cur.length ≤ k) ∧
      Hid (pst ((l.take (3 + k)).drop 3) = (done, cur)) ∧ Hid (RulV wr w.heap.size Bl v done cur pvd pl) ∧ Hid (Below w.heap.size w wr)) (fun _ i _ => m - (intOf i).toNat)
    case atStart => exact ⟨0, 0, _, _, _, [], [], [], _, by omega, by omega, rfl, rfl, rfl, hid (by simp), hid (by rw [List.drop_eq_nil_of_le (by simp; omega)]; rfl), HR0, HB0⟩
    case round =>
      clear HR0 HB0
      obtain ⟨k, d, gv, cap, Bl, done, cur, pvd, pl, hk, hdk, rfl, rfl, hd, hcl, hp, hR, hbr⟩ := hrel
      have hsz := hbr.out.size
      by_cases hlt : k < m
      · have hc : wr.cell? ⟨g, 3 + k, none⟩ = some (.string (nth l (3 + k))) := by
          simpa using (HST.out.later hbr.out).2 (3 + k) (by rw [HL.out]; omega)
        have HN : Hid _ := hid (pst_next (l := l) (k := k) (by rw [HL.out]; omega))
        have hrow := hR.out.row
        rw [hd.out] at hrow
        have hpd : pvd.length = d := hR.out.pvl.trans hd.out
        have HPD : Hid (pvd.length = d) := hid hpd
        have hcd : wr.cell? ⟨gv, d, none⟩ = some pl := by
          rw [hrow.cellAt d (by omega), ← hpd]; simp
        have HP : Hid _ := hid hp
        clear hp hpd
        cases hb : ((nth l (3 + k)).toList == [124])
        · have HQ : Hid (pst ((l.take (3 + k + 1)).drop 3) = (done, cur ++ [nth l (3 + k)])) := hid (by
            rw [HN.out, HP.out.out]; unfold pstep barB; rw [hb]; rfl)
          obtain ⟨cn, hcn⟩ : ∃ cn, cur.length = cn := ⟨_, rfl⟩
          have hcl2 : cn ≤ 4000 := by have := hcl.out; omega
          have hlast := hR.out.last
          rw [hcn] at hlast
          have HCN : Hid (cur.length = cn) := hid hcn
          have hBB := hR.out.hBl
          have hBB2 := hR.out.hB
          have HRow : Hid _ := hid hrow
          clear hcn hrow HN HP
          go_wp2_with (first
            | (at_builtin; refine wpList_append_lies _ rfl _ _ 33 rfl Bl 9 i0 (.string ByteArray.empty) 1 16 Tryd.underlying33 hi hz0 hz1 hz2 rfl (by decide) _ _ _ rfl (hlast.alloc _) ⟨wr.heap.size, 0, none⟩ 1 1 [.string (nth l (3 + k))] rfl rfl (World.news_of_block (heap_alloc_new wr _)) ?c2 (Nat.le_refl 1) ?c3 ?c4 ?c5 _ rfl ?_))
          case c2 => intro u hu; simp at hu; subst hu; rfl
          case c3 => unfold maxLen; omega
          case c4 => omega
          case c5 => simp; omega
          intro g3 cap3 w3 hown3 hgrow3 hat3 hlt3
          have hkeep : Keeps wr w3 pl.ownBlock.toList := ((Keeps.refl _ _).alloc _).grown hgrow3 (fun q hq => .inl (by rw [hq]; simp))
          have hrow3 := own_keeps HRow.out hkeep (fun q hq hm => own_apart HRow.out hlast (by decide) hq (mem_own hm))
          have hc3 : w3.cell? ⟨gv, d, none⟩ = some pl := by
            rw [hrow3.cellAt d (by omega), ← HPD.out]; simp
          have hf3 : w3.frozen? ⟨gv, d, none⟩ = false := by
            obtain ⟨c, hc⟩ := own_kind hrow3 (g := gv) rfl
            exact block_free hc
          have HB3 : Hid (Below w.heap.size w (w3.setCell ⟨gv, d, none⟩ (.slice (some ⟨g3, 0, none⟩) (cn + 1) cap3))) := hid ((hbr.out.trans (hkeep.below hsz (fun q hq => Nat.le_trans hBB2 (hlast.lt q (mem_own hq)).1))).setCell (by exact (HRow.out.lt gv rfl).1) _)
          have HR3 : Hid (RulV (w3.setCell ⟨gv, d, none⟩ (.slice (some ⟨g3, 0, none⟩) (cn + 1) cap3)) w.heap.size Bl (.slice (some ⟨gv, 0, none⟩) (d + 1) cap) done (cur ++ [nth l (3 + k)]) pvd (.slice (some ⟨g3, 0, none⟩) (cn + 1) cap3)) := hid (by
            have h := hR.out
            have hdd := hd.out
            have hcc := HCN.out
            subst hdd
            subst hcc
            exact h.add hkeep hown3)
          clear hown3 hgrow3 hat3 hlt3 hkeep hrow3 hlast
          go_wp2
          go_roundw
          case rel => exact ⟨k + 1, d, gv, cap, Bl, done, _, pvd, _, by omega, by omega, by go_num, rfl, hd, hid (by have := hcl.out; simp; omega), HQ, HR3, HB3⟩
          case measure => simp [intOf]; omega
        · have HQ : Hid (pst ((l.take (3 + k + 1)).drop 3) = (done ++ [cur], [])) := hid (by
            rw [HN.out, HP.out.out]; unfold pstep barB; rw [hb]; rfl)
          clear HN HP
          go_wp2_with (first
            | (at_builtin; refine wpList_append_lies _ rfl _ _ 69 rfl w.heap.size 33 j0 (.slice none 0 0) 1 24 Tryd.underlying69 ji jz0 jz1 jz2 rfl (by decide) _ _ _ rfl (hrow.alloc _) ⟨wr.heap.size, 0, none⟩ 1 1 [.slice none 0 0] rfl rfl (World.news_of_block (heap_alloc_new wr _)) ?d2 (Nat.le_refl 1) ?d3 ?d4 ?d5 _ rfl ?_))
          case d2 => intro u hu; simp at hu; subst hu; rfl
          case d3 => unfold maxLen; omega
          case d4 => omega
          case d5 => simp; omega
          intro g3 cap3 w3 hown3 hgrow3 hat3 hlt3
          have hkeep : Keeps wr w3 (Value.slice (some ⟨gv, 0, none⟩) (d + 1) cap).ownBlock.toList := ((Keeps.refl _ _).alloc _).grown hgrow3 (fun q hq => .inl (by rw [hq]; simp))
          have HB3 : Hid (Below w.heap.size w w3) := hid (hbr.out.trans (hkeep.below hsz (fun q hq => (hrow.lt q (mem_own hq)).1)))
          have HR3 : Hid (RulV w3 w.heap.size w3.heap.size (.slice (some ⟨g3, 0, none⟩) (d + 1 + 1) cap3) (done ++ [cur]) [] (pvd ++ [pl]) (.slice none 0 0)) := hid (by
            have h := hR.out
            have hdd := hd.out
            subst hdd
            exact h.bar hkeep (by simpa using hown3))
          clear hown3 hgrow3 hat3 hlt3 hkeep hrow
          go_wp2
          go_roundw
          case rel => exact ⟨k + 1, d + 1, g3, cap3, _, done ++ [cur], [], pvd ++ [pl], _, by omega, by omega, by go_num, rfl, hid (by simp [hd.out]), hid (by simp), HQ, HR3, HB3⟩
          case measure => simp [intOf]; omega
      · have HE : Hid (pst (l.drop 3) = (done, cur)) := hid (by
          have := hp.out
          rwa [List.take_of_length_le (by have := HL.out; omega)] at this)
        go_wp2
        go_ret
        rw [HE.out]
        exact ⟨_, _, _, _, rfl, hR.out, hbr.out⟩

end Go.Proofs.YtjjggdcnpndgjaaDoor
