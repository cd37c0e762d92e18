/- source.firstUnknown: the first line that uses what no line gives. -/
import Derived.Test.YtjjggdcnpndgjaaDoorPtwice
namespace Go.Proofs.YtjjggdcnpndgjaaDoor
open Go.RowKit Go.WideMaps Go.Maps

/-- All words that are given. -/
def givenB (ls : List Ln) : List ByteArray := (ls.map fun x => givesB x.2.1 x.2.2).filter fun s => !s.toList.isEmpty

def lineUnk (ws : List ByteArray) (x : Ln) : Bool := (x.2.1 == 1 && ((nth x.2.2 1).toList == (nth x.2.2 2).toList)) || (usesB x.2.1 x.2.2).any fun u => cnt ws u == 0

def unkL (ws : List ByteArray) : List Ln → Option Nat
  | [] => none
  | x :: r => if lineUnk ws x then some x.1 else unkL ws r

theorem unkL_at {ls : List Ln} {k : Nat} {x : Ln} (hx : ls[k]? = some x) (ws : List ByteArray) : unkL ws (ls.drop k) = if lineUnk ws x then some x.1 else unkL ws (ls.drop (k + 1)) := by
  obtain ⟨hk, e⟩ := List.getElem?_eq_some_iff.1 hx
  rw [List.drop_eq_getElem_cons hk, e]
  rfl

theorem givenB_next {ls : List Ln} {k : Nat} {x : Ln} (hx : ls[k]? = some x) : givenB (ls.take (k + 1)) = givenB (ls.take k) ++ if (givesB x.2.1 x.2.2).toList.isEmpty then [] else [givesB x.2.1 x.2.2] := by
  obtain ⟨hk, e⟩ := List.getElem?_eq_some_iff.1 hx
  unfold givenB
  rw [List.take_succ_eq_append_getElem hk, e, List.map_append, List.filter_append]
  cases h : (givesB x.2.1 x.2.2).toList.isEmpty <;> simp [h]

theorem givenB_len (ls : List Ln) (k : Nat) : (givenB (ls.take k)).length ≤ k := by
  unfold givenB
  refine Nat.le_trans (List.length_filter_le _ _) ?_
  simp
  omega

theorem uses_any (a sh : Nat) (p : Value) (l : List ByteArray) (w : World) (hW : WordsV w p l) (hsh : sh ≤ 2) (hl : 3 ≤ l.length) (hll : l.length ≤ 4001) :
    Calls Tryd.prog 31 #[.agg #[.int .i64 a, .int .i64 sh, p]] w fun e w' => ∃ v, e = .returned v ∧ UsedV w' v (usesB sh l) ∧ Below w.heap.size w w' := by
  have h' : sh = 0 ∨ sh = 1 ∨ sh = 2 := by omega
  rcases h' with rfl | rfl | rfl
  · exact uses_tok a p l w hW
  · exact uses_swap a p l w hW hl hll
  · exact uses_rule a p l w hW hl hll

theorem below_dn (w : World) (n : Nat) : Below w.heap.size w (w.drewN n) := ⟨rfl, rfl, rfl, Nat.le_refl _, fun _ _ => rfl⟩

theorem uses_len (sh : Nat) (l : List ByteArray) (h3 : 3 ≤ l.length) (hll : l.length ≤ 4001) : (usesB sh l).length ≤ 4001 := by
  unfold usesB
  split
  · simp
  · split
    · have h1 := rules_flat_len l (rulesL l).length
      rw [List.take_length] at h1
      omega
    · simp

/-- What is asked of the lines. -/
structure LinesOk (ls : List Ln) : Prop where
  len : ls.length ≤ 4000
  ok : ∀ x ∈ ls, LineOk x
  sh : ∀ x ∈ ls, x.2.1 ≤ 2
  gsz : ∀ x ∈ ls, (givesB x.2.1 x.2.2).size ≤ 4000
  usz : ∀ x ∈ ls, ∀ u ∈ usesB x.2.1 x.2.2, u.size ≤ 4000

set_option maxHeartbeats 1000000 in
set_option maxRecDepth 100000 in
theorem unknown_any' (v : Value) (ls : List Ln) (pv : List Value) (B : Nat) (w : World) (hV : LnV w B v ls pv) (hok : LinesOk ls) :
    Calls Tryd.prog 24 #[v] w fun e w' => e = .returned (optRet (unkL (givenB ls) ls)) ∧ Below w.heap.size w w' := by
  have hmm := @run_makeMap Tryd.prog
  rcases hV.form with ⟨rfl, rfl⟩ | ⟨g, cap, rfl, hnc, hg⟩
  · clear hV
    have HB : Hid (Below w.heap.size w (w.alloc (.map #[] 0))) := hid ((Below.refl _ _).alloc (Nat.le_refl _) _)
    go_enter Tryd.func24, Tryd.ntmps24
    go_wp2
    go_loopw [15] (fun i wr => i = .int .i64 0 ∧ Hid (Below w.heap.size w wr)) (fun i _ => 0)
    case atStart => exact ⟨rfl, HB⟩
    case round =>
      obtain ⟨rfl, hbr⟩ := hrel
      go_wp2
      go_loopw [30] (fun i wr => i = .int .i64 0 ∧ Hid (Below w.heap.size w wr)) (fun i _ => 0)
      case atStart => exact ⟨rfl, hbr⟩
      case round =>
        obtain ⟨rfl, hbr2⟩ := hrel
        go_wp2
        go_ret2
        exact ⟨rfl, hbr2.out⟩
  · obtain ⟨n, hN⟩ : ∃ n, n = ls.length := ⟨_, rfl⟩
    have hn : n ≤ 4000 := by have := hok.len; omega
    rw [← hN] at hnc hV ⊢
    have HN : Hid (n = ls.length) := hid hN
    have HV : Hid _ := hid hV
    have HOK : Hid _ := hid hok
    have HB : Hid (Below w.heap.size w (w.alloc (.map #[] 0))) := hid ((Below.refl _ _).alloc (Nat.le_refl _) _)
    have HM : Hid (MapV (w.alloc (.map #[] 0)) w.heap.size 0 []) := hid ⟨_, World.ownsMap_made _ _ _ _, isMap_empty, fun s => rfl⟩
    clear hN hV hok
    go_enter Tryd.func24, Tryd.ntmps24
    go_wp2
    clear hmm
    go_loopw [15] (fun i wr => ∃ k : Nat, k ≤ n ∧ i = .int .i64 k ∧ Hid (MapV wr w.heap.size k (givenB (ls.take k))) ∧ Hid (Below w.heap.size w wr)) (fun i _ => n - (intOf i).toNat)
    case atStart => exact ⟨0, by omega, rfl, HM, HB⟩
    case round =>
      clear HM HB
      obtain ⟨k, hk, rfl, hm, hbr⟩ := hrel
      have hsz := hbr.out.size
      by_cases hlt : k < n
      · obtain ⟨x, hx⟩ : ∃ x, ls[k]? = some x := ⟨_, List.getElem?_eq_getElem (by have := HN.out; omega)⟩
        have hxok := HOK.out.ok x (List.mem_of_getElem? hx)
        have hxs := HOK.out.gsz x (List.mem_of_getElem? hx)
        have hT := givenB_next hx
        obtain ⟨p, hp, hWV, k0, k1, k2⟩ := (HV.out.below hbr.out).at hx
        obtain ⟨at_, sh, l⟩ := x
        simp only at k0 k1 k2 hT hWV hxs
        have hgr : g < wr.heap.size := Nat.lt_of_lt_of_le hg hsz
        have HWV : Hid _ := hid hWV
        obtain ⟨gw, m, mc, ad, cs, rfl, _⟩ := hWV
        have HB1 : Hid (Below w.heap.size w (wr.alloc (.cells #[.int .i64 at_, .int .i64 sh, .slice ad m mc] 66))) := hid (hbr.out.alloc hsz _)
        have HA1 : Hid (Below wr.heap.size wr (wr.alloc (.cells #[.int .i64 at_, .int .i64 sh, .slice ad m mc] 66))) := hid ((Below.refl _ _).alloc (Nat.le_refl _) _)
        obtain ⟨wd, hwd⟩ : ∃ wd, givesB sh l = wd := ⟨_, rfl⟩
        have cG := gives_any at_ sh (.slice ad m mc) l _ (HWV.out.below HA1.out) (by have := hxok.1; simp only at this; omega) hxok.2
        rw [hwd] at cG hT hxs
        have CG : Hid _ := hid cG
        have HT : Hid _ := hid hT
        obtain ⟨ws, hws⟩ : ∃ ws, givenB (ls.take k) = ws := ⟨_, rfl⟩
        have hwl : ws.length ≤ k := by rw [← hws]; exact givenB_len ls k
        rw [hws] at hm HT
        obtain ⟨D, hown, hD, hcount⟩ := hm.out
        have hkey : keyOf Tryd.prog 9 (.string wd) = some (.string wd.data.toList) := keyOf_string_mk Tryd.underlying9 (by unfold maxLen; omega)
        obtain ⟨cc, hcc⟩ : ∃ cc, cnt ws wd = cc := ⟨_, rfl⟩
        have hcc4 : cc ≤ 4000 := by have h1 := cnt_le ws wd; omega
        have HC3 : Hid (D.atKey (.string wd.data.toList) (.lit (.int .i64 0)) = .lit (.int .i64 cc)) := hid (by rw [hcount wd, hcc])
        have HD3 : Hid (IsMap (D.put (.string wd.data.toList) (.lit (.int .i64 ((cc : Int) + 1))))) := hid (hD.put _ _)
        have HC4 : Hid (∀ s : ByteArray, (D.put (.string wd.data.toList) (.lit (.int .i64 ((cc : Int) + 1)))).atKey (.string s.data.toList) (.lit (.int .i64 0)) = .lit (.int .i64 (cnt (ws ++ [wd]) s))) := hid (by have := counts_put hD hcount wd; rwa [hcc] at this)
        have HM : Hid (MapV wr w.heap.size k ws) := hm
        have HOwn : Hid _ := hid hown
        have HKey : Hid _ := hid hkey
        have hk4 : k < 4000 := by omega
        clear hp hx hxok hT cG hwd hcount hD hown hm hkey hcc hws hwl
        cases he : wd.toList.isEmpty
        · have HE : Hid (givenB (ls.take (k + 1)) = ws ++ [wd]) := hid (by rw [HT.out, if_neg (by rw [he]; decide)])
          clear HT HM
          go_wp2_with (first
            | (go_at_call 29; refine CG.out.mono ?_; rintro e w2 ⟨rfl, hb2⟩; have hown2 := own_below (own_below HOwn.out HA1.out) hb2; obtain ⟨c, hrun, hat, _⟩ := hown2.lookup_int Tryd.lawStr Tryd.underlying67 Tryd.underlying3 (Tryd.zeroInt _) HKey.out; obtain rfl : c = (cc : Int) := lit_inj (hat.symm.trans HC3.out); clear hat)
            | (at_mapUpdate; refine wpList_mapUpdate_own _ rfl _ _ _ 67 rfl 9 3 Tryd.lawStr Tryd.underlying67 _ w.heap.size k _ rfl hown2 (by unfold maxLen; omega) _ _ _ rfl rfl HKey.out _ [] (plainElem_int Tryd.underlying3 (WalkArith.wf_i64 (by omega))) ?_))
          intro w3 hown3 hgrow3
          have hbw2 : Below w.heap.size w w2 := HB1.out.trans (hb2.mono HB1.out.size)
          have HB3 : Hid (Below w.heap.size w w3) := hid (hbw2.grown hgrow3 hbw2.size (fun j hj => by cases hj; exact Nat.le_refl _))
          have HMV : Hid (MapV w3 w.heap.size (k + 1) (givenB (ls.take (k + 1)))) := hid (by rw [HE.out]; exact ⟨_, hown3, HD3.out, HC4.out⟩)
          clear hown3 hgrow3 hown2 hrun hbw2 hb2
          go_wp2
          go_roundw
          case rel => exact ⟨k + 1, by omega, by go_num, HMV, HB3⟩
          case measure => simp [intOf]; omega
        · have HE : Hid (givenB (ls.take (k + 1)) = ws) := hid (by rw [HT.out, if_pos he, List.append_nil])
          go_wp2_with (first | (go_at_call 29; refine CG.out.mono ?_; rintro e w2 ⟨rfl, hb2⟩))
          have hbb : Below wr.heap.size wr w2 := HA1.out.trans (hb2.mono HA1.out.size)
          have HMV : Hid (MapV w2 w.heap.size (k + 1) (givenB (ls.take (k + 1)))) := hid (by
            rw [HE.out]
            obtain ⟨D', h1, h2⟩ := HM.out.below hbb
            exact ⟨D', h1.mono (by omega), h2⟩)
          have HB2 : Hid _ := hid (HB1.out.trans (hb2.mono HB1.out.size))
          clear hbb hb2
          go_roundw
          case rel => exact ⟨k + 1, by omega, by go_num, HMV, HB2⟩
          case measure => simp [intOf]; omega
      · have HMW : Hid (MapV wr w.heap.size k (givenB ls)) := hid (by
          have h := hm.out
          rwa [List.take_of_length_le (by have := HN.out; omega)] at h)
        clear hm
        obtain ⟨W1, hW1⟩ : ∃ W1, W1 = wr := ⟨_, rfl⟩
        subst hW1
        go_wp2
        go_loopw [30] (fun i wi => ∃ q : Nat, q ≤ n ∧ i = .int .i64 q ∧ Hid (unkL (givenB ls) ls = unkL (givenB ls) (ls.drop q)) ∧ Hid (Below W1.heap.size W1 wi)) (fun i _ => n - (intOf i).toNat)
        case atStart => exact ⟨0, by omega, rfl, rfl, Below.refl _ _⟩
        case round =>
          obtain ⟨q, hq, rfl, ht, hbi⟩ := hrel
          have hbw : Below w.heap.size w wr := hbr.out.trans (hbi.out.mono hsz)
          have hsz2 := hbw.size
          by_cases hlq : q < n
          · obtain ⟨x, hx⟩ : ∃ x, ls[q]? = some x := ⟨_, List.getElem?_eq_getElem (by have := HN.out; omega)⟩
            have hxok := HOK.out.ok x (List.mem_of_getElem? hx)
            have hxsh := HOK.out.sh x (List.mem_of_getElem? hx)
            have hxus := HOK.out.usz x (List.mem_of_getElem? hx)
            have hT := unkL_at hx (givenB ls)
            obtain ⟨p, hp, hWV, k0, k1, k2⟩ := (HV.out.below hbw).at hx
            obtain ⟨at_, sh, l⟩ := x
            simp only at k0 k1 k2 hT hWV hxsh hxus
            have hgr : g < wr.heap.size := Nat.lt_of_lt_of_le hg hsz2
            have HWV : Hid _ := hid hWV
            obtain ⟨gw, m, mc, ad, cs, rfl, e1, e2, e3, e4, e5, e6⟩ := hWV
            have hl3 : 3 ≤ l.length := hxok.1
            obtain rfl : ad = some ⟨gw, 1, none⟩ := e6 (by omega)
            have c1 : wr.cell? ⟨gw, 1, none⟩ = some (.string (nth l 1)) := by rw [block_cell e4]; exact e5 1 (by omega)
            have c2 : wr.cell? ⟨gw, 2, none⟩ = some (.string (nth l 2)) := by rw [block_cell e4]; exact e5 2 (by omega)
            have hgw : gw < wr.heap.size := lt_of_block e4
            have hm1 : 0 < m := by omega
            have hm2 : 1 < m := by omega
            have hm3 : (0 : Int) < m := by omega
            have hm4 : (1 : Int) < m := by omega
            have HA1 : Hid (Below wr.heap.size wr (wr.alloc (.cells #[.int .i64 at_, .int .i64 sh, .slice (some ⟨gw, 1, none⟩) m mc] 66))) := hid ((Below.refl _ _).alloc (Nat.le_refl _) _)
            obtain ⟨us, hus⟩ : ∃ us, usesB sh l = us := ⟨_, rfl⟩
            obtain ⟨un, hun⟩ : ∃ un, us.length = un := ⟨_, rfl⟩
            have hun4 : un ≤ 4001 := by
              have h1 := uses_len sh l hxok.1 hxok.2
              rw [hus, hun] at h1
              exact h1
            have HUN : Hid (us.length = un) := hid hun
            have HUZ : Hid (∀ u ∈ us, u.size ≤ 4000) := hid (by rw [← hus]; exact hxus)
            have CU : Hid (∀ W, Below wr.heap.size wr W → Calls Tryd.prog 31 #[.agg #[.int .i64 at_, .int .i64 sh, .slice (some ⟨gw, 1, none⟩) m mc]] W fun e w' =>
                (∃ ad cap, e = .returned (.slice ad un cap) ∧ (0 < un → ∃ g off, ad = some ⟨g, off, none⟩ ∧ StrsAt w' g off us ∧ un ≤ cap)) ∧ Below W.heap.size W w') := hid fun W hW => by
              refine (uses_any at_ sh _ l W (HWV.out.below hW) hxsh hxok.1 hxok.2).mono ?_
              rintro e w' ⟨v, rfl, ⟨ad, cap, rfl, h1, h2⟩, hb⟩
              rw [hus, hun] at h1 h2 ⊢
              exact ⟨⟨ad, cap, rfl, fun h => by obtain ⟨g, off, h3, h4⟩ := h2 h; exact ⟨g, off, h3, h4, h1⟩⟩, hb⟩
            have HT : Hid _ := hid (ht.out.trans hT)
            have HLU0 : Hid (lineUnk (givenB ls) (at_, sh, l) = ((sh == 1 && ((nth l 1).toList == (nth l 2).toList)) || us.any fun u => cnt (givenB ls) u == 0)) := hid (by unfold lineUnk; rw [hus])
            clear hp hx hxok hT ht e1 e2 e3 e4 e5 e6 hus hun hxus hbw hl3
            cases hs1 : ((sh : Int) == 1)
            · have HLU : Hid (lineUnk (givenB ls) (at_, sh, l) = us.any fun u => cnt (givenB ls) u == 0) := hid (by
                rw [HLU0.out, show (sh == 1) = false by simp at hs1 ⊢; omega]; simp)
              clear HLU0
              go_wp2
              go_quiet (fail)
              rcases Nat.eq_zero_or_pos un with hu0 | hup
              · have hus0 : us = [] := List.eq_nil_of_length_eq_zero (HUN.out.trans hu0)
                have HE : Hid (unkL (givenB ls) ls = unkL (givenB ls) (ls.drop (q + 1))) := hid (by rw [HT.out, if_neg]; rw [HLU.out, hus0]; simp)
                subst hu0
                clear hus0
                go_wp2_with (first | (go_at_call 31; refine (CU.out _ (HA1.out.trans ((below_dn _ _).mono HA1.out.size))).mono ?_; rintro e w2 ⟨⟨adu, capu, rfl, _⟩, hb2⟩))
                have HB2 : Hid (Below W1.heap.size W1 w2) := hid (hbi.out.trans ((HA1.out.trans (((below_dn _ _).trans hb2).mono HA1.out.size)).mono hbi.out.size))
                clear hb2
                go_loopw [53] (fun i wj => i = .int .i64 0 ∧ Hid (Below W1.heap.size W1 wj)) (fun i _ => 0)
                case atStart => exact ⟨rfl, HB2⟩
                case round =>
                  obtain ⟨rfl, hbj⟩ := hrel
                  go_wp2
                  go_roundw
                  case rel => exact ⟨q + 1, by omega, by go_num, HE, hbj⟩
                  case measure => simp [intOf]; omega
              · go_wp2_with (first | (go_at_call 31; refine (CU.out _ (HA1.out.trans ((below_dn _ _).mono HA1.out.size))).mono ?_; rintro e w2 ⟨⟨adu, capu, rfl, hst⟩, hb2⟩))
                obtain ⟨gu, ou, rfl, hstr, hcu⟩ := hst hup
                have hbA : Below wr.heap.size wr w2 := HA1.out.trans (((below_dn _ _).trans hb2).mono HA1.out.size)
                have HB2 : Hid (Below W1.heap.size W1 w2) := hid (hbi.out.trans (hbA.mono hbi.out.size))
                have q2 : w2.cell? ⟨wr.heap.size, 0, none⟩ = some (.int .i64 at_) := (hb2.cell (by simp)).trans (by
                  show (wr.alloc _).cell? _ = _
                  rw [block_cell (heap_alloc_new wr _)]; rfl)
                obtain ⟨bl, hbl⟩ : ∃ bl, wr.heap.size = bl := ⟨_, rfl⟩
                rw [hbl] at q2
                have HQ2 : Hid _ := hid q2
                have hbl2 : bl < w2.heap.size := lt_of_cell' q2
                have HSTR : Hid _ := hid hstr
                rw [hbl]
                clear hstr hbA hb2 hst q2
                go_loopw [53] (fun i wj => ∃ j : Nat, j ≤ un ∧ i = .int .i64 j ∧ Hid (∀ t, t < j → (cnt (givenB ls) (nth us t) == 0) = false) ∧ Hid (Below w2.heap.size w2 wj)) (fun i _ => un - (intOf i).toNat)
                case atStart => exact ⟨0, by omega, rfl, hid (fun t h => by omega), Below.refl _ _⟩
                case round =>
                  obtain ⟨j, hj, rfl, hno, hbj⟩ := hrel
                  have HBj : Hid (Below W1.heap.size W1 wr) := hid (HB2.out.trans (hbj.out.mono HB2.out.size))
                  by_cases hlj : j < un
                  · have cu : wr.cell? ⟨gu, ou + j, none⟩ = some (.string (nth us j)) := (HSTR.out.later hbj.out).2 j (by rw [HUN.out]; exact hlj)
                    have hmem : nth us j ∈ us := by
                      unfold nth
                      rw [List.getD_eq_getElem?_getD, List.getElem?_eq_getElem (by rw [HUN.out]; exact hlj)]
                      exact List.getElem_mem _
                    have hus4 := HUZ.out _ hmem
                    obtain ⟨u, hu⟩ : ∃ u, nth us j = u := ⟨_, rfl⟩
                    rw [hu] at cu hus4
                    have HU : Hid (nth us j = u) := hid hu
                    have HMem : Hid (nth us j ∈ us) := hid hmem
                    obtain ⟨D, hown, _, hcount⟩ := HMW.out.below HBj.out
                    have hkey : keyOf Tryd.prog 9 (.string u) = some (.string u.data.toList) := keyOf_string_mk Tryd.underlying9 (by unfold maxLen; omega)
                    obtain ⟨c, hrun, hat, _⟩ := hown.lookup_int Tryd.lawStr Tryd.underlying67 Tryd.underlying3 (Tryd.zeroInt _) hkey
                    obtain ⟨cc, hcc⟩ : ∃ cc, cnt (givenB ls) u = cc := ⟨_, rfl⟩
                    obtain rfl : c = (cc : Int) := lit_inj (hat.symm.trans (by rw [hcount u, hcc]))
                    have HCC : Hid (cnt (givenB ls) u = cc) := hid hcc
                    clear hu hmem hcount hkey hat hcc hown
                    have q3 : wr.cell? ⟨bl, 0, none⟩ = some (.int .i64 at_) := (hbj.out.cell (by exact hbl2)).trans HQ2.out
                    cases hz : ((cc : Int) == 0)
                    · have HN2 : Hid _ := hid (upto_next hno.out (show (cnt (givenB ls) (nth us j) == 0) = false by rw [HU.out, HCC.out]; simp at hz ⊢; omega))
                      go_wp2
                      go_roundw
                      case rel => exact ⟨j + 1, by omega, by go_num, HN2, hbj⟩
                      case measure => simp [intOf]; omega
                    · have HE : Hid (unkL (givenB ls) ls = some at_) := hid (by
                        rw [HT.out, if_pos]
                        rw [HLU.out, List.any_eq_true]
                        exact ⟨_, HMem.out, by rw [HU.out, HCC.out]; simp at hz ⊢; omega⟩)
                      go_wp2
                      go_ret2
                      exact ⟨by rw [HE.out]; rfl, hbr.out.trans (HBj.out.mono hsz)⟩
                  · have HE : Hid (unkL (givenB ls) ls = unkL (givenB ls) (ls.drop (q + 1))) := hid (by
                      rw [HT.out, if_neg]
                      rw [HLU.out, Bool.not_eq_true, List.any_eq_false]
                      intro y hy
                      obtain ⟨t, ht, rfl⟩ := List.mem_iff_getElem.1 hy
                      have h1 := hno.out t (by have := HUN.out; omega)
                      unfold nth at h1
                      rw [List.getD_eq_getElem?_getD, List.getElem?_eq_getElem ht] at h1
                      simpa using h1)
                    go_wp2
                    go_roundw
                    case rel => exact ⟨q + 1, by omega, by go_num, HE, HBj⟩
                    case measure => simp [intOf]; omega
            · cases he : ((nth l 1).toList == (nth l 2).toList)
              · have HLU : Hid (lineUnk (givenB ls) (at_, sh, l) = us.any fun u => cnt (givenB ls) u == 0) := hid (by
                  rw [HLU0.out, he]; simp)
                clear HLU0
                go_wp2
                go_quiet (fail)
                rcases Nat.eq_zero_or_pos un with hu0 | hup
                · have hus0 : us = [] := List.eq_nil_of_length_eq_zero (HUN.out.trans hu0)
                  have HE : Hid (unkL (givenB ls) ls = unkL (givenB ls) (ls.drop (q + 1))) := hid (by rw [HT.out, if_neg]; rw [HLU.out, hus0]; simp)
                  subst hu0
                  clear hus0
                  go_wp2_with (first | (go_at_call 31; refine (CU.out _ (HA1.out.trans ((below_dn _ _).mono HA1.out.size))).mono ?_; rintro e w2 ⟨⟨adu, capu, rfl, _⟩, hb2⟩))
                  have HB2 : Hid (Below W1.heap.size W1 w2) := hid (hbi.out.trans ((HA1.out.trans (((below_dn _ _).trans hb2).mono HA1.out.size)).mono hbi.out.size))
                  clear hb2
                  go_loopw [53] (fun i wj => i = .int .i64 0 ∧ Hid (Below W1.heap.size W1 wj)) (fun i _ => 0)
                  case atStart => exact ⟨rfl, HB2⟩
                  case round =>
                    obtain ⟨rfl, hbj⟩ := hrel
                    go_wp2
                    go_roundw
                    case rel => exact ⟨q + 1, by omega, by go_num, HE, hbj⟩
                    case measure => simp [intOf]; omega
                · go_wp2_with (first | (go_at_call 31; refine (CU.out _ (HA1.out.trans ((below_dn _ _).mono HA1.out.size))).mono ?_; rintro e w2 ⟨⟨adu, capu, rfl, hst⟩, hb2⟩))
                  obtain ⟨gu, ou, rfl, hstr, hcu⟩ := hst hup
                  have hbA : Below wr.heap.size wr w2 := HA1.out.trans (((below_dn _ _).trans hb2).mono HA1.out.size)
                  have HB2 : Hid (Below W1.heap.size W1 w2) := hid (hbi.out.trans (hbA.mono hbi.out.size))
                  have q2 : w2.cell? ⟨wr.heap.size, 0, none⟩ = some (.int .i64 at_) := (hb2.cell (by simp)).trans (by
                    show (wr.alloc _).cell? _ = _
                    rw [block_cell (heap_alloc_new wr _)]; rfl)
                  obtain ⟨bl, hbl⟩ : ∃ bl, wr.heap.size = bl := ⟨_, rfl⟩
                  rw [hbl] at q2
                  have HQ2 : Hid _ := hid q2
                  have hbl2 : bl < w2.heap.size := lt_of_cell' q2
                  have HSTR : Hid _ := hid hstr
                  rw [hbl]
                  clear hstr hbA hb2 hst q2
                  go_loopw [53] (fun i wj => ∃ j : Nat, j ≤ un ∧ i = .int .i64 j ∧ Hid (∀ t, t < j → (cnt (givenB ls) (nth us t) == 0) = false) ∧ Hid (Below w2.heap.size w2 wj)) (fun i _ => un - (intOf i).toNat)
                  case atStart => exact ⟨0, by omega, rfl, hid (fun t h => by omega), Below.refl _ _⟩
                  case round =>
                    obtain ⟨j, hj, rfl, hno, hbj⟩ := hrel
                    have HBj : Hid (Below W1.heap.size W1 wr) := hid (HB2.out.trans (hbj.out.mono HB2.out.size))
                    by_cases hlj : j < un
                    · have cu : wr.cell? ⟨gu, ou + j, none⟩ = some (.string (nth us j)) := (HSTR.out.later hbj.out).2 j (by rw [HUN.out]; exact hlj)
                      have hmem : nth us j ∈ us := by
                        unfold nth
                        rw [List.getD_eq_getElem?_getD, List.getElem?_eq_getElem (by rw [HUN.out]; exact hlj)]
                        exact List.getElem_mem _
                      have hus4 := HUZ.out _ hmem
                      obtain ⟨u, hu⟩ : ∃ u, nth us j = u := ⟨_, rfl⟩
                      rw [hu] at cu hus4
                      have HU : Hid (nth us j = u) := hid hu
                      have HMem : Hid (nth us j ∈ us) := hid hmem
                      obtain ⟨D, hown, _, hcount⟩ := HMW.out.below HBj.out
                      have hkey : keyOf Tryd.prog 9 (.string u) = some (.string u.data.toList) := keyOf_string_mk Tryd.underlying9 (by unfold maxLen; omega)
                      obtain ⟨c, hrun, hat, _⟩ := hown.lookup_int Tryd.lawStr Tryd.underlying67 Tryd.underlying3 (Tryd.zeroInt _) hkey
                      obtain ⟨cc, hcc⟩ : ∃ cc, cnt (givenB ls) u = cc := ⟨_, rfl⟩
                      obtain rfl : c = (cc : Int) := lit_inj (hat.symm.trans (by rw [hcount u, hcc]))
                      have HCC : Hid (cnt (givenB ls) u = cc) := hid hcc
                      clear hu hmem hcount hkey hat hcc hown
                      have q3 : wr.cell? ⟨bl, 0, none⟩ = some (.int .i64 at_) := (hbj.out.cell (by exact hbl2)).trans HQ2.out
                      cases hz : ((cc : Int) == 0)
                      · have HN2 : Hid _ := hid (upto_next hno.out (show (cnt (givenB ls) (nth us j) == 0) = false by rw [HU.out, HCC.out]; simp at hz ⊢; omega))
                        go_wp2
                        go_roundw
                        case rel => exact ⟨j + 1, by omega, by go_num, HN2, hbj⟩
                        case measure => simp [intOf]; omega
                      · have HE : Hid (unkL (givenB ls) ls = some at_) := hid (by
                          rw [HT.out, if_pos]
                          rw [HLU.out, List.any_eq_true]
                          exact ⟨_, HMem.out, by rw [HU.out, HCC.out]; simp at hz ⊢; omega⟩)
                        go_wp2
                        go_ret2
                        exact ⟨by rw [HE.out]; rfl, hbr.out.trans (HBj.out.mono hsz)⟩
                    · have HE : Hid (unkL (givenB ls) ls = unkL (givenB ls) (ls.drop (q + 1))) := hid (by
                        rw [HT.out, if_neg]
                        rw [HLU.out, Bool.not_eq_true, List.any_eq_false]
                        intro y hy
                        obtain ⟨t, ht, rfl⟩ := List.mem_iff_getElem.1 hy
                        have h1 := hno.out t (by have := HUN.out; omega)
                        unfold nth at h1
                        rw [List.getD_eq_getElem?_getD, List.getElem?_eq_getElem ht] at h1
                        simpa using h1)
                      go_wp2
                      go_roundw
                      case rel => exact ⟨q + 1, by omega, by go_num, HE, HBj⟩
                      case measure => simp [intOf]; omega
              · have HE : Hid (unkL (givenB ls) ls = some at_) := hid (by
                  rw [HT.out, if_pos]
                  rw [HLU0.out, he, show (sh == 1) = true by simp at hs1 ⊢; omega]; rfl)
                go_wp2
                go_quiet (fail)
                go_wp2
                go_ret2
                exact ⟨by rw [HE.out]; rfl, hbr.out.trans ((hbi.out.trans ((HA1.out.trans ((below_dn _ _).mono HA1.out.size)).mono hbi.out.size)).mono hsz)⟩
          · have HE : Hid (unkL (givenB ls) ls = none) := hid (by rw [ht.out, List.drop_eq_nil_of_le (by have := HN.out; omega)]; rfl)
            go_wp2
            go_ret2
            exact ⟨by rw [HE.out]; rfl, hbw⟩

end Go.Proofs.YtjjggdcnpndgjaaDoor
