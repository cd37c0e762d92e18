/- source.firstTwice: the first line that gives what was given. -/
import Derived.Test.YtjjggdcnpndgjaaDoorPmany
import Derived.Maps.Own
import Derived.Maps.OwnOps
import Derived.Maps.Views
namespace Go.Proofs.YtjjggdcnpndgjaaDoor
open Go.RowKit Go.WideMaps Go.Maps

theorem Tryd.lawStr : Keyed Tryd.prog 9 := string_keyed Tryd.underlying9
theorem Tryd.zeroInt (w : World) : (zeroValue 3).run Tryd.prog w = .ok (.int .i64 0) w := by kernel_rfl

def sameB (x s : ByteArray) : Bool := decide (x.data.toList = s.data.toList)
/-- How often a word stands in a list. -/
def cnt (ws : List ByteArray) (s : ByteArray) : Nat := (ws.filter fun x => sameB x s).length

theorem own_below {w w' : World} {b n : Nat} {D : DataW Unit} (h : w.ownsMap Tryd.prog 9 (plainElem Tryd.prog 3) b n D) (hb : Below w.heap.size w w') : w'.ownsMap Tryd.prog 9 (plainElem Tryd.prog 3) b n D := by
  have hlt := h.lt
  obtain ⟨es, clock, h1, h2⟩ := h
  exact ⟨es, clock, (hb.block b hlt).trans h1, h2⟩

/-- A map that counts. -/
def MapV (w : World) (b n : Nat) (ws : List ByteArray) : Prop := ∃ D : DataW Unit, w.ownsMap Tryd.prog 9 (plainElem Tryd.prog 3) b n D ∧ IsMap D ∧ ∀ s : ByteArray, D.atKey (.string s.data.toList) (.lit (.int .i64 0)) = .lit (.int .i64 (cnt ws s))

theorem MapV.below {w w' : World} {b n : Nat} {ws : List ByteArray} (h : MapV w b n ws) (hb : Below w.heap.size w w') : MapV w' b n ws := by
  obtain ⟨D, hown, h2, h3⟩ := h
  exact ⟨D, own_below hown hb, h2, h3⟩

theorem lt_of_cell' {w : World} {p : Addr} {v : Value} (h : w.cell? p = some v) : p.block < w.heap.size := by
  rcases Nat.lt_or_ge p.block w.heap.size with h1 | h1
  · exact h1
  · unfold World.cell? at h
    rw [Array.getElem?_eq_none h1] at h
    simp at h

theorem lit_inj {a b : Int} (h : (DataW.lit (.int .i64 a) : DataW Unit) = .lit (.int .i64 b)) : a = b := by
  injection h with h
  injection h

theorem cnt_snoc (ws : List ByteArray) (x s : ByteArray) : cnt (ws ++ [x]) s = cnt ws s + if sameB x s = true then 1 else 0 := by
  unfold cnt
  rw [List.filter_append, List.length_append]
  by_cases h : sameB x s = true
  · rw [if_pos h, List.filter_cons_of_pos (by exact h)]; rfl
  · rw [if_neg h, List.filter_cons_of_neg (by exact h)]; rfl

theorem cnt_le (ws : List ByteArray) (s : ByteArray) : cnt ws s ≤ ws.length := List.length_filter_le _ _

theorem counts_put {D : DataW Unit} {ws : List ByteArray} (hm : IsMap D) (h : ∀ s : ByteArray, D.atKey (.string s.data.toList) (.lit (.int .i64 0)) = .lit (.int .i64 (cnt ws s))) (x : ByteArray) :
    ∀ s : ByteArray, (D.put (.string x.data.toList) (.lit (.int .i64 ((cnt ws x : Int) + 1)))).atKey (.string s.data.toList) (.lit (.int .i64 0)) = .lit (.int .i64 (cnt (ws ++ [x]) s)) := by
  intro s
  rw [cnt_snoc]
  by_cases e : x.data.toList = s.data.toList
  · have h2 : cnt ws x = cnt ws s := by unfold cnt sameB; rw [e]
    have h3 : sameB x s = true := decide_eq_true e
    rw [← e, atKey_put_same hm (by trivial), if_pos h3, ← h2]
    rfl
  · have h3 : ¬ sameB x s = true := fun h => e (of_decide_eq_true h)
    rw [atKey_put_other (fun h => e (by injection h with h; exact h.symm)), h s, if_neg h3]
    rfl

def twiceB : List Ln → List ByteArray → Option Nat
  | [], _ => none
  | x :: r, ws => if (givesB x.2.1 x.2.2).toList.isEmpty then twiceB r ws else if 0 < cnt ws (givesB x.2.1 x.2.2) then some x.1 else twiceB r (ws ++ [givesB x.2.1 x.2.2])

theorem twiceB_at {ls : List Ln} {k : Nat} {x : Ln} (hx : ls[k]? = some x) (ws : List ByteArray) : twiceB (ls.drop k) ws =
    if (givesB x.2.1 x.2.2).toList.isEmpty then twiceB (ls.drop (k + 1)) ws else if 0 < cnt ws (givesB x.2.1 x.2.2) then some x.1 else twiceB (ls.drop (k + 1)) (ws ++ [givesB x.2.1 x.2.2]) := by
  obtain ⟨hk, e⟩ := List.getElem?_eq_some_iff.1 hx
  rw [List.drop_eq_getElem_cons hk, e]
  rfl

set_option maxHeartbeats 1000000 in
set_option maxRecDepth 100000 in
theorem twice_any (v : Value) (ls : List Ln) (pv : List Value) (B : Nat) (w : World) (hV : LnV w B v ls pv) (hn : ls.length ≤ 4000) (hok : ∀ x ∈ ls, LineOk x) (hsz : ∀ x ∈ ls, (givesB x.2.1 x.2.2).size ≤ 4000) :
    Calls Tryd.prog 21 #[v] w fun e w' => e = .returned (optRet (twiceB ls [])) ∧ Below w.heap.size w w' := by
  have hmm := @run_makeMap Tryd.prog
  rcases hV.form with ⟨rfl, rfl⟩ | ⟨g, cap, rfl, hnc, hg⟩
  · clear hV
    have HB : Hid (Below w.heap.size w (w.alloc (.map #[] 0))) := hid ((Below.refl _ _).alloc (Nat.le_refl _) _)
    go_enter Tryd.func21, Tryd.ntmps21
    go_wp2
    go_loopw [11] (fun i wr => i = .int .i64 0 ∧ Hid (Below w.heap.size w wr)) (fun i _ => 0)
    case atStart => exact ⟨rfl, HB⟩
    case round =>
      obtain ⟨rfl, hbr⟩ := hrel
      go_wp2
      go_ret2
      exact ⟨rfl, hbr.out⟩
  · obtain ⟨n, hN⟩ : ∃ n, n = ls.length := ⟨_, rfl⟩
    rw [← hN] at hn hnc hV ⊢
    have HN : Hid (n = ls.length) := hid hN
    have HV : Hid _ := hid hV
    have HOK : Hid _ := hid hok
    have HSZ : Hid _ := hid hsz
    have HB : Hid (Below w.heap.size w (w.alloc (.map #[] 0))) := hid ((Below.refl _ _).alloc (Nat.le_refl _) _)
    have HM : Hid (MapV (w.alloc (.map #[] 0)) w.heap.size 0 []) := hid ⟨_, World.ownsMap_made _ _ _ _, isMap_empty, fun s => rfl⟩
    clear hN hV hok hsz
    go_enter Tryd.func21, Tryd.ntmps21
    go_wp2
    clear hmm
    go_loopw [11] (fun i wr => ∃ (k : Nat) (ws : List ByteArray), k ≤ n ∧ i = .int .i64 k ∧ Hid (ws.length ≤ k) ∧ Hid (twiceB ls [] = twiceB (ls.drop k) ws) ∧ Hid (MapV wr w.heap.size k ws) ∧ Hid (Below w.heap.size w wr)) (fun i _ => n - (intOf i).toNat)
    case atStart => exact ⟨0, [], by omega, rfl, hid (by simp), rfl, HM, HB⟩
    case round =>
      clear HM HB
      obtain ⟨k, ws, hk, rfl, hwl, ht, hm, hbr⟩ := hrel
      have hsz := hbr.out.size
      by_cases hlt : k < n
      · obtain ⟨x, hx⟩ : ∃ x, ls[k]? = some x := ⟨_, List.getElem?_eq_getElem (by have := HN.out; omega)⟩
        have hxok := HOK.out x (List.mem_of_getElem? hx)
        have hxs := HSZ.out x (List.mem_of_getElem? hx)
        have hT := twiceB_at hx ws
        obtain ⟨p, hp, hWV, k0, k1, k2⟩ := (HV.out.below hbr.out).at hx
        obtain ⟨at_, sh, l⟩ := x
        simp only at k0 k1 k2 hT hWV hxs
        have hgr : g < wr.heap.size := Nat.lt_of_lt_of_le hg hsz
        have HWV : Hid _ := hid hWV
        obtain ⟨gw, m, mc, ad, cs, rfl, _⟩ := hWV
        have HB1 : Hid (Below w.heap.size w (wr.alloc (.cells #[.int .i64 at_, .int .i64 sh, .slice ad m mc] 66))) := hid (hbr.out.alloc hsz _)
        have HA1 : Hid (Below wr.heap.size wr (wr.alloc (.cells #[.int .i64 at_, .int .i64 sh, .slice ad m mc] 66))) := hid ((Below.refl _ _).alloc (Nat.le_refl _) _)
        obtain ⟨wd, hwd⟩ : ∃ wd, givesB sh l = wd := ⟨_, rfl⟩
        have cG := gives_any at_ sh (.slice ad m mc) l _ (HWV.out.below HA1.out) (by have := hxok.1; simp only at this; omega) hxok.2
        rw [hwd] at cG hT hxs
        have CG : Hid _ := hid cG
        have HT : Hid _ := hid (ht.out.trans hT)
        obtain ⟨D, hown, hD, hcount⟩ := hm.out
        have hkey : keyOf Tryd.prog 9 (.string wd) = some (.string wd.data.toList) := keyOf_string_mk Tryd.underlying9 (by unfold maxLen; omega)
        have HC : Hid (D.atKey (.string wd.data.toList) (.lit (.int .i64 0)) = .lit (.int .i64 (cnt ws wd))) := hid (hcount wd)
        have HC2 : Hid _ := hid (counts_put hD hcount wd)
        have HD2 : Hid (IsMap (D.put (.string wd.data.toList) (.lit (.int .i64 ((cnt ws wd : Int) + 1))))) := hid (hD.put _ _)
        have HM : Hid (MapV wr w.heap.size k ws) := hm
        have HOwn : Hid _ := hid hown
        have HBt : Hid (w.heap.size ≤ wr.heap.size) := hid hsz
        have HKey : Hid _ := hid hkey
        clear hp hx hxok ht hT cG hwd hcount hD hown hm hkey
        cases he : wd.toList.isEmpty
        · obtain ⟨cc, hcc⟩ : ∃ cc, cnt ws wd = cc := ⟨_, rfl⟩
          have hcc4 : cc ≤ 4000 := by have h1 := cnt_le ws wd; have h2 := hwl.out; omega
          have HT2 : Hid (twiceB ls [] = if 0 < cc then some at_ else twiceB (ls.drop (k + 1)) (ws ++ [wd])) := hid (by
            rw [HT.out, if_neg (by rw [he]; decide), hcc])
          have HC3 : Hid (D.atKey (.string wd.data.toList) (.lit (.int .i64 0)) = .lit (.int .i64 cc)) := hid (by rw [HC.out, hcc])
          have HD3 : Hid (IsMap (D.put (.string wd.data.toList) (.lit (.int .i64 ((cc : Int) + 1))))) := hid (by have := HD2.out; rwa [hcc] at this)
          have HC4 : Hid (∀ s : ByteArray, (D.put (.string wd.data.toList) (.lit (.int .i64 ((cc : Int) + 1)))).atKey (.string s.data.toList) (.lit (.int .i64 0)) = .lit (.int .i64 (cnt (ws ++ [wd]) s))) := hid (by have := HC2.out; rwa [hcc] at this)
          have HCS : Hid (cnt (ws ++ [wd]) wd = cc + 1) := hid (by rw [cnt_snoc, hcc, if_pos (show sameB wd wd = true from decide_eq_true rfl)])
          have HC5 : Hid ((D.put (.string wd.data.toList) (.lit (.int .i64 ((cc : Int) + 1)))).atKey (.string wd.data.toList) (.lit (.int .i64 0)) = .lit (.int .i64 ((cc : Int) + 1))) := hid (by rw [HC4.out wd, HCS.out]; rfl)
          have HWB : Hid (w.heap.size < wr.heap.size) := hid (HOwn.out.lt)
          clear HT HC HD2 HC2 hcc HM
          have hk4 : k < 4000 := by omega
          by_cases hz : 0 < cc
          · have HE : Hid (twiceB ls [] = some at_) := hid (by rw [HT2.out, if_pos hz])
            have hz1 : (1 : Int) < (cc : Int) + 1 := by omega
            clear HT2
            go_wp2_with (first
              | (go_at_call 29; refine CG.out.mono ?_; rintro e w2 ⟨rfl, hb2⟩; have hown2 := own_below (own_below HOwn.out HA1.out) hb2; have q2 : w2.cell? ⟨wr.heap.size, 0, none⟩ = some (.int .i64 at_) := (hb2.cell (by simp)).trans (by rw [block_cell (heap_alloc_new wr _)]; rfl); obtain ⟨c, hrun, hat, _⟩ := hown2.lookup_int Tryd.lawStr Tryd.underlying67 Tryd.underlying3 (Tryd.zeroInt _) HKey.out; obtain rfl : c = (cc : Int) := lit_inj (hat.symm.trans HC3.out); clear hat)
              | (at_mapUpdate; refine wpList_mapUpdate_own _ rfl _ _ _ 67 rfl 9 3 Tryd.lawStr Tryd.underlying67 _ w.heap.size k _ rfl hown2 (by unfold maxLen; omega) _ _ _ rfl rfl HKey.out _ [] (plainElem_int Tryd.underlying3 (WalkArith.wf_i64 (by omega))) ?_))
            intro w3 hown3 hgrow3
            obtain ⟨c2, hrun2, hat2, _⟩ := hown3.lookup_int Tryd.lawStr Tryd.underlying67 Tryd.underlying3 (Tryd.zeroInt _) HKey.out
            obtain rfl : c2 = (cc : Int) + 1 := lit_inj (hat2.symm.trans HC5.out)
            have hb2w : Below wr.heap.size wr w2 := HA1.out.trans (hb2.mono HA1.out.size)
            have hbw2 : Below w.heap.size w w2 := HB1.out.trans (hb2.mono HB1.out.size)
            have HB3 : Hid (Below w.heap.size w w3) := hid (hbw2.grown hgrow3 hbw2.size (fun j hj => by cases hj; exact Nat.le_refl _))
            have q3 : w3.cell? ⟨wr.heap.size, 0, none⟩ = some (.int .i64 at_) := (World.cell?_of_block (hgrow3.block _ (lt_of_cell' q2) (by have := HWB.out; simp; omega))).trans q2
            have HMV : Hid (MapV w3 w.heap.size (k + 1) (ws ++ [wd])) := hid ⟨_, hown3, HD3.out, HC4.out⟩
            clear hown3 hgrow3 hown2 hrun hat2 hb2w hbw2 hb2 q2
            go_wp2
            go_ret2
            exact ⟨by rw [HE.out]; rfl, HB3.out⟩
          · have HE : Hid (twiceB ls [] = twiceB (ls.drop (k + 1)) (ws ++ [wd])) := hid (by rw [HT2.out, if_neg hz])
            have hc0 : cc = 0 := by omega
            subst hc0
            clear HT2 hz hcc4
            go_wp2_with (first
              | (go_at_call 29; refine CG.out.mono ?_; rintro e w2 ⟨rfl, hb2⟩; have hown2 := own_below (own_below HOwn.out HA1.out) hb2; have q2 : w2.cell? ⟨wr.heap.size, 0, none⟩ = some (.int .i64 at_) := (hb2.cell (by simp)).trans (by rw [block_cell (heap_alloc_new wr _)]; rfl); obtain ⟨c, hrun, hat, _⟩ := hown2.lookup_int Tryd.lawStr Tryd.underlying67 Tryd.underlying3 (Tryd.zeroInt _) HKey.out; obtain rfl : c = (0 : Int) := lit_inj (hat.symm.trans HC3.out); clear hat)
              | (at_mapUpdate; refine wpList_mapUpdate_own _ rfl _ _ _ 67 rfl 9 3 Tryd.lawStr Tryd.underlying67 _ w.heap.size k _ rfl hown2 (by unfold maxLen; omega) _ _ _ rfl rfl HKey.out _ [] (plainElem_int Tryd.underlying3 (WalkArith.wf_i64 (by omega))) ?_))
            intro w3 hown3 hgrow3
            obtain ⟨c2, hrun2, hat2, _⟩ := hown3.lookup_int Tryd.lawStr Tryd.underlying67 Tryd.underlying3 (Tryd.zeroInt _) HKey.out
            obtain rfl : c2 = (1 : Int) := lit_inj (hat2.symm.trans HC5.out)
            have hb2w : Below wr.heap.size wr w2 := HA1.out.trans (hb2.mono HA1.out.size)
            have hbw2 : Below w.heap.size w w2 := HB1.out.trans (hb2.mono HB1.out.size)
            have HB3 : Hid (Below w.heap.size w w3) := hid (hbw2.grown hgrow3 hbw2.size (fun j hj => by cases hj; exact Nat.le_refl _))
            have q3 : w3.cell? ⟨wr.heap.size, 0, none⟩ = some (.int .i64 at_) := (World.cell?_of_block (hgrow3.block _ (lt_of_cell' q2) (by have := HWB.out; simp; omega))).trans q2
            have HMV : Hid (MapV w3 w.heap.size (k + 1) (ws ++ [wd])) := hid ⟨_, hown3, HD3.out, HC4.out⟩
            clear hown3 hgrow3 hown2 hrun hat2 hb2w hbw2 hb2 q2
            go_wp2
            go_roundw
            case rel => exact ⟨k + 1, ws ++ [wd], by omega, by go_num, hid (by have := hwl.out; simp; omega), HE, HMV, HB3⟩
            case measure => simp [intOf]; omega
        · have HE : Hid (twiceB ls [] = twiceB (ls.drop (k + 1)) ws) := hid (by rw [HT.out, if_pos he])
          go_wp2_with (first | (go_at_call 29; refine CG.out.mono ?_; rintro e w2 ⟨rfl, hb2⟩))
          have hbb : Below wr.heap.size wr w2 := HA1.out.trans (hb2.mono HA1.out.size)
          have HMV : Hid (MapV w2 w.heap.size (k + 1) ws) := hid (by
            obtain ⟨D', h1, h2⟩ := HM.out.below hbb
            exact ⟨D', h1.mono (by omega), h2⟩)
          have HB2 : Hid _ := hid (HB1.out.trans (hb2.mono HB1.out.size))
          clear hbb hb2
          go_roundw
          case rel => exact ⟨k + 1, ws, by omega, by go_num, hid (by have := hwl.out; omega), HE, HMV, HB2⟩
          case measure => simp [intOf]; omega
      · have HE : Hid (twiceB ls [] = none) := hid (by rw [ht.out, List.drop_eq_nil_of_le (by have := HN.out; omega)]; rfl)
        go_wp2
        go_ret2
        exact ⟨by rw [HE.out]; rfl, hbr.out⟩

end Go.Proofs.YtjjggdcnpndgjaaDoor
