/- source.firstMany: the first line with which there is too much. -/
import Derived.Test.YtjjggdcnpndgjaaDoorPuses
import Derived.Deep.QuietTactic
import Derived.BigQuiet
namespace Go.Proofs.YtjjggdcnpndgjaaDoor
open Go.RowKit

def optRet (o : Option Nat) : Value := match o with | some a => .tuple #[.int .i64 a, .bool true] | none => .tuple #[.int .i64 0, .bool false]

/-- The longest of the first of them. -/
def longB (rs : List (List ByteArray)) : Nat := rs.foldl (fun m r => max m r.length) 0

abbrev Ln := Nat × Nat × List ByteArray

def manyB : List Ln → Nat → Nat → Nat → Option Nat
  | [], _, _, _ => none
  | x :: rest, t, n, r =>
    if 20 < (if x.2.1 = 0 then t + 1 else t) ∨ 20 < (if x.2.1 = 2 then n + 1 else n) ∨ 60 < (if x.2.1 = 2 then r + (rulesL x.2.2).length else r) ∨ 8 < (if x.2.1 = 2 then longB (rulesL x.2.2) else 0) then some x.1
    else manyB rest (if x.2.1 = 0 then t + 1 else t) (if x.2.1 = 2 then n + 1 else n) (if x.2.1 = 2 then r + (rulesL x.2.2).length else r)

def LineOk (x : Ln) : Prop := 3 ≤ x.2.2.length ∧ x.2.2.length ≤ 4001

theorem manyB_at {ls : List Ln} {k : Nat} {x : Ln} (hx : ls[k]? = some x) (t n r : Nat) : manyB (ls.drop k) t n r =
    if 20 < (if x.2.1 = 0 then t + 1 else t) ∨ 20 < (if x.2.1 = 2 then n + 1 else n) ∨ 60 < (if x.2.1 = 2 then r + (rulesL x.2.2).length else r) ∨ 8 < (if x.2.1 = 2 then longB (rulesL x.2.2) else 0) then some x.1
    else manyB (ls.drop (k + 1)) (if x.2.1 = 0 then t + 1 else t) (if x.2.1 = 2 then n + 1 else n) (if x.2.1 = 2 then r + (rulesL x.2.2).length else r) := by
  obtain ⟨hk, e⟩ := List.getElem?_eq_some_iff.1 hx
  rw [List.drop_eq_getElem_cons hk, e]
  rfl

theorem longB_next {rs : List (List ByteArray)} {k : Nat} {r : List ByteArray} (hr : rs[k]? = some r) : longB (rs.take (k + 1)) = max (longB (rs.take k)) r.length := by
  obtain ⟨hk, e⟩ := List.getElem?_eq_some_iff.1 hr
  rw [List.take_succ_eq_append_getElem hk, e]
  unfold longB
  rw [List.foldl_append]; rfl

theorem lim_five {t n r g : Nat} : 20 < t ∨ (¬ 20 < t ∧ 20 < n) ∨ (¬ 20 < t ∧ ¬ 20 < n ∧ 60 < r) ∨ (¬ 20 < t ∧ ¬ 20 < n ∧ ¬ 60 < r ∧ 8 < g) ∨ (¬ 20 < t ∧ ¬ 20 < n ∧ ¬ 60 < r ∧ ¬ 8 < g) := by omega

set_option maxHeartbeats 1000000 in
set_option maxRecDepth 100000 in
theorem many_any (v : Value) (ls : List Ln) (pv : List Value) (B : Nat) (w : World) (hV : LnV w B v ls pv) (hn : ls.length ≤ 4000) (hok : ∀ x ∈ ls, LineOk x) :
    Calls Tryd.prog 22 #[v] w fun e w' => e = .returned (optRet (manyB ls 0 0 0)) ∧ Below w.heap.size w w' := by
  rcases hV.form with ⟨rfl, rfl⟩ | ⟨g, cap, rfl, hnc, hg⟩
  · clear hV
    go_enter Tryd.func22, Tryd.ntmps22
    go_wp2
    go_loopw [4, 5, 6, 14] (fun a b c i wr => a = .int .i64 0 ∧ b = .int .i64 0 ∧ c = .int .i64 0 ∧ i = .int .i64 0 ∧ wr = w) (fun _ _ _ i _ => 0)
    case atStart => exact ⟨rfl, rfl, rfl, rfl, rfl⟩
    case round =>
      obtain ⟨rfl, rfl, rfl, rfl, rfl⟩ := hrel
      go_wp2
      go_ret2
      exact ⟨rfl, Below.refl _ _⟩
  · obtain ⟨n, hN⟩ : ∃ n, n = ls.length := ⟨_, rfl⟩
    rw [← hN] at hn hnc hV ⊢
    have HN : Hid (n = ls.length) := hid hN
    have HV : Hid _ := hid hV
    have HOK : Hid _ := hid hok
    clear hN hV hok
    go_enter Tryd.func22, Tryd.ntmps22
    go_wp2
    go_loopw [4, 5, 6, 14] (fun a b c i wr => ∃ k t nm ru : Nat, k ≤ n ∧ t ≤ 4000 ∧ nm ≤ 4000 ∧ ru ≤ 100 ∧ a = .int .i64 t ∧ b = .int .i64 nm ∧ c = .int .i64 ru ∧ i = .int .i64 k ∧ Hid (manyB ls 0 0 0 = manyB (ls.drop k) t nm ru) ∧ Hid (Below w.heap.size w wr)) (fun _ _ _ i _ => n - (intOf i).toNat)
    case atStart => exact ⟨0, 0, 0, 0, by omega, by omega, by omega, by omega, rfl, rfl, rfl, rfl, rfl, Below.refl _ _⟩
    case round =>
      obtain ⟨k, t, nm, ru, hk, ht, hnm, hru, rfl, rfl, rfl, rfl, hm, hbr⟩ := hrel
      have hsz := hbr.out.size
      by_cases hlt : k < n
      · obtain ⟨x, hx⟩ : ∃ x, ls[k]? = some x := ⟨_, List.getElem?_eq_getElem (by have := HN.out; omega)⟩
        have hxok := HOK.out x (List.mem_of_getElem? hx)
        have hM := manyB_at hx t nm ru
        obtain ⟨p, hp, hWV, k0, k1, k2⟩ := (HV.out.below hbr.out).at hx
        obtain ⟨at_, sh, l⟩ := x
        simp only at k0 k1 k2 hM hWV
        have HX : Hid (LineOk (at_, sh, l)) := hid hxok
        have hgr : g < wr.heap.size := Nat.lt_of_lt_of_le hg hsz
        have HWV : Hid _ := hid hWV
        obtain ⟨gw, m, mc, ad, cs, rfl, _⟩ := hWV
        have HB1 : Hid (Below w.heap.size w (wr.alloc (.cells #[.int .i64 at_, .int .i64 sh, .slice ad m mc] 66))) := hid (hbr.out.alloc hsz _)
        have HA1 : Hid (Below wr.heap.size wr (wr.alloc (.cells #[.int .i64 at_, .int .i64 sh, .slice ad m mc] 66))) := hid ((Below.refl _ _).alloc (Nat.le_refl _) _)
        clear hp hx hxok
        by_cases h0 : sh = 0
        · subst h0
          simp only [if_true, if_neg (show ¬ (0 : Nat) = 2 by decide)] at hM
          have HM : Hid _ := hid (hm.out.trans hM)
          clear hM hm
          rcases lim_five (t := t + 1) (n := nm) (r := ru) (g := 0) with h1 | ⟨h1, h2⟩ | ⟨h1, h2, h3⟩ | ⟨h1, h2, h3, h4⟩ | ⟨h1, h2, h3, h4⟩
          · have HE : Hid (manyB ls 0 0 0 = some at_) := hid (by rw [HM.out, if_pos (by omega)])
            have hi1 : (20 : Int) < (t : Int) + 1 := by omega
            clear HM
            go_wp2
            go_ret2
            exact ⟨by rw [HE.out]; rfl, HB1.out⟩
          · have HE : Hid (manyB ls 0 0 0 = some at_) := hid (by rw [HM.out, if_pos (by omega)])
            have hi1 : ¬ ((20 : Int) < (t : Int) + 1) := by omega
            have hi2 : (20 : Int) < (nm : Int) := by omega
            clear HM
            go_wp2
            go_ret2
            exact ⟨by rw [HE.out]; rfl, HB1.out⟩
          · have HE : Hid (manyB ls 0 0 0 = some at_) := hid (by rw [HM.out, if_pos (by omega)])
            have hi1 : ¬ ((20 : Int) < (t : Int) + 1) := by omega
            have hi2 : ¬ ((20 : Int) < (nm : Int)) := by omega
            have hi3 : (60 : Int) < (ru : Int) := by omega
            clear HM
            go_wp2
            go_ret2
            exact ⟨by rw [HE.out]; rfl, HB1.out⟩
          · omega
          · have HE : Hid (manyB ls 0 0 0 = manyB (ls.drop (k + 1)) (t + 1) (nm) (ru)) := hid (by rw [HM.out, if_neg (by omega)])
            have hi1 : ¬ ((20 : Int) < (t : Int) + 1) := by omega
            have hi2 : ¬ ((20 : Int) < (nm : Int)) := by omega
            have hi3 : ¬ ((60 : Int) < (ru : Int)) := by omega
            have hi4 : ¬ ((8 : Int) < (0 : Int)) := by omega
            clear HM
            go_wp2
            go_roundw
            case rel => exact ⟨k + 1, t + 1, nm, ru, by omega, by omega, by omega, by omega, by first | rfl | go_num, by first | rfl | go_num, by first | rfl | go_num, by go_num, HE, hid HB1.out⟩
            case measure => simp [intOf]; omega
        · have hs0 : ¬ ((sh : Int) = 0) := by omega
          by_cases h2 : sh = 2
          · subst h2
            obtain ⟨W, hW⟩ : ∃ W, W = wr := ⟨_, rfl⟩
            subst hW
            simp only [if_true, if_neg (show ¬ (2 : Nat) = 0 by decide)] at hM
            have HM0 : Hid _ := hid (hm.out.trans hM)
            have cR := rules_rows at_ 2 (.slice ad m mc) l _ (HWV.out.below HA1.out) HX.out.1 HX.out.2
            obtain ⟨rn, hrn⟩ : ∃ rn, (rulesL l).length = rn := ⟨_, rfl⟩
            have hrl : rn ≤ 4002 := by have h1 := rules_len l; have h2 := HX.out.2; simp only at h2; omega
            rw [hrn] at cR
            have CR : Hid _ := hid cR
            have HRN : Hid ((rulesL l).length = rn) := hid hrn
            clear hM hm cR hrn h0 hs0
            go_wp2_with (first | (go_at_call 30; refine CR.out.mono ?_; rintro e w2 ⟨gr, capr, pvs, rfl, hR, hb2⟩))
            have hb2w : Below w.heap.size w w2 := HB1.out.trans (hb2.mono HB1.out.size)
            have HB2 : Hid _ := hid hb2w
            have HR : Hid _ := hid hR
            have q0 : w2.cell? ⟨W.heap.size, 0, none⟩ = some (.int .i64 at_) := by
              rw [hb2.cell (by simp)]; rw [block_cell (heap_alloc_new W _)]; rfl
            have hb2s := hb2.size
            clear hb2 hb2w hR CR
            have hbk : W.heap.size < w2.heap.size := by have := hb2s; simp at this; omega
            have HQ0 : Hid _ := hid q0
            clear q0 hb2s
            go_loopw [6, 9, 31] (fun c lg i wi => ∃ (q lgn : Nat), q ≤ rn ∧ lgn ≤ 4001 ∧ c = .int .i64 ((ru : Int) + q) ∧ lg = .int .i64 lgn ∧ i = .int .i64 q ∧ Hid (longB ((rulesL l).take q) = lgn) ∧ Hid (Below w2.heap.size w2 wi)) (fun _ _ i _ => rn - (intOf i).toNat)
            case atStart => exact ⟨0, 0, by omega, by omega, by first | rfl | go_num, rfl, rfl, rfl, Below.refl _ _⟩
            case round =>
              obtain ⟨q, lgn, hq, hlg, rfl, rfl, rfl, hlong, hbi⟩ := hrel
              by_cases hlq : q < rn
              · obtain ⟨r, pr, hr, hpc, hrow, _⟩ := HR.out.at HRN.out hbi.out hlq
                have HL2 : Hid (longB ((rulesL l).take (q + 1)) = max lgn r.length) := hid (by rw [longB_next hr, hlong.out])
                have hrl2 : r.length ≤ 4001 := by
                  have h1 := rules_flat_len l (q + 1)
                  obtain ⟨hk', e⟩ := List.getElem?_eq_some_iff.1 hr
                  rw [List.take_succ_eq_append_getElem hk', List.flatten_append, e] at h1
                  simp at h1
                  have h2 := HX.out.2
                  simp only at h2
                  omega
                obtain ⟨pa, pc, hpr⟩ := own_slice hrow
                subst hpr
                obtain ⟨rl, hrl3⟩ : ∃ rl, r.length = rl := ⟨_, rfl⟩
                rw [hrl3] at hrl2 hpc HL2
                clear hr hrow hrl3
                go_wp2
                go_roundw
                case rel => exact ⟨q + 1, max lgn rl, by omega, by omega, by go_num, by first | rfl | go_num, by go_num, HL2, hbi⟩
                case measure => simp [intOf]; omega
              · have HG : Hid (longB (rulesL l) = lgn) := hid (by
                  have h := hlong.out
                  rwa [List.take_of_length_le (by have := HRN.out; omega)] at h)
                have hqr : q = rn := by omega
                subst hqr
                have HM : Hid (manyB ls 0 0 0 = if 20 < t ∨ 20 < nm + 1 ∨ 60 < ru + q ∨ 8 < lgn then some at_ else manyB (ls.drop (k + 1)) t (nm + 1) (ru + q)) := hid (by
                  have h := HM0.out
                  rw [HRN.out, HG.out] at h
                  exact h)
                have HB3 : Hid (Below w.heap.size w wr) := hid (HB2.out.trans (hbi.out.mono HB2.out.size))
                have q1 : wr.cell? ⟨W.heap.size, 0, none⟩ = some (.int .i64 at_) := (hbi.out.cell (by exact hbk)).trans HQ0.out
                clear HM0
                rcases lim_five (t := t) (n := nm + 1) (r := ru + q) (g := lgn) with h1 | ⟨h1, h2⟩ | ⟨h1, h2, h3⟩ | ⟨h1, h2, h3, h4⟩ | ⟨h1, h2, h3, h4⟩
                · have HE : Hid (manyB ls 0 0 0 = some at_) := hid (by rw [HM.out, if_pos (by omega)])
                  have hi1 : (20 : Int) < (t : Int) := by omega
                  clear HM
                  go_wp2
                  go_ret2
                  exact ⟨by rw [HE.out]; rfl, HB3.out⟩
                · have HE : Hid (manyB ls 0 0 0 = some at_) := hid (by rw [HM.out, if_pos (by omega)])
                  have hi1 : ¬ ((20 : Int) < (t : Int)) := by omega
                  have hi2 : (20 : Int) < (nm : Int) + 1 := by omega
                  clear HM
                  go_wp2
                  go_ret2
                  exact ⟨by rw [HE.out]; rfl, HB3.out⟩
                · have HE : Hid (manyB ls 0 0 0 = some at_) := hid (by rw [HM.out, if_pos (by omega)])
                  have hi1 : ¬ ((20 : Int) < (t : Int)) := by omega
                  have hi2 : ¬ ((20 : Int) < (nm : Int) + 1) := by omega
                  have hi3 : (60 : Int) < (ru : Int) + q := by omega
                  clear HM
                  go_wp2
                  go_ret2
                  exact ⟨by rw [HE.out]; rfl, HB3.out⟩
                · have HE : Hid (manyB ls 0 0 0 = some at_) := hid (by rw [HM.out, if_pos (by omega)])
                  have hi1 : ¬ ((20 : Int) < (t : Int)) := by omega
                  have hi2 : ¬ ((20 : Int) < (nm : Int) + 1) := by omega
                  have hi3 : ¬ ((60 : Int) < (ru : Int) + q) := by omega
                  have hi4 : (8 : Int) < (lgn : Int) := by omega
                  clear HM
                  go_wp2
                  go_ret2
                  exact ⟨by rw [HE.out]; rfl, HB3.out⟩
                · have HE : Hid (manyB ls 0 0 0 = manyB (ls.drop (k + 1)) (t) (nm + 1) (ru + q)) := hid (by rw [HM.out, if_neg (by omega)])
                  have hi1 : ¬ ((20 : Int) < (t : Int)) := by omega
                  have hi2 : ¬ ((20 : Int) < (nm : Int) + 1) := by omega
                  have hi3 : ¬ ((60 : Int) < (ru : Int) + q) := by omega
                  have hi4 : ¬ ((8 : Int) < (lgn : Int)) := by omega
                  clear HM
                  go_wp2
                  go_roundw
                  case rel => exact ⟨k + 1, t, nm + 1, ru + q, by omega, by omega, by omega, by omega, by first | rfl | go_num, by first | rfl | go_num, by first | rfl | go_num, by go_num, HE, hid HB3.out⟩
                  case measure => simp [intOf]; omega
          · simp only [if_neg h0, if_neg h2] at hM
            have HM : Hid _ := hid (hm.out.trans hM)
            have hs2 : ¬ ((sh : Int) = 2) := by omega
            clear hM hm h0 h2
            rcases lim_five (t := t) (n := nm) (r := ru) (g := 0) with h1 | ⟨h1, h2⟩ | ⟨h1, h2, h3⟩ | ⟨h1, h2, h3, h4⟩ | ⟨h1, h2, h3, h4⟩
            · have HE : Hid (manyB ls 0 0 0 = some at_) := hid (by rw [HM.out, if_pos (by omega)])
              have hi1 : (20 : Int) < (t : Int) := by omega
              clear HM
              go_wp2
              go_ret2
              exact ⟨by rw [HE.out]; rfl, HB1.out⟩
            · have HE : Hid (manyB ls 0 0 0 = some at_) := hid (by rw [HM.out, if_pos (by omega)])
              have hi1 : ¬ ((20 : Int) < (t : Int)) := by omega
              have hi2 : (20 : Int) < (nm : Int) := by omega
              clear HM
              go_wp2
              go_ret2
              exact ⟨by rw [HE.out]; rfl, HB1.out⟩
            · have HE : Hid (manyB ls 0 0 0 = some at_) := hid (by rw [HM.out, if_pos (by omega)])
              have hi1 : ¬ ((20 : Int) < (t : Int)) := by omega
              have hi2 : ¬ ((20 : Int) < (nm : Int)) := by omega
              have hi3 : (60 : Int) < (ru : Int) := by omega
              clear HM
              go_wp2
              go_ret2
              exact ⟨by rw [HE.out]; rfl, HB1.out⟩
            · omega
            · have HE : Hid (manyB ls 0 0 0 = manyB (ls.drop (k + 1)) (t) (nm) (ru)) := hid (by rw [HM.out, if_neg (by omega)])
              have hi1 : ¬ ((20 : Int) < (t : Int)) := by omega
              have hi2 : ¬ ((20 : Int) < (nm : Int)) := by omega
              have hi3 : ¬ ((60 : Int) < (ru : Int)) := by omega
              have hi4 : ¬ ((8 : Int) < (0 : Int)) := by omega
              clear HM
              go_wp2
              go_roundw
              case rel => exact ⟨k + 1, t, nm, ru, by omega, by omega, by omega, by omega, by first | rfl | go_num, by first | rfl | go_num, by first | rfl | go_num, by go_num, HE, hid HB1.out⟩
              case measure => simp [intOf]; omega
      · have HE : Hid (manyB ls 0 0 0 = none) := hid (by rw [hm.out, List.drop_eq_nil_of_le (by have := HN.out; omega)]; rfl)
        go_wp2
        go_ret2
        exact ⟨by rw [HE.out]; rfl, hbr.out⟩

end Go.Proofs.YtjjggdcnpndgjaaDoor
