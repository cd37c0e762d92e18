/- source.firstMany: the first line with which there is too much. source.firstTwice: the first line that gives what was given. source.firstUnknown: the first line that uses what no line gives. source.checkedLines: the lines, or the error and the place. The lines of a text are such as the walks ask. Pure: the reference's rules of a line and the program's; what is given and what is counted. Pure: one line, as the reference takes it and as the program does. Pure: the reference's second walk of the lines, and the program's. Pure: the program's answer is the reference's. -/
import Derived.Test.YtjjggdcnpndgjaaGreatDoorJ4
import Derived.Deep.QuietTactic
import Derived.BigQuiet
import Derived.Maps.Own
import Derived.Maps.OwnOps
import Derived.Maps.Views
namespace Go.Proofs.YtjjggdcnpndgjaaGreatDoor
open Go.RowKit

def optRet (o : Option Nat) : Value := match o with | some a => .tuple #[.int .i64 a, .bool true] | none => .tuple #[.int .i64 0, .bool false]

/-- The longest of the first of them. -/
def longB (rs : List (List ByteArray)) : Nat := rs.foldl (fun m r => max m r.length) 0

abbrev Ln := Nat × Nat × List ByteArray

def manyB : List Ln → Nat → Nat → Nat → Option Nat
  | [], _, _, _ => none
  | x :: rest, t, n, r =>
    if 20 < (if x.2.1 = 0 then t + 1 else t) ∨ 20 < (if x.2.1 = 2 then n + 1 else n) ∨ 60 < (if x.2.1 = 2 then r + (rulesL x.2.2).length else r) ∨ 8 < (if x.2.1 = 2 then longB (rulesL x.2.2) else 0) then some x.1
    else manyB rest (if x.2.1 = 0 then t + 1 else t) (if x.2.1 = 2 then n + 1 else n) (if x.2.1 = 2 then r + (rulesL x.2.2).length else r)

def LineOk (x : Ln) : Prop := 3 ≤ x.2.2.length ∧ x.2.2.length ≤ 4001

theorem manyB_at {ls : List Ln} {k : Nat} {x : Ln} (hx : ls[k]? = some x) (t n r : Nat) : manyB (ls.drop k) t n r =
    if 20 < (if x.2.1 = 0 then t + 1 else t) ∨ 20 < (if x.2.1 = 2 then n + 1 else n) ∨ 60 < (if x.2.1 = 2 then r + (rulesL x.2.2).length else r) ∨ 8 < (if x.2.1 = 2 then longB (rulesL x.2.2) else 0) then some x.1
    else manyB (ls.drop (k + 1)) (if x.2.1 = 0 then t + 1 else t) (if x.2.1 = 2 then n + 1 else n) (if x.2.1 = 2 then r + (rulesL x.2.2).length else r) := by
  obtain ⟨hk, e⟩ := List.getElem?_eq_some_iff.1 hx
  rw [List.drop_eq_getElem_cons hk, e]
  rfl

theorem longB_next {rs : List (List ByteArray)} {k : Nat} {r : List ByteArray} (hr : rs[k]? = some r) : longB (rs.take (k + 1)) = max (longB (rs.take k)) r.length := by
  obtain ⟨hk, e⟩ := List.getElem?_eq_some_iff.1 hr
  rw [List.take_succ_eq_append_getElem hk, e]
  unfold longB
  rw [List.foldl_append]; rfl

theorem lim_five {t n r g : Nat} : 20 < t ∨ (¬ 20 < t ∧ 20 < n) ∨ (¬ 20 < t ∧ ¬ 20 < n ∧ 60 < r) ∨ (¬ 20 < t ∧ ¬ 20 < n ∧ ¬ 60 < r ∧ 8 < g) ∨ (¬ 20 < t ∧ ¬ 20 < n ∧ ¬ 60 < r ∧ ¬ 8 < g) := by omega

set_option maxHeartbeats 1000000 in
set_option maxRecDepth 100000 in
theorem many_any (v : Value) (ls : List Ln) (pv : List Value) (B : Nat) (w : World) (hV : LnV w B v ls pv) (hn : ls.length ≤ 4000) (hok : ∀ x ∈ ls, LineOk x) :
    Calls Tryz.prog 168 #[v] w fun e w' => e = .returned (optRet (manyB ls 0 0 0)) ∧ Below w.heap.size w w' := by
  rcases hV.form with ⟨rfl, rfl⟩ | ⟨g, cap, rfl, hnc, hg⟩
  · clear hV
    go_enter Tryz.func168, Tryz.ntmps168
    go_wp2
    go_loopw [4, 5, 6, 14] (fun a b c i wr => a = .int .i64 0 ∧ b = .int .i64 0 ∧ c = .int .i64 0 ∧ i = .int .i64 0 ∧ wr = w) (fun _ _ _ i _ => 0)
    case atStart => exact ⟨rfl, rfl, rfl, rfl, rfl⟩
    case round =>
      obtain ⟨rfl, rfl, rfl, rfl, rfl⟩ := hrel
      go_wp2
      go_ret2
      exact ⟨rfl, Below.refl _ _⟩
  · obtain ⟨n, hN⟩ : ∃ n, n = ls.length := ⟨_, rfl⟩
    rw [← hN] at hn hnc hV ⊢
    have HN : Hid (n = ls.length) := hid hN
    have HV : Hid _ := hid hV
    have HOK : Hid _ := hid hok
    clear hN hV hok
    go_enter Tryz.func168, Tryz.ntmps168
    go_wp2
    go_loopw [4, 5, 6, 14] (fun a b c i wr => ∃ k t nm ru : Nat, k ≤ n ∧ t ≤ 4000 ∧ nm ≤ 4000 ∧ ru ≤ 100 ∧ a = .int .i64 t ∧ b = .int .i64 nm ∧ c = .int .i64 ru ∧ i = .int .i64 k ∧ Hid (manyB ls 0 0 0 = manyB (ls.drop k) t nm ru) ∧ Hid (Below w.heap.size w wr)) (fun _ _ _ i _ => n - (intOf i).toNat)
    case atStart => exact ⟨0, 0, 0, 0, by omega, by omega, by omega, by omega, rfl, rfl, rfl, rfl, rfl, Below.refl _ _⟩
    case round =>
      obtain ⟨k, t, nm, ru, hk, ht, hnm, hru, rfl, rfl, rfl, rfl, hm, hbr⟩ := hrel
      have hsz := hbr.out.size
      by_cases hlt : k < n
      · obtain ⟨x, hx⟩ : ∃ x, ls[k]? = some x := ⟨_, List.getElem?_eq_getElem (by have := HN.out; omega)⟩
        have hxok := HOK.out x (List.mem_of_getElem? hx)
        have hM := manyB_at hx t nm ru
        obtain ⟨p, hp, hWV, k0, k1, k2⟩ := (HV.out.below hbr.out).at hx
        obtain ⟨at_, sh, l⟩ := x
        simp only at k0 k1 k2 hM hWV
        have HX : Hid (LineOk (at_, sh, l)) := hid hxok
        have hgr : g < wr.heap.size := Nat.lt_of_lt_of_le hg hsz
        have HWV : Hid _ := hid hWV
        obtain ⟨gw, m, mc, ad, cs, rfl, _⟩ := hWV
        have HB1 : Hid (Below w.heap.size w (wr.alloc (.cells #[.int .i64 at_, .int .i64 sh, .slice ad m mc] 325))) := hid (hbr.out.alloc hsz _)
        have HA1 : Hid (Below wr.heap.size wr (wr.alloc (.cells #[.int .i64 at_, .int .i64 sh, .slice ad m mc] 325))) := hid ((Below.refl _ _).alloc (Nat.le_refl _) _)
        clear hp hx hxok
        by_cases h0 : sh = 0
        · subst h0
          simp only [if_true, if_neg (show ¬ (0 : Nat) = 2 by decide)] at hM
          have HM : Hid _ := hid (hm.out.trans hM)
          clear hM hm
          rcases lim_five (t := t + 1) (n := nm) (r := ru) (g := 0) with h1 | ⟨h1, h2⟩ | ⟨h1, h2, h3⟩ | ⟨h1, h2, h3, h4⟩ | ⟨h1, h2, h3, h4⟩
          · have HE : Hid (manyB ls 0 0 0 = some at_) := hid (by rw [HM.out, if_pos (by omega)])
            have hi1 : (20 : Int) < (t : Int) + 1 := by omega
            clear HM
            go_wp2
            go_ret2
            exact ⟨by rw [HE.out]; rfl, HB1.out⟩
          · have HE : Hid (manyB ls 0 0 0 = some at_) := hid (by rw [HM.out, if_pos (by omega)])
            have hi1 : ¬ ((20 : Int) < (t : Int) + 1) := by omega
            have hi2 : (20 : Int) < (nm : Int) := by omega
            clear HM
            go_wp2
            go_ret2
            exact ⟨by rw [HE.out]; rfl, HB1.out⟩
          · have HE : Hid (manyB ls 0 0 0 = some at_) := hid (by rw [HM.out, if_pos (by omega)])
            have hi1 : ¬ ((20 : Int) < (t : Int) + 1) := by omega
            have hi2 : ¬ ((20 : Int) < (nm : Int)) := by omega
            have hi3 : (60 : Int) < (ru : Int) := by omega
            clear HM
            go_wp2
            go_ret2
            exact ⟨by rw [HE.out]; rfl, HB1.out⟩
          · omega
          · have HE : Hid (manyB ls 0 0 0 = manyB (ls.drop (k + 1)) (t + 1) (nm) (ru)) := hid (by rw [HM.out, if_neg (by omega)])
            have hi1 : ¬ ((20 : Int) < (t : Int) + 1) := by omega
            have hi2 : ¬ ((20 : Int) < (nm : Int)) := by omega
            have hi3 : ¬ ((60 : Int) < (ru : Int)) := by omega
            have hi4 : ¬ ((8 : Int) < (0 : Int)) := by omega
            clear HM
            go_wp2
            go_roundw
            case rel => exact ⟨k + 1, t + 1, nm, ru, by omega, by omega, by omega, by omega, by first | rfl | go_num, by first | rfl | go_num, by first | rfl | go_num, by go_num, HE, hid HB1.out⟩
            case measure => simp [intOf]; omega
        · have hs0 : ¬ ((sh : Int) = 0) := by omega
          by_cases h2 : sh = 2
          · subst h2
            obtain ⟨W, hW⟩ : ∃ W, W = wr := ⟨_, rfl⟩
            subst hW
            simp only [if_true, if_neg (show ¬ (2 : Nat) = 0 by decide)] at hM
            have HM0 : Hid _ := hid (hm.out.trans hM)
            have cR := rules_rows at_ 2 (.slice ad m mc) l _ (HWV.out.below HA1.out) HX.out.1 HX.out.2
            obtain ⟨rn, hrn⟩ : ∃ rn, (rulesL l).length = rn := ⟨_, rfl⟩
            have hrl : rn ≤ 4002 := by have h1 := rules_len l; have h2 := HX.out.2; simp only at h2; omega
            rw [hrn] at cR
            have CR : Hid _ := hid cR
            have HRN : Hid ((rulesL l).length = rn) := hid hrn
            clear hM hm cR hrn h0 hs0
            go_wp2_with (first | (go_at_call 202; refine CR.out.mono ?_; rintro e w2 ⟨gr, capr, pvs, rfl, hR, hb2⟩))
            have hb2w : Below w.heap.size w w2 := HB1.out.trans (hb2.mono HB1.out.size)
            have HB2 : Hid _ := hid hb2w
            have HR : Hid _ := hid hR
            have q0 : w2.cell? ⟨W.heap.size, 0, none⟩ = some (.int .i64 at_) := by
              rw [hb2.cell (by simp)]; rw [block_cell (heap_alloc_new W _)]; rfl
            have hb2s := hb2.size
            clear hb2 hb2w hR CR
            have hbk : W.heap.size < w2.heap.size := by have := hb2s; simp at this; omega
            have HQ0 : Hid _ := hid q0
            clear q0 hb2s
            go_loopw [6, 9, 31] (fun c lg i wi => ∃ (q lgn : Nat), q ≤ rn ∧ lgn ≤ 4001 ∧ c = .int .i64 ((ru : Int) + q) ∧ lg = .int .i64 lgn ∧ i = .int .i64 q ∧ Hid (longB ((rulesL l).take q) = lgn) ∧ Hid (Below w2.heap.size w2 wi)) (fun _ _ i _ => rn - (intOf i).toNat)
            case atStart => exact ⟨0, 0, by omega, by omega, by first | rfl | go_num, rfl, rfl, rfl, Below.refl _ _⟩
            case round =>
              obtain ⟨q, lgn, hq, hlg, rfl, rfl, rfl, hlong, hbi⟩ := hrel
              by_cases hlq : q < rn
              · obtain ⟨r, pr, hr, hpc, hrow, _⟩ := HR.out.at HRN.out hbi.out hlq
                have HL2 : Hid (longB ((rulesL l).take (q + 1)) = max lgn r.length) := hid (by rw [longB_next hr, hlong.out])
                have hrl2 : r.length ≤ 4001 := by
                  have h1 := rules_flat_len l (q + 1)
                  obtain ⟨hk', e⟩ := List.getElem?_eq_some_iff.1 hr
                  rw [List.take_succ_eq_append_getElem hk', List.flatten_append, e] at h1
                  simp at h1
                  have h2 := HX.out.2
                  simp only at h2
                  omega
                obtain ⟨pa, pc, hpr⟩ := own_slice hrow
                subst hpr
                obtain ⟨rl, hrl3⟩ : ∃ rl, r.length = rl := ⟨_, rfl⟩
                rw [hrl3] at hrl2 hpc HL2
                clear hr hrow hrl3
                go_wp2
                go_roundw
                case rel => exact ⟨q + 1, max lgn rl, by omega, by omega, by go_num, by first | rfl | go_num, by go_num, HL2, hbi⟩
                case measure => simp [intOf]; omega
              · have HG : Hid (longB (rulesL l) = lgn) := hid (by
                  have h := hlong.out
                  rwa [List.take_of_length_le (by have := HRN.out; omega)] at h)
                have hqr : q = rn := by omega
                subst hqr
                have HM : Hid (manyB ls 0 0 0 = if 20 < t ∨ 20 < nm + 1 ∨ 60 < ru + q ∨ 8 < lgn then some at_ else manyB (ls.drop (k + 1)) t (nm + 1) (ru + q)) := hid (by
                  have h := HM0.out
                  rw [HRN.out, HG.out] at h
                  exact h)
                have HB3 : Hid (Below w.heap.size w wr) := hid (HB2.out.trans (hbi.out.mono HB2.out.size))
                have q1 : wr.cell? ⟨W.heap.size, 0, none⟩ = some (.int .i64 at_) := (hbi.out.cell (by exact hbk)).trans HQ0.out
                clear HM0
                rcases lim_five (t := t) (n := nm + 1) (r := ru + q) (g := lgn) with h1 | ⟨h1, h2⟩ | ⟨h1, h2, h3⟩ | ⟨h1, h2, h3, h4⟩ | ⟨h1, h2, h3, h4⟩
                · have HE : Hid (manyB ls 0 0 0 = some at_) := hid (by rw [HM.out, if_pos (by omega)])
                  have hi1 : (20 : Int) < (t : Int) := by omega
                  clear HM
                  go_wp2
                  go_ret2
                  exact ⟨by rw [HE.out]; rfl, HB3.out⟩
                · have HE : Hid (manyB ls 0 0 0 = some at_) := hid (by rw [HM.out, if_pos (by omega)])
                  have hi1 : ¬ ((20 : Int) < (t : Int)) := by omega
                  have hi2 : (20 : Int) < (nm : Int) + 1 := by omega
                  clear HM
                  go_wp2
                  go_ret2
                  exact ⟨by rw [HE.out]; rfl, HB3.out⟩
                · have HE : Hid (manyB ls 0 0 0 = some at_) := hid (by rw [HM.out, if_pos (by omega)])
                  have hi1 : ¬ ((20 : Int) < (t : Int)) := by omega
                  have hi2 : ¬ ((20 : Int) < (nm : Int) + 1) := by omega
                  have hi3 : (60 : Int) < (ru : Int) + q := by omega
                  clear HM
                  go_wp2
                  go_ret2
                  exact ⟨by rw [HE.out]; rfl, HB3.out⟩
                · have HE : Hid (manyB ls 0 0 0 = some at_) := hid (by rw [HM.out, if_pos (by omega)])
                  have hi1 : ¬ ((20 : Int) < (t : Int)) := by omega
                  have hi2 : ¬ ((20 : Int) < (nm : Int) + 1) := by omega
                  have hi3 : ¬ ((60 : Int) < (ru : Int) + q) := by omega
                  have hi4 : (8 : Int) < (lgn : Int) := by omega
                  clear HM
                  go_wp2
                  go_ret2
                  exact ⟨by rw [HE.out]; rfl, HB3.out⟩
                · have HE : Hid (manyB ls 0 0 0 = manyB (ls.drop (k + 1)) (t) (nm + 1) (ru + q)) := hid (by rw [HM.out, if_neg (by omega)])
                  have hi1 : ¬ ((20 : Int) < (t : Int)) := by omega
                  have hi2 : ¬ ((20 : Int) < (nm : Int) + 1) := by omega
                  have hi3 : ¬ ((60 : Int) < (ru : Int) + q) := by omega
                  have hi4 : ¬ ((8 : Int) < (lgn : Int)) := by omega
                  clear HM
                  go_wp2
                  go_roundw
                  case rel => exact ⟨k + 1, t, nm + 1, ru + q, by omega, by omega, by omega, by omega, by first | rfl | go_num, by first | rfl | go_num, by first | rfl | go_num, by go_num, HE, hid HB3.out⟩
                  case measure => simp [intOf]; omega
          · simp only [if_neg h0, if_neg h2] at hM
            have HM : Hid _ := hid (hm.out.trans hM)
            have hs2 : ¬ ((sh : Int) = 2) := by omega
            clear hM hm h0 h2
            rcases lim_five (t := t) (n := nm) (r := ru) (g := 0) with h1 | ⟨h1, h2⟩ | ⟨h1, h2, h3⟩ | ⟨h1, h2, h3, h4⟩ | ⟨h1, h2, h3, h4⟩
            · have HE : Hid (manyB ls 0 0 0 = some at_) := hid (by rw [HM.out, if_pos (by omega)])
              have hi1 : (20 : Int) < (t : Int) := by omega
              clear HM
              go_wp2
              go_ret2
              exact ⟨by rw [HE.out]; rfl, HB1.out⟩
            · have HE : Hid (manyB ls 0 0 0 = some at_) := hid (by rw [HM.out, if_pos (by omega)])
              have hi1 : ¬ ((20 : Int) < (t : Int)) := by omega
              have hi2 : (20 : Int) < (nm : Int) := by omega
              clear HM
              go_wp2
              go_ret2
              exact ⟨by rw [HE.out]; rfl, HB1.out⟩
            · have HE : Hid (manyB ls 0 0 0 = some at_) := hid (by rw [HM.out, if_pos (by omega)])
              have hi1 : ¬ ((20 : Int) < (t : Int)) := by omega
              have hi2 : ¬ ((20 : Int) < (nm : Int)) := by omega
              have hi3 : (60 : Int) < (ru : Int) := by omega
              clear HM
              go_wp2
              go_ret2
              exact ⟨by rw [HE.out]; rfl, HB1.out⟩
            · omega
            · have HE : Hid (manyB ls 0 0 0 = manyB (ls.drop (k + 1)) (t) (nm) (ru)) := hid (by rw [HM.out, if_neg (by omega)])
              have hi1 : ¬ ((20 : Int) < (t : Int)) := by omega
              have hi2 : ¬ ((20 : Int) < (nm : Int)) := by omega
              have hi3 : ¬ ((60 : Int) < (ru : Int)) := by omega
              have hi4 : ¬ ((8 : Int) < (0 : Int)) := by omega
              clear HM
              go_wp2
              go_roundw
              case rel => exact ⟨k + 1, t, nm, ru, by omega, by omega, by omega, by omega, by first | rfl | go_num, by first | rfl | go_num, by first | rfl | go_num, by go_num, HE, hid HB1.out⟩
              case measure => simp [intOf]; omega
      · have HE : Hid (manyB ls 0 0 0 = none) := hid (by rw [hm.out, List.drop_eq_nil_of_le (by have := HN.out; omega)]; rfl)
        go_wp2
        go_ret2
        exact ⟨by rw [HE.out]; rfl, hbr.out⟩

end Go.Proofs.YtjjggdcnpndgjaaGreatDoor

namespace Go.Proofs.YtjjggdcnpndgjaaGreatDoor
open Go.RowKit Go.WideMaps Go.Maps

theorem Tryz.lawStr : Keyed Tryz.prog 9 := string_keyed Tryz.underlying9
theorem Tryz.zeroInt (w : World) : (zeroValue 3).run Tryz.prog w = .ok (.int .i64 0) w := by kernel_rfl

def sameB (x s : ByteArray) : Bool := decide (x.data.toList = s.data.toList)
/-- How often a word stands in a list. -/
def cnt (ws : List ByteArray) (s : ByteArray) : Nat := (ws.filter fun x => sameB x s).length

theorem own_below {w w' : World} {b n : Nat} {D : DataW Unit} (h : w.ownsMap Tryz.prog 9 (plainElem Tryz.prog 3) b n D) (hb : Below w.heap.size w w') : w'.ownsMap Tryz.prog 9 (plainElem Tryz.prog 3) b n D := by
  have hlt := h.lt
  obtain ⟨es, clock, h1, h2⟩ := h
  exact ⟨es, clock, (hb.block b hlt).trans h1, h2⟩

/-- A map that counts. -/
def MapV (w : World) (b n : Nat) (ws : List ByteArray) : Prop := ∃ D : DataW Unit, w.ownsMap Tryz.prog 9 (plainElem Tryz.prog 3) b n D ∧ IsMap D ∧ ∀ s : ByteArray, D.atKey (.string s.data.toList) (.lit (.int .i64 0)) = .lit (.int .i64 (cnt ws s))

theorem MapV.below {w w' : World} {b n : Nat} {ws : List ByteArray} (h : MapV w b n ws) (hb : Below w.heap.size w w') : MapV w' b n ws := by
  obtain ⟨D, hown, h2, h3⟩ := h
  exact ⟨D, own_below hown hb, h2, h3⟩

theorem lt_of_cell' {w : World} {p : Addr} {v : Value} (h : w.cell? p = some v) : p.block < w.heap.size := by
  rcases Nat.lt_or_ge p.block w.heap.size with h1 | h1
  · exact h1
  · unfold World.cell? at h
    rw [Array.getElem?_eq_none h1] at h
    simp at h

theorem lit_inj {a b : Int} (h : (DataW.lit (.int .i64 a) : DataW Unit) = .lit (.int .i64 b)) : a = b := by
  injection h with h
  injection h

theorem cnt_snoc (ws : List ByteArray) (x s : ByteArray) : cnt (ws ++ [x]) s = cnt ws s + if sameB x s = true then 1 else 0 := by
  unfold cnt
  rw [List.filter_append, List.length_append]
  by_cases h : sameB x s = true
  · rw [if_pos h, List.filter_cons_of_pos (by exact h)]; rfl
  · rw [if_neg h, List.filter_cons_of_neg (by exact h)]; rfl

theorem cnt_le (ws : List ByteArray) (s : ByteArray) : cnt ws s ≤ ws.length := List.length_filter_le _ _

theorem counts_put {D : DataW Unit} {ws : List ByteArray} (hm : IsMap D) (h : ∀ s : ByteArray, D.atKey (.string s.data.toList) (.lit (.int .i64 0)) = .lit (.int .i64 (cnt ws s))) (x : ByteArray) :
    ∀ s : ByteArray, (D.put (.string x.data.toList) (.lit (.int .i64 ((cnt ws x : Int) + 1)))).atKey (.string s.data.toList) (.lit (.int .i64 0)) = .lit (.int .i64 (cnt (ws ++ [x]) s)) := by
  intro s
  rw [cnt_snoc]
  by_cases e : x.data.toList = s.data.toList
  · have h2 : cnt ws x = cnt ws s := by unfold cnt sameB; rw [e]
    have h3 : sameB x s = true := decide_eq_true e
    rw [← e, atKey_put_same hm (by trivial), if_pos h3, ← h2]
    rfl
  · have h3 : ¬ sameB x s = true := fun h => e (of_decide_eq_true h)
    rw [atKey_put_other (fun h => e (by injection h with h; exact h.symm)), h s, if_neg h3]
    rfl

def twiceB : List Ln → List ByteArray → Option Nat
  | [], _ => none
  | x :: r, ws => if (givesB x.2.1 x.2.2).toList.isEmpty then twiceB r ws else if 0 < cnt ws (givesB x.2.1 x.2.2) then some x.1 else twiceB r (ws ++ [givesB x.2.1 x.2.2])

theorem twiceB_at {ls : List Ln} {k : Nat} {x : Ln} (hx : ls[k]? = some x) (ws : List ByteArray) : twiceB (ls.drop k) ws =
    if (givesB x.2.1 x.2.2).toList.isEmpty then twiceB (ls.drop (k + 1)) ws else if 0 < cnt ws (givesB x.2.1 x.2.2) then some x.1 else twiceB (ls.drop (k + 1)) (ws ++ [givesB x.2.1 x.2.2]) := by
  obtain ⟨hk, e⟩ := List.getElem?_eq_some_iff.1 hx
  rw [List.drop_eq_getElem_cons hk, e]
  rfl

set_option maxHeartbeats 1000000 in
set_option maxRecDepth 100000 in
theorem twice_any (v : Value) (ls : List Ln) (pv : List Value) (B : Nat) (w : World) (hV : LnV w B v ls pv) (hn : ls.length ≤ 4000) (hok : ∀ x ∈ ls, LineOk x) (hsz : ∀ x ∈ ls, (givesB x.2.1 x.2.2).size ≤ 4000) :
    Calls Tryz.prog 167 #[v] w fun e w' => e = .returned (optRet (twiceB ls [])) ∧ Below w.heap.size w w' := by
  have hmm := @run_makeMap Tryz.prog
  rcases hV.form with ⟨rfl, rfl⟩ | ⟨g, cap, rfl, hnc, hg⟩
  · clear hV
    have HB : Hid (Below w.heap.size w (w.alloc (.map #[] 0))) := hid ((Below.refl _ _).alloc (Nat.le_refl _) _)
    go_enter Tryz.func167, Tryz.ntmps167
    go_wp2
    go_loopw [11] (fun i wr => i = .int .i64 0 ∧ Hid (Below w.heap.size w wr)) (fun i _ => 0)
    case atStart => exact ⟨rfl, HB⟩
    case round =>
      obtain ⟨rfl, hbr⟩ := hrel
      go_wp2
      go_ret2
      exact ⟨rfl, hbr.out⟩
  · obtain ⟨n, hN⟩ : ∃ n, n = ls.length := ⟨_, rfl⟩
    rw [← hN] at hn hnc hV ⊢
    have HN : Hid (n = ls.length) := hid hN
    have HV : Hid _ := hid hV
    have HOK : Hid _ := hid hok
    have HSZ : Hid _ := hid hsz
    have HB : Hid (Below w.heap.size w (w.alloc (.map #[] 0))) := hid ((Below.refl _ _).alloc (Nat.le_refl _) _)
    have HM : Hid (MapV (w.alloc (.map #[] 0)) w.heap.size 0 []) := hid ⟨_, World.ownsMap_made _ _ _ _, isMap_empty, fun s => rfl⟩
    clear hN hV hok hsz
    go_enter Tryz.func167, Tryz.ntmps167
    go_wp2
    clear hmm
    go_loopw [11] (fun i wr => ∃ (k : Nat) (ws : List ByteArray), k ≤ n ∧ i = .int .i64 k ∧ Hid (ws.length ≤ k) ∧ Hid (twiceB ls [] = twiceB (ls.drop k) ws) ∧ Hid (MapV wr w.heap.size k ws) ∧ Hid (Below w.heap.size w wr)) (fun i _ => n - (intOf i).toNat)
    case atStart => exact ⟨0, [], by omega, rfl, hid (by simp), rfl, HM, HB⟩
    case round =>
      clear HM HB
      obtain ⟨k, ws, hk, rfl, hwl, ht, hm, hbr⟩ := hrel
      have hsz := hbr.out.size
      by_cases hlt : k < n
      · obtain ⟨x, hx⟩ : ∃ x, ls[k]? = some x := ⟨_, List.getElem?_eq_getElem (by have := HN.out; omega)⟩
        have hxok := HOK.out x (List.mem_of_getElem? hx)
        have hxs := HSZ.out x (List.mem_of_getElem? hx)
        have hT := twiceB_at hx ws
        obtain ⟨p, hp, hWV, k0, k1, k2⟩ := (HV.out.below hbr.out).at hx
        obtain ⟨at_, sh, l⟩ := x
        simp only at k0 k1 k2 hT hWV hxs
        have hgr : g < wr.heap.size := Nat.lt_of_lt_of_le hg hsz
        have HWV : Hid _ := hid hWV
        obtain ⟨gw, m, mc, ad, cs, rfl, _⟩ := hWV
        have HB1 : Hid (Below w.heap.size w (wr.alloc (.cells #[.int .i64 at_, .int .i64 sh, .slice ad m mc] 325))) := hid (hbr.out.alloc hsz _)
        have HA1 : Hid (Below wr.heap.size wr (wr.alloc (.cells #[.int .i64 at_, .int .i64 sh, .slice ad m mc] 325))) := hid ((Below.refl _ _).alloc (Nat.le_refl _) _)
        obtain ⟨wd, hwd⟩ : ∃ wd, givesB sh l = wd := ⟨_, rfl⟩
        have cG := gives_any at_ sh (.slice ad m mc) l _ (HWV.out.below HA1.out) (by have := hxok.1; simp only at this; omega) hxok.2
        rw [hwd] at cG hT hxs
        have CG : Hid _ := hid cG
        have HT : Hid _ := hid (ht.out.trans hT)
        obtain ⟨D, hown, hD, hcount⟩ := hm.out
        have hkey : keyOf Tryz.prog 9 (.string wd) = some (.string wd.data.toList) := keyOf_string_mk Tryz.underlying9 (by unfold maxLen; omega)
        have HC : Hid (D.atKey (.string wd.data.toList) (.lit (.int .i64 0)) = .lit (.int .i64 (cnt ws wd))) := hid (hcount wd)
        have HC2 : Hid _ := hid (counts_put hD hcount wd)
        have HD2 : Hid (IsMap (D.put (.string wd.data.toList) (.lit (.int .i64 ((cnt ws wd : Int) + 1))))) := hid (hD.put _ _)
        have HM : Hid (MapV wr w.heap.size k ws) := hm
        have HOwn : Hid _ := hid hown
        have HBt : Hid (w.heap.size ≤ wr.heap.size) := hid hsz
        have HKey : Hid _ := hid hkey
        clear hp hx hxok ht hT cG hwd hcount hD hown hm hkey
        cases he : wd.toList.isEmpty
        · obtain ⟨cc, hcc⟩ : ∃ cc, cnt ws wd = cc := ⟨_, rfl⟩
          have hcc4 : cc ≤ 4000 := by have h1 := cnt_le ws wd; have h2 := hwl.out; omega
          have HT2 : Hid (twiceB ls [] = if 0 < cc then some at_ else twiceB (ls.drop (k + 1)) (ws ++ [wd])) := hid (by
            rw [HT.out, if_neg (by rw [he]; decide), hcc])
          have HC3 : Hid (D.atKey (.string wd.data.toList) (.lit (.int .i64 0)) = .lit (.int .i64 cc)) := hid (by rw [HC.out, hcc])
          have HD3 : Hid (IsMap (D.put (.string wd.data.toList) (.lit (.int .i64 ((cc : Int) + 1))))) := hid (by have := HD2.out; rwa [hcc] at this)
          have HC4 : Hid (∀ s : ByteArray, (D.put (.string wd.data.toList) (.lit (.int .i64 ((cc : Int) + 1)))).atKey (.string s.data.toList) (.lit (.int .i64 0)) = .lit (.int .i64 (cnt (ws ++ [wd]) s))) := hid (by have := HC2.out; rwa [hcc] at this)
          have HCS : Hid (cnt (ws ++ [wd]) wd = cc + 1) := hid (by rw [cnt_snoc, hcc, if_pos (show sameB wd wd = true from decide_eq_true rfl)])
          have HC5 : Hid ((D.put (.string wd.data.toList) (.lit (.int .i64 ((cc : Int) + 1)))).atKey (.string wd.data.toList) (.lit (.int .i64 0)) = .lit (.int .i64 ((cc : Int) + 1))) := hid (by rw [HC4.out wd, HCS.out]; rfl)
          have HWB : Hid (w.heap.size < wr.heap.size) := hid (HOwn.out.lt)
          clear HT HC HD2 HC2 hcc HM
          have hk4 : k < 4000 := by omega
          by_cases hz : 0 < cc
          · have HE : Hid (twiceB ls [] = some at_) := hid (by rw [HT2.out, if_pos hz])
            have hz1 : (1 : Int) < (cc : Int) + 1 := by omega
            clear HT2
            go_wp2_with (first
              | (go_at_call 210; refine CG.out.mono ?_; rintro e w2 ⟨rfl, hb2⟩; have hown2 := own_below (own_below HOwn.out HA1.out) hb2; have q2 : w2.cell? ⟨wr.heap.size, 0, none⟩ = some (.int .i64 at_) := (hb2.cell (by simp)).trans (by rw [block_cell (heap_alloc_new wr _)]; rfl); obtain ⟨c, hrun, hat, _⟩ := hown2.lookup_int Tryz.lawStr Tryz.underlying341 Tryz.underlying3 (Tryz.zeroInt _) HKey.out; obtain rfl : c = (cc : Int) := lit_inj (hat.symm.trans HC3.out); clear hat)
              | (at_mapUpdate; refine wpList_mapUpdate_own _ rfl _ _ _ 341 rfl 9 3 Tryz.lawStr Tryz.underlying341 _ w.heap.size k _ rfl hown2 (by unfold maxLen; omega) _ _ _ rfl rfl HKey.out _ [] (plainElem_int Tryz.underlying3 (WalkArith.wf_i64 (by omega))) ?_))
            intro w3 hown3 hgrow3
            obtain ⟨c2, hrun2, hat2, _⟩ := hown3.lookup_int Tryz.lawStr Tryz.underlying341 Tryz.underlying3 (Tryz.zeroInt _) HKey.out
            obtain rfl : c2 = (cc : Int) + 1 := lit_inj (hat2.symm.trans HC5.out)
            have hb2w : Below wr.heap.size wr w2 := HA1.out.trans (hb2.mono HA1.out.size)
            have hbw2 : Below w.heap.size w w2 := HB1.out.trans (hb2.mono HB1.out.size)
            have HB3 : Hid (Below w.heap.size w w3) := hid (hbw2.grown hgrow3 hbw2.size (fun j hj => by cases hj; exact Nat.le_refl _))
            have q3 : w3.cell? ⟨wr.heap.size, 0, none⟩ = some (.int .i64 at_) := (World.cell?_of_block (hgrow3.block _ (lt_of_cell' q2) (by have := HWB.out; simp; omega))).trans q2
            have HMV : Hid (MapV w3 w.heap.size (k + 1) (ws ++ [wd])) := hid ⟨_, hown3, HD3.out, HC4.out⟩
            clear hown3 hgrow3 hown2 hrun hat2 hb2w hbw2 hb2 q2
            go_wp2
            go_ret2
            exact ⟨by rw [HE.out]; rfl, HB3.out⟩
          · have HE : Hid (twiceB ls [] = twiceB (ls.drop (k + 1)) (ws ++ [wd])) := hid (by rw [HT2.out, if_neg hz])
            have hc0 : cc = 0 := by omega
            subst hc0
            clear HT2 hz hcc4
            go_wp2_with (first
              | (go_at_call 210; refine CG.out.mono ?_; rintro e w2 ⟨rfl, hb2⟩; have hown2 := own_below (own_below HOwn.out HA1.out) hb2; have q2 : w2.cell? ⟨wr.heap.size, 0, none⟩ = some (.int .i64 at_) := (hb2.cell (by simp)).trans (by rw [block_cell (heap_alloc_new wr _)]; rfl); obtain ⟨c, hrun, hat, _⟩ := hown2.lookup_int Tryz.lawStr Tryz.underlying341 Tryz.underlying3 (Tryz.zeroInt _) HKey.out; obtain rfl : c = (0 : Int) := lit_inj (hat.symm.trans HC3.out); clear hat)
              | (at_mapUpdate; refine wpList_mapUpdate_own _ rfl _ _ _ 341 rfl 9 3 Tryz.lawStr Tryz.underlying341 _ w.heap.size k _ rfl hown2 (by unfold maxLen; omega) _ _ _ rfl rfl HKey.out _ [] (plainElem_int Tryz.underlying3 (WalkArith.wf_i64 (by omega))) ?_))
            intro w3 hown3 hgrow3
            obtain ⟨c2, hrun2, hat2, _⟩ := hown3.lookup_int Tryz.lawStr Tryz.underlying341 Tryz.underlying3 (Tryz.zeroInt _) HKey.out
            obtain rfl : c2 = (1 : Int) := lit_inj (hat2.symm.trans HC5.out)
            have hb2w : Below wr.heap.size wr w2 := HA1.out.trans (hb2.mono HA1.out.size)
            have hbw2 : Below w.heap.size w w2 := HB1.out.trans (hb2.mono HB1.out.size)
            have HB3 : Hid (Below w.heap.size w w3) := hid (hbw2.grown hgrow3 hbw2.size (fun j hj => by cases hj; exact Nat.le_refl _))
            have q3 : w3.cell? ⟨wr.heap.size, 0, none⟩ = some (.int .i64 at_) := (World.cell?_of_block (hgrow3.block _ (lt_of_cell' q2) (by have := HWB.out; simp; omega))).trans q2
            have HMV : Hid (MapV w3 w.heap.size (k + 1) (ws ++ [wd])) := hid ⟨_, hown3, HD3.out, HC4.out⟩
            clear hown3 hgrow3 hown2 hrun hat2 hb2w hbw2 hb2 q2
            go_wp2
            go_roundw
            case rel => exact ⟨k + 1, ws ++ [wd], by omega, by go_num, hid (by have := hwl.out; simp; omega), HE, HMV, HB3⟩
            case measure => simp [intOf]; omega
        · have HE : Hid (twiceB ls [] = twiceB (ls.drop (k + 1)) ws) := hid (by rw [HT.out, if_pos he])
          go_wp2_with (first | (go_at_call 210; refine CG.out.mono ?_; rintro e w2 ⟨rfl, hb2⟩))
          have hbb : Below wr.heap.size wr w2 := HA1.out.trans (hb2.mono HA1.out.size)
          have HMV : Hid (MapV w2 w.heap.size (k + 1) ws) := hid (by
            obtain ⟨D', h1, h2⟩ := HM.out.below hbb
            exact ⟨D', h1.mono (by omega), h2⟩)
          have HB2 : Hid _ := hid (HB1.out.trans (hb2.mono HB1.out.size))
          clear hbb hb2
          go_roundw
          case rel => exact ⟨k + 1, ws, by omega, by go_num, hid (by have := hwl.out; omega), HE, HMV, HB2⟩
          case measure => simp [intOf]; omega
      · have HE : Hid (twiceB ls [] = none) := hid (by rw [ht.out, List.drop_eq_nil_of_le (by have := HN.out; omega)]; rfl)
        go_wp2
        go_ret2
        exact ⟨by rw [HE.out]; rfl, hbr.out⟩

end Go.Proofs.YtjjggdcnpndgjaaGreatDoor

namespace Go.Proofs.YtjjggdcnpndgjaaGreatDoor
open Go.RowKit Go.WideMaps Go.Maps

/-- All words that are given. -/
def givenB (ls : List Ln) : List ByteArray := (ls.map fun x => givesB x.2.1 x.2.2).filter fun s => !s.toList.isEmpty

def lineUnk (ws : List ByteArray) (x : Ln) : Bool := (x.2.1 == 1 && ((nth x.2.2 1).toList == (nth x.2.2 2).toList)) || (usesB x.2.1 x.2.2).any fun u => cnt ws u == 0

def unkL (ws : List ByteArray) : List Ln → Option Nat
  | [] => none
  | x :: r => if lineUnk ws x then some x.1 else unkL ws r

theorem unkL_at {ls : List Ln} {k : Nat} {x : Ln} (hx : ls[k]? = some x) (ws : List ByteArray) : unkL ws (ls.drop k) = if lineUnk ws x then some x.1 else unkL ws (ls.drop (k + 1)) := by
  obtain ⟨hk, e⟩ := List.getElem?_eq_some_iff.1 hx
  rw [List.drop_eq_getElem_cons hk, e]
  rfl

theorem givenB_next {ls : List Ln} {k : Nat} {x : Ln} (hx : ls[k]? = some x) : givenB (ls.take (k + 1)) = givenB (ls.take k) ++ if (givesB x.2.1 x.2.2).toList.isEmpty then [] else [givesB x.2.1 x.2.2] := by
  obtain ⟨hk, e⟩ := List.getElem?_eq_some_iff.1 hx
  unfold givenB
  rw [List.take_succ_eq_append_getElem hk, e, List.map_append, List.filter_append]
  cases h : (givesB x.2.1 x.2.2).toList.isEmpty <;> simp [h]

theorem givenB_len (ls : List Ln) (k : Nat) : (givenB (ls.take k)).length ≤ k := by
  unfold givenB
  refine Nat.le_trans (List.length_filter_le _ _) ?_
  simp
  omega

theorem uses_any (a sh : Nat) (p : Value) (l : List ByteArray) (w : World) (hW : WordsV w p l) (hsh : sh ≤ 2) (hl : 3 ≤ l.length) (hll : l.length ≤ 4001) :
    Calls Tryz.prog 211 #[.agg #[.int .i64 a, .int .i64 sh, p]] w fun e w' => ∃ v, e = .returned v ∧ UsedV w' v (usesB sh l) ∧ Below w.heap.size w w' := by
  have h' : sh = 0 ∨ sh = 1 ∨ sh = 2 := by omega
  rcases h' with rfl | rfl | rfl
  · exact uses_tok a p l w hW
  · exact uses_swap a p l w hW hl hll
  · exact uses_rule a p l w hW hl hll

theorem below_dn (w : World) (n : Nat) : Below w.heap.size w (w.drewN n) := ⟨rfl, rfl, rfl, Nat.le_refl _, fun _ _ => rfl⟩

theorem uses_len (sh : Nat) (l : List ByteArray) (h3 : 3 ≤ l.length) (hll : l.length ≤ 4001) : (usesB sh l).length ≤ 4001 := by
  unfold usesB
  split
  · simp
  · split
    · have h1 := rules_flat_len l (rulesL l).length
      rw [List.take_length] at h1
      omega
    · simp

/-- What is asked of the lines. -/
structure LinesOk (ls : List Ln) : Prop where
  len : ls.length ≤ 4000
  ok : ∀ x ∈ ls, LineOk x
  sh : ∀ x ∈ ls, x.2.1 ≤ 2
  gsz : ∀ x ∈ ls, (givesB x.2.1 x.2.2).size ≤ 4000
  usz : ∀ x ∈ ls, ∀ u ∈ usesB x.2.1 x.2.2, u.size ≤ 4000

set_option maxHeartbeats 1000000 in
set_option maxRecDepth 100000 in
theorem unknown_any' (v : Value) (ls : List Ln) (pv : List Value) (B : Nat) (w : World) (hV : LnV w B v ls pv) (hok : LinesOk ls) :
    Calls Tryz.prog 170 #[v] w fun e w' => e = .returned (optRet (unkL (givenB ls) ls)) ∧ Below w.heap.size w w' := by
  have hmm := @run_makeMap Tryz.prog
  rcases hV.form with ⟨rfl, rfl⟩ | ⟨g, cap, rfl, hnc, hg⟩
  · clear hV
    have HB : Hid (Below w.heap.size w (w.alloc (.map #[] 0))) := hid ((Below.refl _ _).alloc (Nat.le_refl _) _)
    go_enter Tryz.func170, Tryz.ntmps170
    go_wp2
    go_loopw [15] (fun i wr => i = .int .i64 0 ∧ Hid (Below w.heap.size w wr)) (fun i _ => 0)
    case atStart => exact ⟨rfl, HB⟩
    case round =>
      obtain ⟨rfl, hbr⟩ := hrel
      go_wp2
      go_loopw [30] (fun i wr => i = .int .i64 0 ∧ Hid (Below w.heap.size w wr)) (fun i _ => 0)
      case atStart => exact ⟨rfl, hbr⟩
      case round =>
        obtain ⟨rfl, hbr2⟩ := hrel
        go_wp2
        go_ret2
        exact ⟨rfl, hbr2.out⟩
  · obtain ⟨n, hN⟩ : ∃ n, n = ls.length := ⟨_, rfl⟩
    have hn : n ≤ 4000 := by have := hok.len; omega
    rw [← hN] at hnc hV ⊢
    have HN : Hid (n = ls.length) := hid hN
    have HV : Hid _ := hid hV
    have HOK : Hid _ := hid hok
    have HB : Hid (Below w.heap.size w (w.alloc (.map #[] 0))) := hid ((Below.refl _ _).alloc (Nat.le_refl _) _)
    have HM : Hid (MapV (w.alloc (.map #[] 0)) w.heap.size 0 []) := hid ⟨_, World.ownsMap_made _ _ _ _, isMap_empty, fun s => rfl⟩
    clear hN hV hok
    go_enter Tryz.func170, Tryz.ntmps170
    go_wp2
    clear hmm
    go_loopw [15] (fun i wr => ∃ k : Nat, k ≤ n ∧ i = .int .i64 k ∧ Hid (MapV wr w.heap.size k (givenB (ls.take k))) ∧ Hid (Below w.heap.size w wr)) (fun i _ => n - (intOf i).toNat)
    case atStart => exact ⟨0, by omega, rfl, HM, HB⟩
    case round =>
      clear HM HB
      obtain ⟨k, hk, rfl, hm, hbr⟩ := hrel
      have hsz := hbr.out.size
      by_cases hlt : k < n
      · obtain ⟨x, hx⟩ : ∃ x, ls[k]? = some x := ⟨_, List.getElem?_eq_getElem (by have := HN.out; omega)⟩
        have hxok := HOK.out.ok x (List.mem_of_getElem? hx)
        have hxs := HOK.out.gsz x (List.mem_of_getElem? hx)
        have hT := givenB_next hx
        obtain ⟨p, hp, hWV, k0, k1, k2⟩ := (HV.out.below hbr.out).at hx
        obtain ⟨at_, sh, l⟩ := x
        simp only at k0 k1 k2 hT hWV hxs
        have hgr : g < wr.heap.size := Nat.lt_of_lt_of_le hg hsz
        have HWV : Hid _ := hid hWV
        obtain ⟨gw, m, mc, ad, cs, rfl, _⟩ := hWV
        have HB1 : Hid (Below w.heap.size w (wr.alloc (.cells #[.int .i64 at_, .int .i64 sh, .slice ad m mc] 325))) := hid (hbr.out.alloc hsz _)
        have HA1 : Hid (Below wr.heap.size wr (wr.alloc (.cells #[.int .i64 at_, .int .i64 sh, .slice ad m mc] 325))) := hid ((Below.refl _ _).alloc (Nat.le_refl _) _)
        obtain ⟨wd, hwd⟩ : ∃ wd, givesB sh l = wd := ⟨_, rfl⟩
        have cG := gives_any at_ sh (.slice ad m mc) l _ (HWV.out.below HA1.out) (by have := hxok.1; simp only at this; omega) hxok.2
        rw [hwd] at cG hT hxs
        have CG : Hid _ := hid cG
        have HT : Hid _ := hid hT
        obtain ⟨ws, hws⟩ : ∃ ws, givenB (ls.take k) = ws := ⟨_, rfl⟩
        have hwl : ws.length ≤ k := by rw [← hws]; exact givenB_len ls k
        rw [hws] at hm HT
        obtain ⟨D, hown, hD, hcount⟩ := hm.out
        have hkey : keyOf Tryz.prog 9 (.string wd) = some (.string wd.data.toList) := keyOf_string_mk Tryz.underlying9 (by unfold maxLen; omega)
        obtain ⟨cc, hcc⟩ : ∃ cc, cnt ws wd = cc := ⟨_, rfl⟩
        have hcc4 : cc ≤ 4000 := by have h1 := cnt_le ws wd; omega
        have HC3 : Hid (D.atKey (.string wd.data.toList) (.lit (.int .i64 0)) = .lit (.int .i64 cc)) := hid (by rw [hcount wd, hcc])
        have HD3 : Hid (IsMap (D.put (.string wd.data.toList) (.lit (.int .i64 ((cc : Int) + 1))))) := hid (hD.put _ _)
        have HC4 : Hid (∀ s : ByteArray, (D.put (.string wd.data.toList) (.lit (.int .i64 ((cc : Int) + 1)))).atKey (.string s.data.toList) (.lit (.int .i64 0)) = .lit (.int .i64 (cnt (ws ++ [wd]) s))) := hid (by have := counts_put hD hcount wd; rwa [hcc] at this)
        have HM : Hid (MapV wr w.heap.size k ws) := hm
        have HOwn : Hid _ := hid hown
        have HKey : Hid _ := hid hkey
        have hk4 : k < 4000 := by omega
        clear hp hx hxok hT cG hwd hcount hD hown hm hkey hcc hws hwl
        cases he : wd.toList.isEmpty
        · have HE : Hid (givenB (ls.take (k + 1)) = ws ++ [wd]) := hid (by rw [HT.out, if_neg (by rw [he]; decide)])
          clear HT HM
          go_wp2_with (first
            | (go_at_call 210; refine CG.out.mono ?_; rintro e w2 ⟨rfl, hb2⟩; have hown2 := own_below (own_below HOwn.out HA1.out) hb2; obtain ⟨c, hrun, hat, _⟩ := hown2.lookup_int Tryz.lawStr Tryz.underlying341 Tryz.underlying3 (Tryz.zeroInt _) HKey.out; obtain rfl : c = (cc : Int) := lit_inj (hat.symm.trans HC3.out); clear hat)
            | (at_mapUpdate; refine wpList_mapUpdate_own _ rfl _ _ _ 341 rfl 9 3 Tryz.lawStr Tryz.underlying341 _ w.heap.size k _ rfl hown2 (by unfold maxLen; omega) _ _ _ rfl rfl HKey.out _ [] (plainElem_int Tryz.underlying3 (WalkArith.wf_i64 (by omega))) ?_))
          intro w3 hown3 hgrow3
          have hbw2 : Below w.heap.size w w2 := HB1.out.trans (hb2.mono HB1.out.size)
          have HB3 : Hid (Below w.heap.size w w3) := hid (hbw2.grown hgrow3 hbw2.size (fun j hj => by cases hj; exact Nat.le_refl _))
          have HMV : Hid (MapV w3 w.heap.size (k + 1) (givenB (ls.take (k + 1)))) := hid (by rw [HE.out]; exact ⟨_, hown3, HD3.out, HC4.out⟩)
          clear hown3 hgrow3 hown2 hrun hbw2 hb2
          go_wp2
          go_roundw
          case rel => exact ⟨k + 1, by omega, by go_num, HMV, HB3⟩
          case measure => simp [intOf]; omega
        · have HE : Hid (givenB (ls.take (k + 1)) = ws) := hid (by rw [HT.out, if_pos he, List.append_nil])
          go_wp2_with (first | (go_at_call 210; refine CG.out.mono ?_; rintro e w2 ⟨rfl, hb2⟩))
          have hbb : Below wr.heap.size wr w2 := HA1.out.trans (hb2.mono HA1.out.size)
          have HMV : Hid (MapV w2 w.heap.size (k + 1) (givenB (ls.take (k + 1)))) := hid (by
            rw [HE.out]
            obtain ⟨D', h1, h2⟩ := HM.out.below hbb
            exact ⟨D', h1.mono (by omega), h2⟩)
          have HB2 : Hid _ := hid (HB1.out.trans (hb2.mono HB1.out.size))
          clear hbb hb2
          go_roundw
          case rel => exact ⟨k + 1, by omega, by go_num, HMV, HB2⟩
          case measure => simp [intOf]; omega
      · have HMW : Hid (MapV wr w.heap.size k (givenB ls)) := hid (by
          have h := hm.out
          rwa [List.take_of_length_le (by have := HN.out; omega)] at h)
        clear hm
        obtain ⟨W1, hW1⟩ : ∃ W1, W1 = wr := ⟨_, rfl⟩
        subst hW1
        go_wp2
        go_loopw [30] (fun i wi => ∃ q : Nat, q ≤ n ∧ i = .int .i64 q ∧ Hid (unkL (givenB ls) ls = unkL (givenB ls) (ls.drop q)) ∧ Hid (Below W1.heap.size W1 wi)) (fun i _ => n - (intOf i).toNat)
        case atStart => exact ⟨0, by omega, rfl, rfl, Below.refl _ _⟩
        case round =>
          obtain ⟨q, hq, rfl, ht, hbi⟩ := hrel
          have hbw : Below w.heap.size w wr := hbr.out.trans (hbi.out.mono hsz)
          have hsz2 := hbw.size
          by_cases hlq : q < n
          · obtain ⟨x, hx⟩ : ∃ x, ls[q]? = some x := ⟨_, List.getElem?_eq_getElem (by have := HN.out; omega)⟩
            have hxok := HOK.out.ok x (List.mem_of_getElem? hx)
            have hxsh := HOK.out.sh x (List.mem_of_getElem? hx)
            have hxus := HOK.out.usz x (List.mem_of_getElem? hx)
            have hT := unkL_at hx (givenB ls)
            obtain ⟨p, hp, hWV, k0, k1, k2⟩ := (HV.out.below hbw).at hx
            obtain ⟨at_, sh, l⟩ := x
            simp only at k0 k1 k2 hT hWV hxsh hxus
            have hgr : g < wr.heap.size := Nat.lt_of_lt_of_le hg hsz2
            have HWV : Hid _ := hid hWV
            obtain ⟨gw, m, mc, ad, cs, rfl, e1, e2, e3, e4, e5, e6⟩ := hWV
            have hl3 : 3 ≤ l.length := hxok.1
            obtain rfl : ad = some ⟨gw, 1, none⟩ := e6 (by omega)
            have c1 : wr.cell? ⟨gw, 1, none⟩ = some (.string (nth l 1)) := by rw [block_cell e4]; exact e5 1 (by omega)
            have c2 : wr.cell? ⟨gw, 2, none⟩ = some (.string (nth l 2)) := by rw [block_cell e4]; exact e5 2 (by omega)
            have hgw : gw < wr.heap.size := lt_of_block e4
            have hm1 : 0 < m := by omega
            have hm2 : 1 < m := by omega
            have hm3 : (0 : Int) < m := by omega
            have hm4 : (1 : Int) < m := by omega
            have HA1 : Hid (Below wr.heap.size wr (wr.alloc (.cells #[.int .i64 at_, .int .i64 sh, .slice (some ⟨gw, 1, none⟩) m mc] 325))) := hid ((Below.refl _ _).alloc (Nat.le_refl _) _)
            obtain ⟨us, hus⟩ : ∃ us, usesB sh l = us := ⟨_, rfl⟩
            obtain ⟨un, hun⟩ : ∃ un, us.length = un := ⟨_, rfl⟩
            have hun4 : un ≤ 4001 := by
              have h1 := uses_len sh l hxok.1 hxok.2
              rw [hus, hun] at h1
              exact h1
            have HUN : Hid (us.length = un) := hid hun
            have HUZ : Hid (∀ u ∈ us, u.size ≤ 4000) := hid (by rw [← hus]; exact hxus)
            have CU : Hid (∀ W, Below wr.heap.size wr W → Calls Tryz.prog 211 #[.agg #[.int .i64 at_, .int .i64 sh, .slice (some ⟨gw, 1, none⟩) m mc]] W fun e w' =>
                (∃ ad cap, e = .returned (.slice ad un cap) ∧ (0 < un → ∃ g off, ad = some ⟨g, off, none⟩ ∧ StrsAt w' g off us ∧ un ≤ cap)) ∧ Below W.heap.size W w') := hid fun W hW => by
              refine (uses_any at_ sh _ l W (HWV.out.below hW) hxsh hxok.1 hxok.2).mono ?_
              rintro e w' ⟨v, rfl, ⟨ad, cap, rfl, h1, h2⟩, hb⟩
              rw [hus, hun] at h1 h2 ⊢
              exact ⟨⟨ad, cap, rfl, fun h => by obtain ⟨g, off, h3, h4⟩ := h2 h; exact ⟨g, off, h3, h4, h1⟩⟩, hb⟩
            have HT : Hid _ := hid (ht.out.trans hT)
            have HLU0 : Hid (lineUnk (givenB ls) (at_, sh, l) = ((sh == 1 && ((nth l 1).toList == (nth l 2).toList)) || us.any fun u => cnt (givenB ls) u == 0)) := hid (by unfold lineUnk; rw [hus])
            clear hp hx hxok hT ht e1 e2 e3 e4 e5 e6 hus hun hxus hbw hl3
            cases hs1 : ((sh : Int) == 1)
            · have HLU : Hid (lineUnk (givenB ls) (at_, sh, l) = us.any fun u => cnt (givenB ls) u == 0) := hid (by
                rw [HLU0.out, show (sh == 1) = false by simp at hs1 ⊢; omega]; simp)
              clear HLU0
              go_wp2
              go_quiet (fail)
              rcases Nat.eq_zero_or_pos un with hu0 | hup
              · have hus0 : us = [] := List.eq_nil_of_length_eq_zero (HUN.out.trans hu0)
                have HE : Hid (unkL (givenB ls) ls = unkL (givenB ls) (ls.drop (q + 1))) := hid (by rw [HT.out, if_neg]; rw [HLU.out, hus0]; simp)
                subst hu0
                clear hus0
                go_wp2_with (first | (go_at_call 211; refine (CU.out _ (HA1.out.trans ((below_dn _ _).mono HA1.out.size))).mono ?_; rintro e w2 ⟨⟨adu, capu, rfl, _⟩, hb2⟩))
                have HB2 : Hid (Below W1.heap.size W1 w2) := hid (hbi.out.trans ((HA1.out.trans (((below_dn _ _).trans hb2).mono HA1.out.size)).mono hbi.out.size))
                clear hb2
                go_loopw [53] (fun i wj => i = .int .i64 0 ∧ Hid (Below W1.heap.size W1 wj)) (fun i _ => 0)
                case atStart => exact ⟨rfl, HB2⟩
                case round =>
                  obtain ⟨rfl, hbj⟩ := hrel
                  go_wp2
                  go_roundw
                  case rel => exact ⟨q + 1, by omega, by go_num, HE, hbj⟩
                  case measure => simp [intOf]; omega
              · go_wp2_with (first | (go_at_call 211; refine (CU.out _ (HA1.out.trans ((below_dn _ _).mono HA1.out.size))).mono ?_; rintro e w2 ⟨⟨adu, capu, rfl, hst⟩, hb2⟩))
                obtain ⟨gu, ou, rfl, hstr, hcu⟩ := hst hup
                have hbA : Below wr.heap.size wr w2 := HA1.out.trans (((below_dn _ _).trans hb2).mono HA1.out.size)
                have HB2 : Hid (Below W1.heap.size W1 w2) := hid (hbi.out.trans (hbA.mono hbi.out.size))
                have q2 : w2.cell? ⟨wr.heap.size, 0, none⟩ = some (.int .i64 at_) := (hb2.cell (by simp)).trans (by
                  show (wr.alloc _).cell? _ = _
                  rw [block_cell (heap_alloc_new wr _)]; rfl)
                obtain ⟨bl, hbl⟩ : ∃ bl, wr.heap.size = bl := ⟨_, rfl⟩
                rw [hbl] at q2
                have HQ2 : Hid _ := hid q2
                have hbl2 : bl < w2.heap.size := lt_of_cell' q2
                have HSTR : Hid _ := hid hstr
                rw [hbl]
                clear hstr hbA hb2 hst q2
                go_loopw [53] (fun i wj => ∃ j : Nat, j ≤ un ∧ i = .int .i64 j ∧ Hid (∀ t, t < j → (cnt (givenB ls) (nth us t) == 0) = false) ∧ Hid (Below w2.heap.size w2 wj)) (fun i _ => un - (intOf i).toNat)
                case atStart => exact ⟨0, by omega, rfl, hid (fun t h => by omega), Below.refl _ _⟩
                case round =>
                  obtain ⟨j, hj, rfl, hno, hbj⟩ := hrel
                  have HBj : Hid (Below W1.heap.size W1 wr) := hid (HB2.out.trans (hbj.out.mono HB2.out.size))
                  by_cases hlj : j < un
                  · have cu : wr.cell? ⟨gu, ou + j, none⟩ = some (.string (nth us j)) := (HSTR.out.later hbj.out).2 j (by rw [HUN.out]; exact hlj)
                    have hmem : nth us j ∈ us := by
                      unfold nth
                      rw [List.getD_eq_getElem?_getD, List.getElem?_eq_getElem (by rw [HUN.out]; exact hlj)]
                      exact List.getElem_mem _
                    have hus4 := HUZ.out _ hmem
                    obtain ⟨u, hu⟩ : ∃ u, nth us j = u := ⟨_, rfl⟩
                    rw [hu] at cu hus4
                    have HU : Hid (nth us j = u) := hid hu
                    have HMem : Hid (nth us j ∈ us) := hid hmem
                    obtain ⟨D, hown, _, hcount⟩ := HMW.out.below HBj.out
                    have hkey : keyOf Tryz.prog 9 (.string u) = some (.string u.data.toList) := keyOf_string_mk Tryz.underlying9 (by unfold maxLen; omega)
                    obtain ⟨c, hrun, hat, _⟩ := hown.lookup_int Tryz.lawStr Tryz.underlying341 Tryz.underlying3 (Tryz.zeroInt _) hkey
                    obtain ⟨cc, hcc⟩ : ∃ cc, cnt (givenB ls) u = cc := ⟨_, rfl⟩
                    obtain rfl : c = (cc : Int) := lit_inj (hat.symm.trans (by rw [hcount u, hcc]))
                    have HCC : Hid (cnt (givenB ls) u = cc) := hid hcc
                    clear hu hmem hcount hkey hat hcc hown
                    have q3 : wr.cell? ⟨bl, 0, none⟩ = some (.int .i64 at_) := (hbj.out.cell (by exact hbl2)).trans HQ2.out
                    cases hz : ((cc : Int) == 0)
                    · have HN2 : Hid _ := hid (upto_next hno.out (show (cnt (givenB ls) (nth us j) == 0) = false by rw [HU.out, HCC.out]; simp at hz ⊢; omega))
                      go_wp2
                      go_roundw
                      case rel => exact ⟨j + 1, by omega, by go_num, HN2, hbj⟩
                      case measure => simp [intOf]; omega
                    · have HE : Hid (unkL (givenB ls) ls = some at_) := hid (by
                        rw [HT.out, if_pos]
                        rw [HLU.out, List.any_eq_true]
                        exact ⟨_, HMem.out, by rw [HU.out, HCC.out]; simp at hz ⊢; omega⟩)
                      go_wp2
                      go_ret2
                      exact ⟨by rw [HE.out]; rfl, hbr.out.trans (HBj.out.mono hsz)⟩
                  · have HE : Hid (unkL (givenB ls) ls = unkL (givenB ls) (ls.drop (q + 1))) := hid (by
                      rw [HT.out, if_neg]
                      rw [HLU.out, Bool.not_eq_true, List.any_eq_false]
                      intro y hy
                      obtain ⟨t, ht, rfl⟩ := List.mem_iff_getElem.1 hy
                      have h1 := hno.out t (by have := HUN.out; omega)
                      unfold nth at h1
                      rw [List.getD_eq_getElem?_getD, List.getElem?_eq_getElem ht] at h1
                      simpa using h1)
                    go_wp2
                    go_roundw
                    case rel => exact ⟨q + 1, by omega, by go_num, HE, HBj⟩
                    case measure => simp [intOf]; omega
            · cases he : ((nth l 1).toList == (nth l 2).toList)
              · have HLU : Hid (lineUnk (givenB ls) (at_, sh, l) = us.any fun u => cnt (givenB ls) u == 0) := hid (by
                  rw [HLU0.out, he]; simp)
                clear HLU0
                go_wp2
                go_quiet (fail)
                rcases Nat.eq_zero_or_pos un with hu0 | hup
                · have hus0 : us = [] := List.eq_nil_of_length_eq_zero (HUN.out.trans hu0)
                  have HE : Hid (unkL (givenB ls) ls = unkL (givenB ls) (ls.drop (q + 1))) := hid (by rw [HT.out, if_neg]; rw [HLU.out, hus0]; simp)
                  subst hu0
                  clear hus0
                  go_wp2_with (first | (go_at_call 211; refine (CU.out _ (HA1.out.trans ((below_dn _ _).mono HA1.out.size))).mono ?_; rintro e w2 ⟨⟨adu, capu, rfl, _⟩, hb2⟩))
                  have HB2 : Hid (Below W1.heap.size W1 w2) := hid (hbi.out.trans ((HA1.out.trans (((below_dn _ _).trans hb2).mono HA1.out.size)).mono hbi.out.size))
                  clear hb2
                  go_loopw [53] (fun i wj => i = .int .i64 0 ∧ Hid (Below W1.heap.size W1 wj)) (fun i _ => 0)
                  case atStart => exact ⟨rfl, HB2⟩
                  case round =>
                    obtain ⟨rfl, hbj⟩ := hrel
                    go_wp2
                    go_roundw
                    case rel => exact ⟨q + 1, by omega, by go_num, HE, hbj⟩
                    case measure => simp [intOf]; omega
                · go_wp2_with (first | (go_at_call 211; refine (CU.out _ (HA1.out.trans ((below_dn _ _).mono HA1.out.size))).mono ?_; rintro e w2 ⟨⟨adu, capu, rfl, hst⟩, hb2⟩))
                  obtain ⟨gu, ou, rfl, hstr, hcu⟩ := hst hup
                  have hbA : Below wr.heap.size wr w2 := HA1.out.trans (((below_dn _ _).trans hb2).mono HA1.out.size)
                  have HB2 : Hid (Below W1.heap.size W1 w2) := hid (hbi.out.trans (hbA.mono hbi.out.size))
                  have q2 : w2.cell? ⟨wr.heap.size, 0, none⟩ = some (.int .i64 at_) := (hb2.cell (by simp)).trans (by
                    show (wr.alloc _).cell? _ = _
                    rw [block_cell (heap_alloc_new wr _)]; rfl)
                  obtain ⟨bl, hbl⟩ : ∃ bl, wr.heap.size = bl := ⟨_, rfl⟩
                  rw [hbl] at q2
                  have HQ2 : Hid _ := hid q2
                  have hbl2 : bl < w2.heap.size := lt_of_cell' q2
                  have HSTR : Hid _ := hid hstr
                  rw [hbl]
                  clear hstr hbA hb2 hst q2
                  go_loopw [53] (fun i wj => ∃ j : Nat, j ≤ un ∧ i = .int .i64 j ∧ Hid (∀ t, t < j → (cnt (givenB ls) (nth us t) == 0) = false) ∧ Hid (Below w2.heap.size w2 wj)) (fun i _ => un - (intOf i).toNat)
                  case atStart => exact ⟨0, by omega, rfl, hid (fun t h => by omega), Below.refl _ _⟩
                  case round =>
                    obtain ⟨j, hj, rfl, hno, hbj⟩ := hrel
                    have HBj : Hid (Below W1.heap.size W1 wr) := hid (HB2.out.trans (hbj.out.mono HB2.out.size))
                    by_cases hlj : j < un
                    · have cu : wr.cell? ⟨gu, ou + j, none⟩ = some (.string (nth us j)) := (HSTR.out.later hbj.out).2 j (by rw [HUN.out]; exact hlj)
                      have hmem : nth us j ∈ us := by
                        unfold nth
                        rw [List.getD_eq_getElem?_getD, List.getElem?_eq_getElem (by rw [HUN.out]; exact hlj)]
                        exact List.getElem_mem _
                      have hus4 := HUZ.out _ hmem
                      obtain ⟨u, hu⟩ : ∃ u, nth us j = u := ⟨_, rfl⟩
                      rw [hu] at cu hus4
                      have HU : Hid (nth us j = u) := hid hu
                      have HMem : Hid (nth us j ∈ us) := hid hmem
                      obtain ⟨D, hown, _, hcount⟩ := HMW.out.below HBj.out
                      have hkey : keyOf Tryz.prog 9 (.string u) = some (.string u.data.toList) := keyOf_string_mk Tryz.underlying9 (by unfold maxLen; omega)
                      obtain ⟨c, hrun, hat, _⟩ := hown.lookup_int Tryz.lawStr Tryz.underlying341 Tryz.underlying3 (Tryz.zeroInt _) hkey
                      obtain ⟨cc, hcc⟩ : ∃ cc, cnt (givenB ls) u = cc := ⟨_, rfl⟩
                      obtain rfl : c = (cc : Int) := lit_inj (hat.symm.trans (by rw [hcount u, hcc]))
                      have HCC : Hid (cnt (givenB ls) u = cc) := hid hcc
                      clear hu hmem hcount hkey hat hcc hown
                      have q3 : wr.cell? ⟨bl, 0, none⟩ = some (.int .i64 at_) := (hbj.out.cell (by exact hbl2)).trans HQ2.out
                      cases hz : ((cc : Int) == 0)
                      · have HN2 : Hid _ := hid (upto_next hno.out (show (cnt (givenB ls) (nth us j) == 0) = false by rw [HU.out, HCC.out]; simp at hz ⊢; omega))
                        go_wp2
                        go_roundw
                        case rel => exact ⟨j + 1, by omega, by go_num, HN2, hbj⟩
                        case measure => simp [intOf]; omega
                      · have HE : Hid (unkL (givenB ls) ls = some at_) := hid (by
                          rw [HT.out, if_pos]
                          rw [HLU.out, List.any_eq_true]
                          exact ⟨_, HMem.out, by rw [HU.out, HCC.out]; simp at hz ⊢; omega⟩)
                        go_wp2
                        go_ret2
                        exact ⟨by rw [HE.out]; rfl, hbr.out.trans (HBj.out.mono hsz)⟩
                    · have HE : Hid (unkL (givenB ls) ls = unkL (givenB ls) (ls.drop (q + 1))) := hid (by
                        rw [HT.out, if_neg]
                        rw [HLU.out, Bool.not_eq_true, List.any_eq_false]
                        intro y hy
                        obtain ⟨t, ht, rfl⟩ := List.mem_iff_getElem.1 hy
                        have h1 := hno.out t (by have := HUN.out; omega)
                        unfold nth at h1
                        rw [List.getD_eq_getElem?_getD, List.getElem?_eq_getElem ht] at h1
                        simpa using h1)
                      go_wp2
                      go_roundw
                      case rel => exact ⟨q + 1, by omega, by go_num, HE, HBj⟩
                      case measure => simp [intOf]; omega
              · have HE : Hid (unkL (givenB ls) ls = some at_) := hid (by
                  rw [HT.out, if_pos]
                  rw [HLU0.out, he, show (sh == 1) = true by simp at hs1 ⊢; omega]; rfl)
                go_wp2
                go_quiet (fail)
                go_wp2
                go_ret2
                exact ⟨by rw [HE.out]; rfl, hbr.out.trans ((hbi.out.trans ((HA1.out.trans ((below_dn _ _).mono HA1.out.size)).mono hbi.out.size)).mono hsz)⟩
          · have HE : Hid (unkL (givenB ls) ls = none) := hid (by rw [ht.out, List.drop_eq_nil_of_le (by have := HN.out; omega)]; rfl)
            go_wp2
            go_ret2
            exact ⟨by rw [HE.out]; rfl, hbw⟩

end Go.Proofs.YtjjggdcnpndgjaaGreatDoor

namespace Go.Proofs.YtjjggdcnpndgjaaGreatDoor
open Go.RowKit

/-- What the program answers. -/
def progB (s : ByteArray) : Int × Int :=
  if 4000 < s.size then (1, 0)
  else if (scanA s 0).2 < s.size then (2, ((scanA s 0).2 : Nat))
  else match twiceB (progL (scanA s 0).1) [] with
    | some a => (3, (a : Int))
    | none => match manyB (progL (scanA s 0).1) 0 0 0 with
      | some a => (4, (a : Int))
      | none => if (progL (scanA s 0).1).any (fun x => x.2.1 == 2) then (match unkL (givenB (progL (scanA s 0).1)) (progL (scanA s 0).1) with
          | some a => (5, (a : Int))
          | none => (0, 0))
        else (4, (s.size : Int))

/-- Behind checkedLines. -/
def ChkEnd (s : ByteArray) (w : World) (e : Ending) (w' : World) : Prop :=
  ∃ v, e = .returned (.tuple #[v, .int .i64 (progB s).1, .int .i64 (progB s).2]) ∧ ((progB s).1 = 0 → ∃ B pv, w.heap.size ≤ B ∧ LnV w' B v (progL (scanA s 0).1) pv) ∧ Below w.heap.size w w'

theorem chkEnd_err {s : ByteArray} {w w' : World} {v : Value} {a b : Int} (h : progB s = (a, b)) (ha : a ≠ 0) (hb : Below w.heap.size w w') : ChkEnd s w (.returned (.tuple #[v, .int .i64 a, .int .i64 b])) w' :=
  ⟨v, by rw [h], fun h0 => absurd (by rw [h] at h0; exact h0) ha, hb⟩

theorem chkEnd_ok {s : ByteArray} {w w' : World} {v : Value} {pv : List Value} {L : List (Nat × Nat × List ByteArray)} (h : progB s = (0, 0)) (hL : progL (scanA s 0).1 = L) (hV : LnV w' w.heap.size v L pv) (hb : Below w.heap.size w w') : ChkEnd s w (.returned (.tuple #[v, .int .i64 0, .int .i64 0])) w' :=
  ⟨v, by rw [h], fun _ => ⟨_, pv, Nat.le_refl _, by rw [hL]; exact hV⟩, hb⟩

set_option maxHeartbeats 1000000 in
set_option maxRecDepth 100000 in
theorem checked_any (s : ByteArray) (w : World) (hG : Glob w) (hs : s.size ≤ 9223372036854775807) (hok : s.size ≤ 4000 → LinesOk (progL (scanA s 0).1)) :
    Calls Tryz.prog 113 #[.string s] w fun e w' => ChkEnd s w e w' := by
  by_cases h1 : 4000 < s.size
  · have HE : Hid (progB s = (1, 0)) := hid (by unfold progB; rw [if_pos h1])
    have hi1 : (4000 : Int) < s.size := by omega
    go_enter Tryz.func113, Tryz.ntmps113
    go_wp2
    go_ret3
    exact chkEnd_err HE.out (by decide) (Below.refl _ _)
  · have hi1 : ¬ (4000 : Int) < s.size := by omega
    have hs4 : s.size ≤ 4000 := by omega
    have cL := lines_any s w hG hs4
    have HOK : Hid _ := hid (hok hs4)
    obtain ⟨en, hen⟩ : ∃ en, (scanA s 0).2 = en := ⟨_, rfl⟩
    obtain ⟨L, hL⟩ : ∃ L, progL (scanA s 0).1 = L := ⟨_, rfl⟩
    have HP : Hid (progB s = (if en < s.size then (2, (en : Int)) else match twiceB L [] with
      | some a => (3, (a : Int))
      | none => match manyB L 0 0 0 with
        | some a => (4, (a : Int))
        | none => if L.any (fun x => x.2.1 == 2) then (match unkL (givenB L) L with
            | some a => (5, (a : Int))
            | none => (0, 0))
          else (4, (s.size : Int)) : Int × Int)) := hid (by unfold progB; rw [if_neg h1, hen, hL])
    rw [hen, hL] at cL
    rw [hL] at HOK
    have CL : Hid _ := hid cL
    have HLk : Hid (progL (scanA s 0).1 = L) := hid hL
    clear cL hen hL hok hG
    by_cases h2 : en < s.size
    · have HE : Hid (progB s = (2, (en : Int))) := hid (by rw [HP.out, if_pos h2])
      have hi2 : (en : Int) < s.size := by omega
      clear HP
      go_enter Tryz.func113, Tryz.ntmps113
      go_wp2_with (first | (go_at_call 166; refine CL.out.mono ?_; rintro e w1 ⟨v, pv, rfl, hV, hb1⟩))
      go_ret3
      exact chkEnd_err HE.out (by decide) (hb1)
    · have hi2 : ¬ (en : Int) < s.size := by omega
      have HP2 : Hid _ := hid (HP.out.trans (if_neg h2))
      clear HP
      cases ht : twiceB L [] with
      | some a =>
        have HE : Hid (progB s = (3, (a : Int))) := hid (by rw [HP2.out, ht])
        clear HP2
        have CT : Hid (∀ v pv B W, LnV W B v L pv → Calls Tryz.prog 167 #[v] W fun e w' => e = .returned (.tuple #[.int .i64 a, .bool true]) ∧ Below W.heap.size W w') := hid fun v pv B W hV => by
          have := twice_any v L pv B W hV HOK.out.len HOK.out.ok HOK.out.gsz
          rw [ht] at this
          exact this
        clear ht
        go_enter Tryz.func113, Tryz.ntmps113
        go_wp2_with (first
          | (go_at_call 166; refine CL.out.mono ?_; rintro e w1 ⟨v, pv, rfl, hV, hb1⟩)
          | (go_at_call 167; refine (CT.out _ _ _ _ hV).mono ?_; rintro e w2 ⟨rfl, hb2⟩))
        go_ret3
        exact chkEnd_err HE.out (by decide) (hb1.trans (hb2.mono hb1.size))
      | none =>
        have HP3 : Hid _ := hid (HP2.out)
        rw [ht] at HP3
        clear HP2
        have CT : Hid (∀ v pv B W, LnV W B v L pv → Calls Tryz.prog 167 #[v] W fun e w' => e = .returned (.tuple #[.int .i64 0, .bool false]) ∧ Below W.heap.size W w') := hid fun v pv B W hV => by
          have := twice_any v L pv B W hV HOK.out.len HOK.out.ok HOK.out.gsz
          rw [ht] at this
          exact this
        clear ht
        cases hm : manyB L 0 0 0 with
        | some a =>
          have HE : Hid (progB s = (4, (a : Int))) := hid (by rw [HP3.out, hm])
          clear HP3
          have CM : Hid (∀ v pv B W, LnV W B v L pv → Calls Tryz.prog 168 #[v] W fun e w' => e = .returned (.tuple #[.int .i64 a, .bool true]) ∧ Below W.heap.size W w') := hid fun v pv B W hV => by
            have := many_any v L pv B W hV HOK.out.len HOK.out.ok
            rw [hm] at this
            exact this
          clear hm
          go_enter Tryz.func113, Tryz.ntmps113
          go_wp2_with (first
            | (go_at_call 166; refine CL.out.mono ?_; rintro e w1 ⟨v, pv, rfl, hV, hb1⟩)
            | (go_at_call 167; refine (CT.out _ _ _ _ hV).mono ?_; rintro e w2 ⟨rfl, hb2⟩; have hV2 := hV.below hb2)
            | (go_at_call 168; refine (CM.out _ _ _ _ hV2).mono ?_; rintro e w3 ⟨rfl, hb3⟩))
          go_ret3
          exact chkEnd_err HE.out (by decide) ((hb1.trans (hb2.mono hb1.size)).trans (hb3.mono (Nat.le_trans hb1.size hb2.size)))
        | none =>
          rw [hm] at HP3
          have CM : Hid (∀ v pv B W, LnV W B v L pv → Calls Tryz.prog 168 #[v] W fun e w' => e = .returned (.tuple #[.int .i64 0, .bool false]) ∧ Below W.heap.size W w') := hid fun v pv B W hV => by
            have := many_any v L pv B W hV HOK.out.len HOK.out.ok
            rw [hm] at this
            exact this
          clear hm
          cases hn : L.any (fun x => x.2.1 == 2) with
          | false =>
            have HE : Hid (progB s = (4, (s.size : Int))) := hid (by rw [HP3.out, hn]; rfl)
            clear HP3
            have CN : Hid (∀ v pv B W, LnV W B v L pv → Calls Tryz.prog 169 #[v] W fun e w' => e = .returned (.bool false) ∧ Below W.heap.size W w') := hid fun v pv B W hV => by
              have := hasName_any' v L pv B W hV HOK.out.len
              rw [hn] at this
              exact this
            clear hn
            go_enter Tryz.func113, Tryz.ntmps113
            go_wp2_with (first
              | (go_at_call 166; refine CL.out.mono ?_; rintro e w1 ⟨v, pv, rfl, hV, hb1⟩)
              | (go_at_call 167; refine (CT.out _ _ _ _ hV).mono ?_; rintro e w2 ⟨rfl, hb2⟩; have hV2 := hV.below hb2)
              | (go_at_call 168; refine (CM.out _ _ _ _ hV2).mono ?_; rintro e w3 ⟨rfl, hb3⟩; have hV3 := hV2.below hb3)
              | (go_at_call 169; refine (CN.out _ _ _ _ hV3).mono ?_; rintro e w4 ⟨rfl, hb4⟩))
            go_ret3
            exact chkEnd_err HE.out (by decide) (((hb1.trans (hb2.mono hb1.size)).trans (hb3.mono (Nat.le_trans hb1.size hb2.size))).trans (hb4.mono (Nat.le_trans (Nat.le_trans hb1.size hb2.size) hb3.size)))
          | true =>
            have HE : Hid (progB s = (match unkL (givenB L) L with
              | some a => (5, (a : Int))
              | none => (0, 0) : Int × Int)) := hid (by rw [HP3.out, hn]; rfl)
            clear HP3
            have CN : Hid (∀ v pv B W, LnV W B v L pv → Calls Tryz.prog 169 #[v] W fun e w' => e = .returned (.bool true) ∧ Below W.heap.size W w') := hid fun v pv B W hV => by
              have := hasName_any' v L pv B W hV HOK.out.len
              rw [hn] at this
              exact this
            clear hn
            cases hu : unkL (givenB L) L with
            | some a =>
              have HE2 : Hid (progB s = (5, (a : Int))) := hid (by rw [HE.out, hu])
              have CU : Hid (∀ v pv B W, LnV W B v L pv → Calls Tryz.prog 170 #[v] W fun e w' => e = .returned (.tuple #[.int .i64 a, .bool true]) ∧ Below W.heap.size W w') := hid fun v pv B W hV => by
                have := unknown_any' v L pv B W hV HOK.out
                rw [hu] at this
                exact this
              clear hu HE
              go_enter Tryz.func113, Tryz.ntmps113
              go_wp2_with (first
                | (go_at_call 166; refine CL.out.mono ?_; rintro e w1 ⟨v, pv, rfl, hV, hb1⟩)
                | (go_at_call 167; refine (CT.out _ _ _ _ hV).mono ?_; rintro e w2 ⟨rfl, hb2⟩; have hV2 := hV.below hb2)
                | (go_at_call 168; refine (CM.out _ _ _ _ hV2).mono ?_; rintro e w3 ⟨rfl, hb3⟩; have hV3 := hV2.below hb3)
                | (go_at_call 169; refine (CN.out _ _ _ _ hV3).mono ?_; rintro e w4 ⟨rfl, hb4⟩; have hV4 := hV3.below hb4)
                | (go_at_call 170; refine (CU.out _ _ _ _ hV4).mono ?_; rintro e w5 ⟨rfl, hb5⟩))
              go_ret3
              exact chkEnd_err HE2.out (by decide) ((((hb1.trans (hb2.mono hb1.size)).trans (hb3.mono (Nat.le_trans hb1.size hb2.size))).trans (hb4.mono (Nat.le_trans (Nat.le_trans hb1.size hb2.size) hb3.size))).trans (hb5.mono (Nat.le_trans (Nat.le_trans (Nat.le_trans hb1.size hb2.size) hb3.size) hb4.size)))
            | none =>
              have HE2 : Hid (progB s = (0, 0)) := hid (by rw [HE.out, hu])
              have CU : Hid (∀ v pv B W, LnV W B v L pv → Calls Tryz.prog 170 #[v] W fun e w' => e = .returned (.tuple #[.int .i64 0, .bool false]) ∧ Below W.heap.size W w') := hid fun v pv B W hV => by
                have := unknown_any' v L pv B W hV HOK.out
                rw [hu] at this
                exact this
              clear hu HE
              go_enter Tryz.func113, Tryz.ntmps113
              go_wp2_with (first
                | (go_at_call 166; refine CL.out.mono ?_; rintro e w1 ⟨v, pv, rfl, hV, hb1⟩)
                | (go_at_call 167; refine (CT.out _ _ _ _ hV).mono ?_; rintro e w2 ⟨rfl, hb2⟩; have hV2 := hV.below hb2)
                | (go_at_call 168; refine (CM.out _ _ _ _ hV2).mono ?_; rintro e w3 ⟨rfl, hb3⟩; have hV3 := hV2.below hb3)
                | (go_at_call 169; refine (CN.out _ _ _ _ hV3).mono ?_; rintro e w4 ⟨rfl, hb4⟩; have hV4 := hV3.below hb4)
                | (go_at_call 170; refine (CU.out _ _ _ _ hV4).mono ?_; rintro e w5 ⟨rfl, hb5⟩))
              go_ret3
              exact chkEnd_ok HE2.out (HLk.out) (hV4.below hb5) ((((hb1.trans (hb2.mono hb1.size)).trans (hb3.mono (Nat.le_trans hb1.size hb2.size))).trans (hb4.mono (Nat.le_trans (Nat.le_trans hb1.size hb2.size) hb3.size))).trans (hb5.mono (Nat.le_trans (Nat.le_trans (Nat.le_trans hb1.size hb2.size) hb3.size) hb4.size)))

end Go.Proofs.YtjjggdcnpndgjaaGreatDoor

namespace Go.Proofs.YtjjggdcnpndgjaaGreatDoor
open Go.RowKit

theorem scan_mem (s : ByteArray) : ∀ (f a : Nat) (x : Nat × List ByteArray), x ∈ (scan s f a).1 → (∃ a', x.2 = wordsB (lineB s a').1) ∧ isLineB x.2 = true
  | 0, a, x, h => by simp [scan] at h
  | f + 1, a, x, h => by
    unfold scan at h
    split at h
    · split at h
      · simp at h
      · rename_i hb
        simp only [List.mem_cons] at h
        rcases h with h | h
        · subst h
          refine ⟨⟨a, rfl⟩, ?_⟩
          cases hq : isLineB (wordsB (lineB s a).1) with
          | true => rfl
          | false => exact absurd (.inr hq) hb
        · exact scan_mem s f _ x h
    · simp at h

theorem scan_len (s : ByteArray) : ∀ (f a : Nat), (scan s f a).1.length ≤ s.size - a
  | 0, a => by simp [scan]
  | f + 1, a => by
    unfold scan
    split
    · split
      · simp
      · rename_i h1 hb
        have h0 : ¬ (lineB s a).2 = 0 := fun e => hb (.inl e)
        have h2 := lineB_next_gt h0
        have h3 := scan_len s f (lineB s a).2.toNat
        simp only [List.length_cons]
        omega
    · simp

theorem line_shape {l : List ByteArray} (h : isLineB l = true) (h1 : ¬ l.length = 1) :
    (shapeOf l = 0 ∧ l.length = 4 ∧ tokB (nth l 1) = true) ∨ (shapeOf l = 1 ∧ l.length = 4 ∧ tokB (nth l 1) = true ∧ tokB (nth l 2) = true) ∨ (shapeOf l = 2 ∧ 3 ≤ l.length ∧ nameB (nth l 1) = true ∧ (l.drop 3).all partB = true) := by
  unfold isLineB at h
  rw [if_neg h1] at h
  unfold shapeOf
  cases ht : ((nth l 0).toList == [116, 111, 107, 101, 110])
  · cases hw : ((nth l 0).toList == [115, 119, 97, 112])
    · cases hr : ((nth l 0).toList == [114, 117, 108, 101])
      · rw [ht, hw, hr] at h; simp at h
      · rw [ht, hw, hr] at h
        simp only [Bool.false_eq_true, if_false, if_true, ruleLineB, headB, Bool.and_eq_true, decide_eq_true_eq] at h
        exact .inr (.inr ⟨rfl, h.1.1, h.1.2.1, h.2⟩)
    · rw [ht, hw] at h
      simp only [Bool.false_eq_true, if_false, if_true, swapLineB, Bool.and_eq_true, decide_eq_true_eq] at h
      exact .inr (.inl ⟨rfl, h.1, h.2.1, h.2.2.1⟩)
  · rw [ht] at h
    simp only [if_true, tokLineB, Bool.and_eq_true, decide_eq_true_eq] at h
    exact .inl ⟨rfl, h.1, h.2.1⟩

theorem nth_of_mem {l : List ByteArray} {u : ByteArray} (h : u ∈ l) : ∃ j, u = nth l j := by
  obtain ⟨j, hj, rfl⟩ := List.mem_iff_getElem.1 h
  exact ⟨j, by unfold nth; simp [List.getElem?_eq_getElem hj]⟩

theorem lines_ok (s : ByteArray) (hs : s.size ≤ 4000) : LinesOk (progL (scanA s 0).1) := by
  have key : ∀ y ∈ progL (scanA s 0).1, (∃ a', y.2.2 = wordsB (lineB s a').1) ∧ isLineB y.2.2 = true ∧ ¬ y.2.2.length = 1 ∧ y.2.1 = shapeOf y.2.2 := by
    intro y hy
    unfold progL at hy
    rw [List.mem_map] at hy
    obtain ⟨x, hx, rfl⟩ := hy
    rw [List.mem_filter] at hx
    have h1 := scan_mem s _ _ x hx.1
    exact ⟨h1.1, h1.2, of_decide_eq_true hx.2, rfl⟩
  have hsz : ∀ y ∈ progL (scanA s 0).1, ∀ j, (nth y.2.2 j).size ≤ 4000 := by
    intro y hy j
    obtain ⟨a', ha⟩ := (key y hy).1
    rw [ha]
    exact Nat.le_trans (Nat.le_trans (wordsB_size _ j) (lineB_size s a')) hs
  have hmem : ∀ y ∈ progL (scanA s 0).1, ∀ u ∈ y.2.2, u.size ≤ 4000 := by
    intro y hy u hu
    obtain ⟨j, rfl⟩ := nth_of_mem hu
    exact hsz y hy j
  refine ⟨?_, fun y hy => ?_, fun y hy => ?_, fun y hy => ?_, fun y hy u hu => ?_⟩
  · unfold progL
    rw [List.length_map]
    refine Nat.le_trans (List.length_filter_le _ _) ?_
    have := scan_len s (s.size - 0) 0
    unfold scanA
    omega
  · obtain ⟨⟨a', ha⟩, h2, h3, h4⟩ := key y hy
    have h5 := wordsB_len (lineB s a').1
    have h6 := lineB_size s a'
    rw [← ha] at h5
    refine ⟨?_, by omega⟩
    rcases line_shape h2 h3 with h | h | h
    · omega
    · omega
    · exact h.2.1
  · obtain ⟨_, h2, h3, h4⟩ := key y hy
    rcases line_shape h2 h3 with h | h | h <;> omega
  · unfold givesB
    split
    · exact Nat.zero_le _
    · exact hsz y hy 1
  · unfold usesB at hu
    split at hu
    · simp at hu
      rcases hu with rfl | rfl
      · exact hsz y hy 1
      · exact hsz y hy 2
    · split at hu
      · rw [rules_flat, List.mem_filter] at hu
        exact hmem y hy u (List.mem_of_mem_drop hu.1)
      · simp at hu

end Go.Proofs.YtjjggdcnpndgjaaGreatDoor

namespace Go.Proofs.YtjjggdcnpndgjaaGreatDoor
open Go.RowKit

theorem longB_snoc (rs : List (List ByteArray)) (r : List ByteArray) : longB (rs ++ [r]) = max (longB rs) r.length := by
  unfold longB
  rw [List.foldl_append]; rfl

theorem rst_fold (R : List (ByteArray × List ByteArray)) (nm : ByteArray) : ∀ (l : List ByteArray) (done : List (List ByteArray)) (cur : List ByteArray),
    l.foldl (rstep nm) (R ++ done.map (fun r => (nm, r)), cur, decide (8 < longB (done ++ [cur]))) =
      (R ++ (l.foldl pstep (done, cur)).1.map (fun r => (nm, r)), (l.foldl pstep (done, cur)).2, decide (8 < longB ((l.foldl pstep (done, cur)).1 ++ [(l.foldl pstep (done, cur)).2])))
  | [], done, cur => rfl
  | x :: l, done, cur => by
    rw [List.foldl_cons, List.foldl_cons]
    by_cases hb : barB x = true
    · have e1 : rstep nm (R ++ done.map (fun r => (nm, r)), cur, decide (8 < longB (done ++ [cur]))) x = (R ++ (done ++ [cur]).map (fun r => (nm, r)), [], decide (8 < longB (done ++ [cur] ++ [[]]))) := by
        unfold rstep
        rw [if_pos hb, longB_snoc (done ++ [cur]) []]
        simp
      have e2 : pstep (done, cur) x = (done ++ [cur], []) := by unfold pstep; rw [if_pos hb]
      rw [e1, e2]
      exact rst_fold R nm l (done ++ [cur]) []
    · have e1 : rstep nm (R ++ done.map (fun r => (nm, r)), cur, decide (8 < longB (done ++ [cur]))) x = (R ++ done.map (fun r => (nm, r)), cur ++ [x], decide (8 < longB (done ++ [cur ++ [x]]))) := by
        unfold rstep
        rw [if_neg hb, longB_snoc, longB_snoc]
        simp only [Prod.mk.injEq, true_and]
        rw [Bool.eq_iff_iff]
        simp only [Bool.or_eq_true, decide_eq_true_eq, List.length_append, List.length_cons, List.length_nil]
        omega
      have e2 : pstep (done, cur) x = (done, cur ++ [x]) := by unfold pstep; rw [if_neg hb]
      rw [e1, e2]
      exact rst_fold R nm l done (cur ++ [x])

/-- The reference's rules of a line are the program's. -/
theorem rst_rules (R : List (ByteArray × List ByteArray)) (nm : ByteArray) (l : List ByteArray) :
    (rst R nm (l.drop 3)).1 ++ [(nm, (rst R nm (l.drop 3)).2.1)] = R ++ (rulesL l).map (fun r => (nm, r)) ∧ (rst R nm (l.drop 3)).2.2 = decide (8 < longB (rulesL l)) := by
  have h := rst_fold R nm (l.drop 3) [] []
  have h0 : decide (8 < longB (([] : List (List ByteArray)) ++ [[]])) = false := rfl
  rw [h0] at h
  simp only [List.map_nil, List.append_nil] at h
  unfold rst rulesL pst
  rw [h]
  exact ⟨by simp, rfl⟩

theorem cnt_pos (ws : List ByteArray) (u : ByteArray) : (0 < cnt ws u) ↔ (ws.any fun x => x.toList == u.toList) = true := by
  unfold cnt
  rw [List.length_pos_iff_exists_mem, List.any_eq_true]
  constructor
  · rintro ⟨y, hy⟩
    rw [List.mem_filter] at hy
    exact ⟨y, hy.1, by rw [ByteArray.toList_eq, ByteArray.toList_eq]; exact beq_iff_eq.2 (of_decide_eq_true hy.2)⟩
  · rintro ⟨y, hy, h⟩
    rw [ByteArray.toList_eq, ByteArray.toList_eq, beq_iff_eq] at h
    exact ⟨y, List.mem_filter.2 ⟨hy, decide_eq_true h⟩⟩

/-- A token is no name. -/
theorem tok_not_name {u v : ByteArray} (hu : tokB u = true) (hv : nameB v = true) : (v.toList == u.toList) = false := by
  rw [ByteArray.toList_eq, ByteArray.toList_eq, beq_eq_false_iff_ne]
  intro e
  unfold tokB madeB at hu
  unfold nameB madeB at hv
  rw [e] at hv
  simp only [Bool.and_eq_true, decide_eq_true_eq] at hu hv
  obtain ⟨x, hx⟩ := List.exists_mem_of_length_pos (show 0 < u.data.toList.length by omega)
  have h1 := hu.2.2
  have h2 := hv.2.2
  unfold allIn at h1 h2
  rw [List.all_eq_true] at h1 h2
  have h3 := h1 x hx
  have h4 := h2 x hx
  simp only [Bool.and_eq_true, decide_eq_true_eq] at h3 h4
  omega

theorem made_ne {u : ByteArray} {lo hi n : Int} (h : madeB u.data.toList lo hi n = true) : u.toList.isEmpty = false := by
  rw [ByteArray.toList_eq]
  unfold madeB at h
  simp only [Bool.and_eq_true, decide_eq_true_eq] at h
  cases hl : u.data.toList with
  | nil => rw [hl] at h; simp at h
  | cons x r => rfl

end Go.Proofs.YtjjggdcnpndgjaaGreatDoor

namespace Go.Proofs.YtjjggdcnpndgjaaGreatDoor
open Go.RowKit

/-- What the reference's grammar and the program's counts have in common. -/
structure Inv (G : Gr) (ws : List ByteArray) (t n r : Nat) : Prop where
  has : ∀ u, (hasTok G.toks u = true ∨ hasNam G.names u = true) ↔ 0 < cnt ws u
  low : ∀ x ∈ G.toks, tokB x.1 = true
  upp : ∀ x ∈ G.names, nameB x = true
  nt : G.toks.length = t
  nn : G.names.length = n
  nr : G.rules.length = r

theorem cnt_add (ws : List ByteArray) (w u : ByteArray) : 0 < cnt (ws ++ [w]) u ↔ (0 < cnt ws u ∨ (w.toList == u.toList) = true) := by
  rw [cnt_pos, cnt_pos, List.any_append, Bool.or_eq_true]
  simp

theorem hasTok_add (T : List (ByteArray × Int × Int)) (x : ByteArray × Int × Int) (u : ByteArray) : hasTok (T ++ [x]) u = true ↔ (hasTok T u = true ∨ (x.1.toList == u.toList) = true) := by
  unfold hasTok
  rw [List.any_append, Bool.or_eq_true]
  simp

theorem hasNam_add (T : List ByteArray) (x : ByteArray) (u : ByteArray) : hasNam (T ++ [x]) u = true ↔ (hasNam T u = true ∨ (x.toList == u.toList) = true) := by
  unfold hasNam
  rw [List.any_append, Bool.or_eq_true]
  simp

theorem Inv.no_name {G : Gr} {ws : List ByteArray} {t n r : Nat} (h : Inv G ws t n r) {u : ByteArray} (hu : tokB u = true) : hasNam G.names u = false := by
  unfold hasNam
  rw [List.any_eq_false]
  intro x hx
  rw [tok_not_name hu (h.upp x hx)]
  decide

theorem Inv.no_tok {G : Gr} {ws : List ByteArray} {t n r : Nat} (h : Inv G ws t n r) {u : ByteArray} (hu : nameB u = true) : hasTok G.toks u = false := by
  unfold hasTok
  rw [List.any_eq_false]
  intro x hx
  have h1 := tok_not_name (h.low x hx) hu
  rw [beq_eq_false_iff_ne] at h1
  simp only [beq_iff_eq]
  exact fun e => h1 e.symm

theorem step_tok {G : Gr} {ws : List ByteArray} {t n r : Nat} (h : Inv G ws t n r) {l : List ByteArray} (h0 : ((nth l 0).toList == [116, 111, 107, 101, 110]) = true) (ht : tokB (nth l 1) = true) :
    (0 < cnt ws (nth l 1) ∧ (giveB G l).2 = 3) ∨
    (¬ 0 < cnt ws (nth l 1) ∧ Inv (giveB G l).1 (ws ++ [nth l 1]) (t + 1) n r ∧ (giveB G l).2 = if 20 < t + 1 ∨ 20 < n ∨ 60 < r ∨ 8 < 0 then 4 else 0) := by
  unfold giveB
  rw [if_pos h0]
  have hno := h.no_name ht
  cases hq : hasTok G.toks (nth l 1)
  · right
    have hc : ¬ 0 < cnt ws (nth l 1) := by
      rw [← h.has, hq, hno]; simp
    refine ⟨hc, ?_, ?_⟩
    · rw [if_neg (by simp)]
      refine ⟨fun u => ?_, fun x hx => ?_, h.upp, by simp [h.nt], h.nn, h.nr⟩
      · rw [cnt_add, ← h.has, hasTok_add]
        constructor
        · rintro ((h1 | h1) | h1)
          · exact .inl (.inl h1)
          · exact .inr h1
          · exact .inl (.inr h1)
        · rintro ((h1 | h1) | h1)
          · exact .inl (.inl h1)
          · exact .inr h1
          · exact .inl (.inr h1)
      · rw [List.mem_append] at hx
        rcases hx with hx | hx
        · exact h.low x hx
        · simp at hx; subst hx; exact ht
    · rw [if_neg (by simp)]
      unfold totI
      simp only [List.length_append, List.length_cons, List.length_nil, h.nt, h.nn, h.nr, Bool.false_eq_true, if_false]
      by_cases hx : 20 < t + 1 ∨ 20 < n ∨ 60 < r
      · rw [if_pos (by omega), if_pos (by omega)]
      · rw [if_neg (by omega), if_neg (by omega)]
  · left
    exact ⟨(h.has _).1 (.inl hq), by rw [if_pos rfl]⟩

theorem step_swap {G : Gr} {ws : List ByteArray} {t n r : Nat} (h : Inv G ws t n r) {l : List ByteArray} (h0 : ((nth l 0).toList == [116, 111, 107, 101, 110]) = false) (hw : ((nth l 0).toList == [115, 119, 97, 112]) = true) :
    Inv (giveB G l).1 ws t n r ∧ (giveB G l).2 = if 20 < t ∨ 20 < n ∨ 60 < r ∨ 8 < 0 then 4 else 0 := by
  unfold giveB
  rw [if_neg (by simp [h0]), if_pos hw]
  refine ⟨⟨h.has, h.low, h.upp, h.nt, h.nn, h.nr⟩, ?_⟩
  unfold totI
  simp only [h.nt, h.nn, h.nr, Bool.false_eq_true, if_false]
  by_cases hx : 20 < t ∨ 20 < n ∨ 60 < r
  · rw [if_pos hx, if_pos (by omega)]
  · rw [if_neg hx, if_neg (by omega)]

theorem step_rule {G : Gr} {ws : List ByteArray} {t n r : Nat} (h : Inv G ws t n r) {l : List ByteArray} (h0 : ((nth l 0).toList == [116, 111, 107, 101, 110]) = false) (hw : ((nth l 0).toList == [115, 119, 97, 112]) = false)
    (hr : ((nth l 0).toList == [114, 117, 108, 101]) = true) (ht : nameB (nth l 1) = true) :
    (0 < cnt ws (nth l 1) ∧ (giveB G l).2 = 3) ∨
    (¬ 0 < cnt ws (nth l 1) ∧ Inv (giveB G l).1 (ws ++ [nth l 1]) t (n + 1) (r + (rulesL l).length) ∧ (giveB G l).2 = if 20 < t ∨ 20 < n + 1 ∨ 60 < r + (rulesL l).length ∨ 8 < longB (rulesL l) then 4 else 0) := by
  have hR := rst_rules G.rules (nth l 1) l
  unfold giveB
  rw [if_neg (by simp [h0]), if_neg (by simp [hw]), if_pos hr]
  have hno := h.no_tok ht
  cases hq : hasNam G.names (nth l 1)
  · right
    have hc : ¬ 0 < cnt ws (nth l 1) := by
      rw [← h.has, hq, hno]; simp
    refine ⟨hc, ?_, ?_⟩
    · rw [if_neg (by simp)]
      refine ⟨fun u => ?_, h.low, fun x hx => ?_, h.nt, by simp [h.nn], ?_⟩
      · rw [cnt_add, ← h.has, hasNam_add]
        constructor
        · rintro (h1 | (h1 | h1))
          · exact .inl (.inl h1)
          · exact .inl (.inr h1)
          · exact .inr h1
        · rintro ((h1 | h1) | h1)
          · exact .inl h1
          · exact .inr (.inl h1)
          · exact .inr (.inr h1)
      · rw [List.mem_append] at hx
        rcases hx with hx | hx
        · exact h.upp x hx
        · simp at hx; subst hx; exact ht
      · show ((rst G.rules (nth l 1) (l.drop 3)).1 ++ [(nth l 1, (rst G.rules (nth l 1) (l.drop 3)).2.1)]).length = _
        rw [hR.1]; simp [h.nr]
    · rw [if_neg (by simp)]
      unfold totI
      rw [hR.2]
      simp only [hR.1]
      simp only [List.length_append, List.length_cons, List.length_nil, List.length_map, h.nt, h.nn, h.nr]
      by_cases hx : 20 < t ∨ 20 < n + 1 ∨ 60 < r + (rulesL l).length
      · rw [if_pos (by omega), if_pos (by omega)]
      · rw [if_neg (by omega)]
        by_cases hy : 8 < longB (rulesL l)
        · rw [if_pos (decide_eq_true hy), if_pos (by omega)]
        · rw [if_neg (by simp [hy]), if_neg (by omega)]
  · left
    exact ⟨(h.has _).1 (.inr hq), by rw [if_pos rfl]⟩

theorem step_empty {G : Gr} {ws : List ByteArray} {t n r : Nat} (h : Inv G ws t n r) {l : List ByteArray} (hl : isLineB l = true) (h1 : l.length = 1) :
    (giveB G l).1 = G ∧ (giveB G l).2 = if 20 < t ∨ 20 < n ∨ 60 < r then 4 else 0 := by
  unfold isLineB at hl
  rw [if_pos h1] at hl
  have e : (nth l 0).toList = [] := by simpa using hl
  unfold giveB
  rw [e]
  rw [if_neg (by decide), if_neg (by decide), if_neg (by decide)]
  refine ⟨rfl, ?_⟩
  unfold totI
  simp only [h.nt, h.nn, h.nr, Bool.false_eq_true, if_false]

end Go.Proofs.YtjjggdcnpndgjaaGreatDoor

namespace Go.Proofs.YtjjggdcnpndgjaaGreatDoor
open Go.RowKit

def optI (o : Option Nat) : Int := match o with | some a => (a : Int) | none => -1
def cnt2 (P : List Ln) : Nat := (P.filter fun x => x.2.1 == 2).length

theorem many_step {m : Int} {a t n r lg : Nat} (M : Option Nat) (hm : m = -1 ∨ 0 ≤ m) :
    ((if (if 20 < t ∨ 20 < n ∨ 60 < r ∨ 8 < lg then (4 : Int) else 0) = 4 ∧ m < 0 then (a : Int) else m) = -1 ∧ ¬ (20 < t ∨ 20 < n ∨ 60 < r) ∨ 0 ≤ (if (if 20 < t ∨ 20 < n ∨ 60 < r ∨ 8 < lg then (4 : Int) else 0) = 4 ∧ m < 0 then (a : Int) else m)) ∧
    (if 0 ≤ (if (if 20 < t ∨ 20 < n ∨ 60 < r ∨ 8 < lg then (4 : Int) else 0) = 4 ∧ m < 0 then (a : Int) else m) then (if (if 20 < t ∨ 20 < n ∨ 60 < r ∨ 8 < lg then (4 : Int) else 0) = 4 ∧ m < 0 then (a : Int) else m) else optI M) =
      if 0 ≤ m then m else optI (if 20 < t ∨ 20 < n ∨ 60 < r ∨ 8 < lg then some a else M) := by
  by_cases hC : 20 < t ∨ 20 < n ∨ 60 < r ∨ 8 < lg
  · simp only [if_pos hC]
    by_cases hm0 : m < 0
    · rw [if_pos (by simpa using hm0), if_neg (show ¬ 0 ≤ m by omega)]
      exact ⟨.inr (by omega), by rw [if_pos (by omega)]; rfl⟩
    · rw [if_neg (fun h => hm0 h.2)]
      exact ⟨.inr (by omega), by rw [if_pos (by omega), if_pos (by omega)]⟩
  · simp only [if_neg hC]
    rw [if_neg (fun h => absurd h.1 (by decide))]
    refine ⟨?_, rfl⟩
    rcases hm with h | h
    · exact .inl ⟨h, fun h' => hC (by omega)⟩
    · exact .inr h

theorem progL_cons_empty {x : Nat × List ByteArray} {ls : List (Nat × List ByteArray)} (h : x.2.length = 1) : progL (x :: ls) = progL ls := by
  unfold progL; simp [h]
theorem progL_cons {x : Nat × List ByteArray} {ls : List (Nat × List ByteArray)} (h : ¬ x.2.length = 1) : progL (x :: ls) = (x.1, shapeOf x.2, x.2) :: progL ls := by
  unfold progL; simp [h]

theorem givenB_cons (y : Ln) (P : List Ln) : givenB (y :: P) = (if (givesB y.2.1 y.2.2).toList.isEmpty then [] else [givesB y.2.1 y.2.2]) ++ givenB P := by
  unfold givenB
  rw [List.map_cons, List.filter_cons]
  cases (givesB y.2.1 y.2.2).toList.isEmpty <;> simp

theorem cnt2_cons (y : Ln) (P : List Ln) : cnt2 (y :: P) = (if y.2.1 = 2 then 1 else 0) + cnt2 P := by
  unfold cnt2
  rw [List.filter_cons]
  by_cases h : y.2.1 = 2
  · simp [h]; omega
  · simp [h]

theorem shape_head {l : List ByteArray} (h : isLineB l = true) (h1 : ¬ l.length = 1) {k : Nat} (hk : shapeOf l = k) :
    match k with
    | 0 => ((nth l 0).toList == [116, 111, 107, 101, 110]) = true
    | 1 => ((nth l 0).toList == [116, 111, 107, 101, 110]) = false ∧ ((nth l 0).toList == [115, 119, 97, 112]) = true
    | _ => ((nth l 0).toList == [116, 111, 107, 101, 110]) = false ∧ ((nth l 0).toList == [115, 119, 97, 112]) = false ∧ ((nth l 0).toList == [114, 117, 108, 101]) = true := by
  have key : (shapeOf l = 0 ∧ ((nth l 0).toList == [116, 111, 107, 101, 110]) = true) ∨ (shapeOf l = 1 ∧ ((nth l 0).toList == [116, 111, 107, 101, 110]) = false ∧ ((nth l 0).toList == [115, 119, 97, 112]) = true) ∨
      (shapeOf l = 2 ∧ ((nth l 0).toList == [116, 111, 107, 101, 110]) = false ∧ ((nth l 0).toList == [115, 119, 97, 112]) = false ∧ ((nth l 0).toList == [114, 117, 108, 101]) = true) := by
    unfold isLineB at h
    rw [if_neg h1] at h
    unfold shapeOf
    cases ht : ((nth l 0).toList == [116, 111, 107, 101, 110])
    · cases hw : ((nth l 0).toList == [115, 119, 97, 112])
      · cases hr : ((nth l 0).toList == [114, 117, 108, 101])
        · rw [ht, hw, hr] at h; simp at h
        · exact .inr (.inr ⟨rfl, rfl, rfl, rfl⟩)
      · exact .inr (.inl ⟨rfl, rfl, rfl⟩)
    · exact .inl ⟨rfl, rfl⟩
  rcases key with ⟨e, a⟩ | ⟨e, a⟩ | ⟨e, a⟩ <;> (rw [hk] at e; subst e; exact a)

/-- What a walk's end says. -/
def SameEnd (P : List Ln) (ws : List ByteArray) (t n r : Nat) (m : Int) (res : Gr × Int × Option Nat) : Prop :=
  (∀ a, res.2.2 = some a → twiceB P ws = some a) ∧
  (res.2.2 = none → twiceB P ws = none ∧ res.2.1 = (if 0 ≤ m then m else optI (manyB P t n r)) ∧ ∃ t' r', Inv res.1 (ws ++ givenB P) t' (n + cnt2 P) r')

/-- One line that is taken, and what its rest says. -/
theorem same_cons {x : Nat × List ByteArray} {P : List Ln} {ls : List (Nat × List ByteArray)} {G G1 : Gr} {m : Int} {t n r t1 n1 r1 lg : Nat} {ws ws1 : List ByteArray} {y : Ln} (hm : m = -1 ∨ 0 ≤ m) (hg : giveB G x.2 = (G1, if 20 < t1 ∨ 20 < n1 ∨ 60 < r1 ∨ 8 < lg then 4 else 0))
    (hwl : ws1 = ws ++ (if (givesB y.2.1 y.2.2).toList.isEmpty then [] else [givesB y.2.1 y.2.2])) (hn1 : n1 = n + if y.2.1 = 2 then 1 else 0)
    (htw : twiceB (y :: P) ws = twiceB P ws1) (hmn : manyB (y :: P) t n r = if 20 < t1 ∨ 20 < n1 ∨ 60 < r1 ∨ 8 < lg then some x.1 else manyB P t1 n1 r1)
    (ih : ∀ m1 : Int, (m1 = -1 ∧ ¬ (20 < t1 ∨ 20 < n1 ∨ 60 < r1) ∨ 0 ≤ m1) → SameEnd P ws1 t1 n1 r1 m1 (pass2 ls G1 m1)) : SameEnd (y :: P) ws t n r m (pass2 (x :: ls) G m) := by
  have hs := many_step (a := x.1) (t := t1) (n := n1) (r := r1) (lg := lg) (manyB P t1 n1 r1) hm
  have e3 : ¬ (if 20 < t1 ∨ 20 < n1 ∨ 60 < r1 ∨ 8 < lg then (4 : Int) else 0) = 3 := by split <;> decide
  have ep : pass2 (x :: ls) G m = pass2 ls G1 (if (if 20 < t1 ∨ 20 < n1 ∨ 60 < r1 ∨ 8 < lg then (4 : Int) else 0) = 4 ∧ m < 0 then (x.1 : Int) else m) := by
    rw [pass2, hg, if_neg e3]
  have h := ih _ hs.1
  rw [← ep] at h
  refine ⟨fun a ha => by rw [htw]; exact h.1 a ha, fun ho => ?_⟩
  obtain ⟨h1, h2, t', r', h3⟩ := h.2 ho
  refine ⟨by rw [htw]; exact h1, ?_, t', r', ?_⟩
  · rw [h2, hs.2, hmn]
  · rw [givenB_cons, cnt2_cons, ← List.append_assoc, ← hwl, ← Nat.add_assoc, ← hn1]
    exact h3

theorem pass_same : ∀ (ls : List (Nat × List ByteArray)) (G : Gr) (m : Int) (t n r : Nat) (ws : List ByteArray), (∀ x ∈ ls, isLineB x.2 = true) → Inv G ws t n r → (m = -1 ∧ ¬ (20 < t ∨ 20 < n ∨ 60 < r) ∨ 0 ≤ m) →
    SameEnd (progL ls) ws t n r m (pass2 ls G m)
  | [], G, m, t, n, r, ws, _, hI, hm => by
    refine ⟨fun a h => (by cases h), fun _ => ⟨rfl, ?_, t, r, by simpa [progL, givenB, cnt2, pass2] using hI⟩⟩
    rcases hm with h | h
    · rw [if_neg (by omega)]; exact h.1
    · rw [if_pos h]; rfl
  | x :: ls, G, m, t, n, r, ws, hall, hI, hm => by
    have hx := hall x (by simp)
    have hrest : ∀ y ∈ ls, isLineB y.2 = true := fun y hy => hall y (by simp [hy])
    have hm' : m = -1 ∨ 0 ≤ m := hm.imp (fun h => h.1) id
    by_cases h1 : x.2.length = 1
    · have hs := step_empty hI hx h1
      rw [progL_cons_empty h1]
      have e3 : ¬ (giveB G x.2).2 = 3 := by rw [hs.2]; split <;> decide
      have em : (if (giveB G x.2).2 = 4 ∧ m < 0 then (x.1 : Int) else m) = m := by
        rcases hm with h | h
        · rw [hs.2, if_neg h.2, if_neg (fun h' => absurd h'.1 (by decide))]
        · rw [if_neg (fun h' => by omega)]
      have ep : pass2 (x :: ls) G m = pass2 ls G m := by
        rw [pass2, if_neg e3, em, hs.1]
      rw [ep]
      exact pass_same ls G m t n r ws hrest hI hm
    · rw [progL_cons h1]
      rcases line_shape hx h1 with ⟨hsh, hlen, htk⟩ | ⟨hsh, hlen, htk, _⟩ | ⟨hsh, hlen, hnm, _⟩
      · have hne : (nth x.2 1).toList.isEmpty = false := made_ne htk
        have h0 := shape_head hx h1 hsh
        have hgv : givesB 0 x.2 = nth x.2 1 := rfl
        rw [hsh]
        rcases step_tok hI h0 htk with ⟨hc, h3⟩ | ⟨hc, hI2, h4⟩
        · have ep : pass2 (x :: ls) G m = (G, m, some x.1) := by rw [pass2, if_pos h3]
          rw [ep]
          refine ⟨fun a ha => ?_, fun h => (by cases h)⟩
          rw [twiceB, if_neg (by rw [hgv, hne]; decide), if_pos (by rw [hgv]; exact hc)]
          exact ha
        · exact same_cons (lg := 0) hm' (Prod.ext rfl h4) (by rw [hgv, if_neg (by rw [hne]; decide)]) rfl
            (by rw [twiceB, if_neg (by rw [hgv, hne]; decide), if_neg (by rw [hgv]; exact hc)]; rfl) rfl (fun m1 h => pass_same ls _ m1 _ _ _ _ hrest hI2 h)
      · have h0 := shape_head hx h1 hsh
        have hgv : givesB 1 x.2 = ByteArray.empty := rfl
        have hemp : ByteArray.empty.toList.isEmpty = true := by rw [ByteArray.toList_eq]; rfl
        rw [hsh]
        have hs := step_swap hI h0.1 h0.2
        exact same_cons (lg := 0) hm' (Prod.ext rfl hs.2) (by rw [hgv, if_pos hemp, List.append_nil]) rfl
          (by rw [twiceB, if_pos (by rw [hgv]; exact hemp)]) rfl (fun m1 h => pass_same ls _ m1 _ _ _ _ hrest hs.1 h)
      · have hne : (nth x.2 1).toList.isEmpty = false := made_ne hnm
        have h0 := shape_head hx h1 hsh
        have hgv : givesB 2 x.2 = nth x.2 1 := rfl
        rw [hsh]
        rcases step_rule hI h0.1 h0.2.1 h0.2.2 hnm with ⟨hc, h3⟩ | ⟨hc, hI2, h4⟩
        · have ep : pass2 (x :: ls) G m = (G, m, some x.1) := by rw [pass2, if_pos h3]
          rw [ep]
          refine ⟨fun a ha => ?_, fun h => (by cases h)⟩
          rw [twiceB, if_neg (by rw [hgv, hne]; decide), if_pos (by rw [hgv]; exact hc)]
          exact ha
        · exact same_cons (lg := longB (rulesL x.2)) hm' (Prod.ext rfl h4) (by rw [hgv, if_neg (by rw [hne]; decide)]) rfl
            (by rw [twiceB, if_neg (by rw [hgv, hne]; decide), if_neg (by rw [hgv]; exact hc)]; rfl) rfl (fun m1 h => pass_same ls _ m1 _ _ _ _ hrest hI2 h)

end Go.Proofs.YtjjggdcnpndgjaaGreatDoor

namespace Go.Proofs.YtjjggdcnpndgjaaGreatDoor
open Go.RowKit

theorem Inv.cnt0 {G : Gr} {ws : List ByteArray} {t n r : Nat} (h : Inv G ws t n r) (u : ByteArray) : (cnt ws u == 0) = (!hasTok G.toks u && !hasNam G.names u) := by
  rw [Bool.eq_iff_iff]
  have := h.has u
  simp only [beq_iff_eq, Bool.and_eq_true, Bool.not_eq_true']
  constructor
  · intro h0
    constructor
    · cases hq : hasTok G.toks u
      · rfl
      · have := this.1 (.inl hq); omega
    · cases hq : hasNam G.names u
      · rfl
      · have := this.1 (.inr hq); omega
  · rintro ⟨h1, h2⟩
    cases hc : cnt ws u with
    | zero => rfl
    | succ k =>
      have := this.2 (by omega)
      rw [h1, h2] at this
      simp at this

theorem tok_cnt0 {G : Gr} {ws : List ByteArray} {t n r : Nat} (h : Inv G ws t n r) {u : ByteArray} (hu : tokB u = true) : (cnt ws u == 0) = !hasTok G.toks u := by
  rw [h.cnt0, h.no_name hu]; simp

theorem line_unk {G : Gr} {ws : List ByteArray} {t n r : Nat} (h : Inv G ws t n r) {a : Nat} {l : List ByteArray} (hl : isLineB l = true) (h1 : ¬ l.length = 1) :
    lineUnk ws (a, shapeOf l, l) = unknownB G l := by
  rcases line_shape hl h1 with ⟨hsh, _, _⟩ | ⟨hsh, _, ht1, ht2⟩ | ⟨hsh, _, _, _⟩
  · have h0 := shape_head hl h1 hsh
    have e : (nth l 0).toList = [116, 111, 107, 101, 110] := by simpa using h0
    unfold lineUnk unknownB usesB
    simp only [hsh, e]
    rfl
  · have h0 := shape_head hl h1 hsh
    unfold lineUnk unknownB usesB
    rw [if_pos h0.2]
    simp only [hsh]
    simp only [beq_self_eq_true, Bool.true_and, if_true, List.any_cons, List.any_nil, Bool.or_false]
    rw [tok_cnt0 h ht1, tok_cnt0 h ht2]
    generalize hasTok G.toks (nth l 1) = b1
    generalize hasTok G.toks (nth l 2) = b2
    generalize ((nth l 1).toList == (nth l 2).toList) = b3
    revert b1 b2 b3; decide
  · have h0 := shape_head hl h1 hsh
    have eR : unknownB G l = (l.drop 3).any (unkB G) := by
      unfold unknownB
      rw [if_neg (by rw [h0.2.1]; decide), if_pos h0.2.2]
    have eL : lineUnk ws (a, shapeOf l, l) = ((l.drop 3).filter fun x => !barB x).any fun u => cnt ws u == 0 := by
      unfold lineUnk usesB
      rw [hsh, ← rules_flat]
      rfl
    rw [eL, eR, List.any_filter]
    congr 1
    funext x
    unfold unkB
    rw [h.cnt0]

theorem empty_known {G : Gr} {l : List ByteArray} (hl : isLineB l = true) (h1 : l.length = 1) : unknownB G l = false := by
  unfold isLineB at hl
  rw [if_pos h1] at hl
  have e : (nth l 0).toList = [] := by simpa using hl
  unfold unknownB
  rw [e]
  rfl

theorem find_same {G : Gr} {ws : List ByteArray} {t n r : Nat} (h : Inv G ws t n r) : ∀ (ls : List (Nat × List ByteArray)), (∀ x ∈ ls, isLineB x.2 = true) →
    unkL ws (progL ls) = (ls.find? fun x => unknownB G x.2).map (·.1)
  | [], _ => rfl
  | x :: ls, hall => by
    have hx := hall x (by simp)
    have ih := find_same h ls (fun y hy => hall y (by simp [hy]))
    by_cases h1 : x.2.length = 1
    · rw [progL_cons_empty h1, ih, List.find?_cons_of_neg (by rw [empty_known hx h1]; decide)]
    · rw [progL_cons h1]
      have e := line_unk h (a := x.1) hx h1
      unfold unkL
      rw [e]
      cases hq : unknownB G x.2
      · rw [if_neg (by decide), ih, List.find?_cons_of_neg (by rw [hq]; decide)]
      · rw [if_pos rfl, List.find?_cons_of_pos (p := fun y => unknownB G y.2) (a := x) hq]; rfl

theorem cnt2_any (P : List Ln) : (P.any fun x => x.2.1 == 2) = decide (¬ cnt2 P = 0) := by
  unfold cnt2
  rw [Bool.eq_iff_iff, List.any_eq_true, decide_eq_true_eq]
  constructor
  · rintro ⟨x, hx, h⟩ h0
    rw [List.length_eq_zero_iff, List.filter_eq_nil_iff] at h0
    exact h0 x hx h
  · intro h0
    have : 0 < (P.filter fun x => x.2.1 == 2).length := by omega
    obtain ⟨x, hx⟩ := List.length_pos_iff_exists_mem.1 this
    rw [List.mem_filter] at hx
    exact ⟨x, hx.1, hx.2⟩

theorem prog_same (s : ByteArray) : progB s = ((readB s).1, (readB s).2.1) := by
  unfold progB readB
  by_cases h1 : 4000 < s.size
  · rw [if_pos h1, if_pos h1]
  · rw [if_neg h1, if_neg h1]
    by_cases h2 : (scanA s 0).2 < s.size
    · rw [if_pos h2, if_pos h2]
    · rw [if_neg h2, if_neg h2]
      have hall : ∀ x ∈ (scanA s 0).1, isLineB x.2 = true := fun x hx => (scan_mem s _ _ x hx).2
      have hI : Inv G0 [] 0 0 0 := ⟨fun u => by simp [hasTok, hasNam, G0, cnt], fun x hx => by simp [G0] at hx, fun x hx => by simp [G0] at hx, rfl, rfl, rfl⟩
      have hS := pass_same (scanA s 0).1 G0 (-1) 0 0 0 [] hall hI (.inl ⟨rfl, by omega⟩)
      rcases hp : pass2 (scanA s 0).1 G0 (-1) with ⟨G, m, o⟩
      rw [hp] at hS
      cases o with
      | some a => rw [hS.1 a rfl]
      | none =>
        obtain ⟨ht, hm, t', r', hI'⟩ := hS.2 rfl
        simp only [List.nil_append, Nat.zero_add] at hI' hm
        rw [if_neg (by decide)] at hm
        rw [ht]
        cases hM : manyB (progL (scanA s 0).1) 0 0 0 with
        | some a =>
          rw [hM] at hm
          have hm' : m = (a : Int) := hm
          simp only [hm']
          rw [if_pos (by omega)]
        | none =>
          rw [hM] at hm
          have hm' : m = -1 := hm
          simp only [hm']
          have e0 : ¬ (0 : Int) ≤ -1 := by decide
          rw [if_neg e0, cnt2_any]
          have hn := hI'.nn
          by_cases h0 : cnt2 (progL (scanA s 0).1) = 0
          · rw [if_pos (show G.names.length = 0 by omega), if_neg (show ¬ decide (¬ cnt2 (progL (scanA s 0).1) = 0) = true by simp [h0])]
          · rw [if_neg (show ¬ G.names.length = 0 by omega), if_pos (show decide (¬ cnt2 (progL (scanA s 0).1) = 0) = true by simp [h0])]
            rw [find_same hI' _ hall]
            cases hf : (scanA s 0).1.find? fun x => unknownB G x.2 <;> rfl

end Go.Proofs.YtjjggdcnpndgjaaGreatDoor
