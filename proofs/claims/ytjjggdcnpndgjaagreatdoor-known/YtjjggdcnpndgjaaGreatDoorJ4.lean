/- source.readLines: the lines of a text, up to the first that is none. (line).gives: the token or the name that a line gives. The rules of a line, as the program lays them: a row of rows of words. (line).rules: the lists of parts of a rule line. (line).uses: what a line uses. -/
import Derived.Test.YtjjggdcnpndgjaaGreatDoorJ3
import Derived.Test.YtjjggdcnpndgjaaGreatDoorShelf
import Derived.Test.YtjjggdcnpndgjaaGreatDoorJ1
import Derived.Test.YtjjggdcnpndgjaaGreatDoorJ2
import Derived.Deep.LoopGhost
import Derived.Deep.QuietTactic
import Derived.BigQuiet
import Derived.Laws.AppendOwnNone
namespace Go.Proofs.YtjjggdcnpndgjaaGreatDoor
open Go.RowKit

theorem Tryz.info325 : (Tryz.prog.info? 325).map (fun i => (i.zero, i.size, i.bytes)) = some (some (.agg #[.int .i64 0, .int .i64 0, .slice none 0 0]), 3, 40) := by kernel_rfl

def shWord (j : Nat) : ByteArray := if j = 0 then ⟨#[116, 111, 107, 101, 110]⟩ else if j = 1 then ⟨#[115, 119, 97, 112]⟩ else ⟨#[114, 117, 108, 101]⟩
def shK (j i : Nat) : Int := if j = 0 then (if i = 0 then 1 else 3) else if j = 1 then (if i = 2 then 3 else 1) else (if i = 0 then 2 else if i = 1 then 4 else 5)
def lineK (j : Nat) (l : List ByteArray) : Bool := if j = 0 then tokLineB l else if j = 1 then swapLineB l else ruleLineB l

theorem shWord_eq (j : Nat) (x : ByteArray) : (x.toList == (shWord j).toList) = (if j = 0 then x.toList == [116, 111, 107, 101, 110] else if j = 1 then x.toList == [115, 119, 97, 112] else x.toList == [114, 117, 108, 101]) := by
  unfold shWord
  by_cases h0 : j = 0
  · rw [if_pos h0, if_pos h0, ByteArray.toList_eq ⟨#[116, 111, 107, 101, 110]⟩]
  by_cases h1 : j = 1
  · rw [if_neg h0, if_neg h0, if_pos h1, if_pos h1, ByteArray.toList_eq ⟨#[115, 119, 97, 112]⟩]
  · rw [if_neg h0, if_neg h0, if_neg h1, if_neg h1, ByteArray.toList_eq ⟨#[114, 117, 108, 101]⟩]

theorem shapeFits_eq (j : Nat) (l : List ByteArray) : shapeFits j l = (((nth l 0).toList == (shWord j).toList) && lineK j l) := by
  rw [shWord_eq]
  unfold shapeFits lineK
  by_cases h0 : j = 0
  · simp only [if_pos h0]
  by_cases h1 : j = 1
  · simp only [if_neg h0, if_pos h1]
  · simp only [if_neg h0, if_neg h1]

theorem fits_at (j : Nat) (hj : j < 3) (l : List ByteArray) (ad : Option Addr) (g n cap : Nat) (w : World) (hG : Glob w) (hl : l.length = 1 + n) (hn : n ≤ 4000) (hnc : n ≤ cap) (hcap : cap ≤ 9223372036854775807) (hs : ∀ i, (nth l i).size ≤ 4000) (hc : StrsAt w g 0 l) (had : 0 < n → ad = some ⟨g, 1, none⟩) :
    Calls Tryz.prog 209 #[.agg #[.string (shWord j), .int .i64 (shK j 0), .int .i64 (shK j 1), .int .i64 (shK j 2)], .slice ad n cap] w fun e w' => e = .returned (.bool (lineK j l)) ∧ Below w.heap.size w w' := by
  have h' : j = 0 ∨ j = 1 ∨ j = 2 := by omega
  rcases h' with rfl | rfl | rfl
  · exact fits_tok l ad g n cap _ w hG hl hn hnc hcap hs hc had
  · exact fits_swap l ad g n cap _ w hG hl hn hnc hcap hs hc had
  · exact fits_rule l ad g n cap _ w hG hl hn hnc hcap hs hc had

theorem shapes_at (j : Nat) (hj : j < 3) (w : World) : (Instr.index 340 (.agg #[.string ⟨#[116, 111, 107, 101, 110]⟩, .int .i64 1, .int .i64 3, .int .i64 3, .string ⟨#[115, 119, 97, 112]⟩, .int .i64 1, .int .i64 1, .int .i64 3, .string ⟨#[114, 117, 108, 101]⟩, .int .i64 2, .int .i64 4, .int .i64 5]) (.int .i64 j)).run Tryz.prog w =
    .ok (.agg #[.string (shWord j), .int .i64 (shK j 0), .int .i64 (shK j 1), .int .i64 (shK j 2)]) w := by
  have h' : j = 0 ∨ j = 1 ∨ j = 2 := by omega
  have t0 : (Instr.index 340 (.agg #[.string ⟨#[116, 111, 107, 101, 110]⟩, .int .i64 1, .int .i64 3, .int .i64 3, .string ⟨#[115, 119, 97, 112]⟩, .int .i64 1, .int .i64 1, .int .i64 3, .string ⟨#[114, 117, 108, 101]⟩, .int .i64 2, .int .i64 4, .int .i64 5]) (.int .i64 0)).run Tryz.prog w = .ok (.agg #[.string ⟨#[116, 111, 107, 101, 110]⟩, .int .i64 1, .int .i64 3, .int .i64 3]) w := by kernel_rfl
  have t1 : (Instr.index 340 (.agg #[.string ⟨#[116, 111, 107, 101, 110]⟩, .int .i64 1, .int .i64 3, .int .i64 3, .string ⟨#[115, 119, 97, 112]⟩, .int .i64 1, .int .i64 1, .int .i64 3, .string ⟨#[114, 117, 108, 101]⟩, .int .i64 2, .int .i64 4, .int .i64 5]) (.int .i64 1)).run Tryz.prog w = .ok (.agg #[.string ⟨#[115, 119, 97, 112]⟩, .int .i64 1, .int .i64 1, .int .i64 3]) w := by kernel_rfl
  have t2 : (Instr.index 340 (.agg #[.string ⟨#[116, 111, 107, 101, 110]⟩, .int .i64 1, .int .i64 3, .int .i64 3, .string ⟨#[115, 119, 97, 112]⟩, .int .i64 1, .int .i64 1, .int .i64 3, .string ⟨#[114, 117, 108, 101]⟩, .int .i64 2, .int .i64 4, .int .i64 5]) (.int .i64 2)).run Tryz.prog w = .ok (.agg #[.string ⟨#[114, 117, 108, 101]⟩, .int .i64 2, .int .i64 4, .int .i64 5]) w := by kernel_rfl
  rcases h' with rfl | rfl | rfl
  · exact t0
  · exact t1
  · exact t2

theorem progL_snoc_empty {ds : List (Nat × List ByteArray)} {x : Nat × List ByteArray} (h : x.2.length = 1) : progL (ds ++ [x]) = progL ds := by
  unfold progL; simp [List.filter_append, h]
theorem progL_snoc {ds : List (Nat × List ByteArray)} {x : Nat × List ByteArray} (h : ¬ x.2.length = 1) : progL (ds ++ [x]) = progL ds ++ [(x.1, shapeOf x.2, x.2)] := by
  unfold progL; simp [List.filter_append, h]

theorem split_at (ln : ByteArray) (W : World) (hG : Glob W) (hs : ln.size ≤ 4000) : Calls Tryz.prog 208 #[.string ln, .string ⟨#[32]⟩] W fun e w' =>
    ∃ g, e = .returned (.slice (some ⟨g, 0, none⟩) (wordsB ln).length (wordsB ln).length) ∧ W.heap.size ≤ g ∧ w'.heap[g]? = some (.cells ((wordsB ln).map Value.string).toArray 9 (0, 0)) ∧ Below W.heap.size W w' := by
  obtain ⟨m, hm⟩ := hG.max
  refine (Tryz.strings_Split ln ⟨#[32]⟩ m W (by omega) hm (Nat.le_refl 1)).mono ?_
  rintro e w' ⟨rfl, rfl⟩
  rw [split_count, split_words]
  exact ⟨_, rfl, Nat.le_refl _, heap_alloc_new _ _, (Below.refl _ _).alloc (Nat.le_refl _) _⟩

theorem words_str {w : World} {g : Nat} {l : List ByteArray} (h : w.heap[g]? = some (.cells (l.map Value.string).toArray 9 (0, 0))) : StrsAt w g 0 l := by
  refine ⟨lt_of_block h, fun j hj => ?_⟩
  rw [Nat.zero_add, block_cell h]
  unfold nth
  simp [List.getElem?_eq_getElem hj]

theorem words_v {w : World} {g n : Nat} {ad : Option Addr} {l : List ByteArray} (h : w.heap[g]? = some (.cells (l.map Value.string).toArray 9 (0, 0))) (hl : l.length = 1 + n) (hn : n ≤ 4000) (had : 0 < n → ad = some ⟨g, 1, none⟩) : WordsV w (.slice ad n n) l := by
  refine ⟨g, n, n, ad, _, rfl, hl, Nat.le_refl _, by omega, h, fun j hj => ?_, had⟩
  unfold nth
  simp [List.getElem?_eq_getElem hj]

theorem below_drewN' {w w' : World} {n : Nat} (h : w' = w.drewN n) : Below w.heap.size w w' := by subst h; exact ⟨rfl, rfl, rfl, Nat.le_refl _, fun _ _ => rfl⟩

set_option maxHeartbeats 1000000 in
set_option maxRecDepth 100000 in
theorem lines_any (s : ByteArray) (w : World) (hG : Glob w) (hs : s.size ≤ 4000) :
    Calls Tryz.prog 166 #[.string s] w fun e w' => ∃ v pv, e = .returned (.tuple #[v, .int .i64 (scanA s 0).2]) ∧ LnV w' w.heap.size v (progL (scanA s 0).1) pv ∧ Below w.heap.size w w' := by
  obtain ⟨i0, hi, hz0, hz1, hz2⟩ := info_parts Tryz.info325
  have HG : Hid (Glob w) := hid hG
  clear hG
  go_enter Tryz.func166, Tryz.ntmps166
  go_wp2
  go_step3
  go_wp2
  go_step3
  go_wp2
  go_loopg [2, 3] s.size (fun g v a wr => ∃ (k : Nat) (ds : List (Nat × List ByteArray)) (pv : List Value), k + g = s.size ∧ a = .int .i64 k ∧ Hid (scanA s 0 = (ds ++ (scanA s k).1, (scanA s k).2)) ∧ Hid ((progL ds).length ≤ k) ∧
    Hid (LnV wr w.heap.size v (progL ds) pv) ∧ Hid (Below w.heap.size w wr))
  case atStart => exact ⟨0, [], [], by omega, rfl, hid (by simp), hid (by simp [progL]), LnV.nil _ _, Below.refl _ _⟩
  case round =>
    obtain ⟨k, ds, pv, hkg, rfl, hsc, hdl, hV, hbr⟩ := hrel
    have hsz := hbr.out.size
    have HGr : Hid (Glob wr) := hid (HG.out.below hbr.out HG.out.size)
    by_cases hlt : k < s.size
    · obtain ⟨ln, nx, hln⟩ : ∃ ln nx, lineB s k = (ln, nx) := ⟨_, _, rfl⟩
      have hcut := cut_line s k
      rw [hln] at hcut
      by_cases h0 : nx = 0
      · have cC : Hid (Calls Tryz.prog 207 #[.string (s.extract k s.size), .string ⟨#[10]⟩] wr fun e w' => (∃ a b, e = .returned (.tuple #[.string a, .string b, .bool false])) ∧ Below wr.heap.size wr w') := hid (by
          obtain ⟨m, hm⟩ := HGr.out.max
          refine (Tryz.strings_Cut (s.extract k s.size) ⟨#[10]⟩ m wr (by simp; omega) hm).mono ?_
          rintro e w' ⟨rfl, n, hn⟩
          exact ⟨⟨_, _, by rw [hcut.2 h0]⟩, below_drewN' hn⟩)
        have HE : Hid (scanA s 0 = (ds, k)) := hid (by
          rw [hsc.out, scanA_bad hlt (.inl (by rw [hln]; exact h0))]; simp)
        clear hsc hcut hln
        go_wp2_with (go_at_call 207; refine cC.out.mono ?_; rintro e w1 ⟨⟨ca, cb, rfl⟩, hb1⟩)
        rw [Exit.noGoto_ret]
        go_ret2
        rw [HE.out]
        exact ⟨_, _, rfl, hV.out.below hb1, hbr.out.trans (hb1.mono hsz)⟩
      · have cC : Hid (Calls Tryz.prog 207 #[.string (s.extract k s.size), .string ⟨#[10]⟩] wr fun e w' => (∃ b, e = .returned (.tuple #[.string ln, .string b, .bool true])) ∧ Below wr.heap.size wr w') := hid (by
          obtain ⟨m, hm⟩ := HGr.out.max
          refine (Tryz.strings_Cut (s.extract k s.size) ⟨#[10]⟩ m wr (by simp; omega) hm).mono ?_
          rintro e w' ⟨rfl, n, hn⟩
          exact ⟨⟨_, by rw [(hcut.1 h0).1, (hcut.1 h0).2]⟩, below_drewN' hn⟩)
        have hgt := lineB_next_gt (s := s) (a := k) (by rw [hln]; exact h0)
        rw [hln] at hgt
        simp only at hgt
        have hnx : k + ln.size + 1 ≤ s.size := by omega
        have hNX : nx.toNat = k + ln.size + 1 := by omega
        have HL : Hid (isLineB (wordsB ln) = true → scanA s 0 = ((ds ++ [(k, wordsB ln)]) ++ (scanA s (k + ln.size + 1)).1, (scanA s (k + ln.size + 1)).2)) := hid fun h => by
          rw [hsc.out, scanA_line hlt (by rw [hln]; exact h0) (by rw [hln]; exact h), hln]
          simp only [hNX]
          simp
        have HB : Hid (isLineB (wordsB ln) = false → scanA s 0 = (ds, k)) := hid fun h => by
          rw [hsc.out, scanA_bad hlt (.inr (by rw [hln]; exact h))]; simp
        have hlz : ln.size ≤ 4000 := by omega
        clear hsc hcut hln hgt hNX h0
        cases he : ln.toList.isEmpty
        · have HW : Hid (isLineB (wordsB ln) = (shapeFits 0 (wordsB ln) || (shapeFits 1 (wordsB ln) || shapeFits 2 (wordsB ln)))) := hid (isLine_shapes he)
          have hwl := wordsB_len ln
          have hwz := fun i => Nat.le_trans (wordsB_size ln i) hlz
          obtain ⟨L, hn⟩ : ∃ L, (wordsB ln).length = L := ⟨_, rfl⟩
          have cS : Hid (∀ W, Glob W → Calls Tryz.prog 208 #[.string ln, .string ⟨#[32]⟩] W fun e w' =>
            ∃ g, e = .returned (.slice (some ⟨g, 0, none⟩) L L) ∧ W.heap.size ≤ g ∧ w'.heap[g]? = some (.cells ((wordsB ln).map Value.string).toArray 9 (0, 0)) ∧ Below W.heap.size W w') := hid fun W hW => by
              rw [← hn]; exact split_at ln W hW hlz
          rw [hn] at hwl
          have HN : Hid ((wordsB ln).length = L) := hid hn
          clear hn
          have hL0 : (0 : Int) < L := by omega
          have hL1 : (1 : Int) ≤ L := by omega
          have hL2 : 0 < L := by omega
          have hL3 : 1 ≤ L := by omega
          go_wp2_with (first
            | (go_at_call 207; refine cC.out.mono ?_; rintro e w1 ⟨⟨cb, rfl⟩, hb1⟩)
            | (go_at_call 208; refine (cS.out _ (HGr.out.below hb1 HGr.out.size)).mono ?_; rintro e w2 ⟨g, rfl, hg, hblk, hb2⟩; obtain ⟨tS, fS, hshp⟩ := ((HGr.out.below hb1 HGr.out.size).below hb2 (HGr.out.below hb1 HGr.out.size).size).shapes)
            | (refine wpList_load_row rfl 340 _ rfl 0 rfl _ _ _ _ hshp Tryz.underlying340 rfl (by kernel_rfl) ?_))
          have HK : Hid (StrsAt w2 g 0 (wordsB ln)) := hid (words_str hblk)
          have HBk : Hid (w2.heap[g]? = some (.cells ((wordsB ln).map Value.string).toArray 9 (0, 0))) := hid hblk
          have HB2 : Hid (Below wr.heap.size wr w2) := hid (hb1.trans (hb2.mono hb1.size))
          have HG2 : Hid (Glob w2) := hid (HGr.out.below HB2.out HGr.out.size)
          have HV2 : Hid (LnV w2 w.heap.size u2 (progL ds) pv) := hid (hV.out.below HB2.out)
          have HR2 : Hid (Below w.heap.size w w2) := hid (hbr.out.trans (HB2.out.mono hsz))
          have hgl := lt_of_block hblk
          clear cC cS hb1 hb2 hblk hshp HGr hV hbr HB2
          go_loopg [2, 3, 36] 3 (fun gi v' a' i wi => ∃ j : Nat, j + gi = 3 ∧ v' = u2 ∧ a' = .int .i64 k ∧ i = .int .i64 j ∧ Hid (∀ t, t < j → shapeFits t (wordsB ln) = false) ∧ Hid (Below w2.heap.size w2 wi))
          case atStart => exact ⟨0, by omega, rfl, rfl, rfl, hid (fun t h => by omega), hid (Below.refl _ _)⟩
          case round =>
            obtain ⟨j, hjg, rfl, rfl, rfl, hno, hbi⟩ := hrel
            by_cases hj : j < 3
            · have hix := shapes_at j hj
              have c0 : wr.cell? ⟨g, 0, none⟩ = some (.string (nth (wordsB ln) 0)) := by
                have h := HK.out.later hbi.out
                simpa using h.2 0 (by rw [HN.out]; omega)
              have hgr : g < wr.heap.size := Nat.lt_of_lt_of_le hgl hbi.out.size
              cases hq : ((nth (wordsB ln) 0).toList == (shWord j).toList)
              · have HF : Hid (shapeFits j (wordsB ln) = false) := hid (by rw [shapeFits_eq, hq]; rfl)
                go_wp2
                go_quiet (fail)
                go_wp2
                go_roundg (gk - 1)
                case measure => omega
                case rel => exact ⟨j + 1, by omega, rfl, rfl, by go_num, hid (upto_next hno.out HF.out), hid ((hbi.out.alloc hbi.out.size _).trans (below_drewN' rfl |>.mono (by have := hbi.out.size; simp; omega)))⟩
              · obtain ⟨W2, hW2⟩ : ∃ W2, W2 = wr.alloc (.cells #[.string (shWord j), .int .i64 (shK j 0), .int .i64 (shK j 1), .int .i64 (shK j 2)] 339) := ⟨_, rfl⟩
                have hb2 : W2.heap[wr.heap.size]? = some (.cells #[.string (shWord j), .int .i64 (shK j 0), .int .i64 (shK j 1), .int .i64 (shK j 2)] 339 (0, 0)) := by rw [hW2]; exact heap_alloc_new _ _
                have HW2 : Hid (Below wr.heap.size wr W2) := hid (by rw [hW2]; exact (Below.refl _ _).alloc (Nat.le_refl _) _)
                have c1 : W2.cell? ⟨g, 0, none⟩ = some (.string (nth (wordsB ln) 0)) := (HW2.out.cell hgr).trans c0
                have c2 : W2.cell? ⟨wr.heap.size, 0, none⟩ = some (.string (shWord j)) := by rw [block_cell hb2]; rfl
                go_wp2
                rw [← hW2]
                clear hW2
                have c3 : W2.cell? ⟨wr.heap.size, 1, none⟩ = some (.int .i64 (shK j 0)) := by rw [block_cell hb2]; rfl
                have c4 : W2.cell? ⟨wr.heap.size, 2, none⟩ = some (.int .i64 (shK j 1)) := by rw [block_cell hb2]; rfl
                have c5 : W2.cell? ⟨wr.heap.size, 3, none⟩ = some (.int .i64 (shK j 2)) := by rw [block_cell hb2]; rfl
                have HWr : Hid (wr.heap.size < W2.heap.size ∧ g < W2.heap.size) := hid ⟨lt_of_block hb2, Nat.lt_trans hgr (lt_of_block hb2)⟩
                have HGK : Hid (Glob W2.drew ∧ StrsAt W2.drew g 0 (wordsB ln)) := by
                  have hbd : Below w2.heap.size w2 W2 := hbi.out.trans (HW2.out.mono hbi.out.size)
                  have hbe : Below w2.heap.size w2 W2.drew := hbd.trans ⟨rfl, rfl, rfl, Nat.le_refl _, fun _ _ => rfl⟩
                  exact hid ⟨HG2.out.below hbe HG2.out.size, HK.out.later hbe⟩
                have cF : Hid (∀ ad, (0 < L - 1 → ad = some ⟨g, 1, none⟩) → Calls Tryz.prog 209 #[.agg #[.string (shWord j), .int .i64 (shK j 0), .int .i64 (shK j 1), .int .i64 (shK j 2)], .slice ad (L - 1) (L - 1)] W2.drew fun e w' => e = .returned (.bool (lineK j (wordsB ln))) ∧
                    w'.cell? ⟨g, 0, none⟩ = some (.string (nth (wordsB ln) 0)) ∧ w'.cell? ⟨wr.heap.size, 0, none⟩ = some (.string (shWord j)) ∧ w'.cell? ⟨wr.heap.size, 1, none⟩ = some (.int .i64 (shK j 0)) ∧ w'.cell? ⟨wr.heap.size, 2, none⟩ = some (.int .i64 (shK j 1)) ∧
                    w'.cell? ⟨wr.heap.size, 3, none⟩ = some (.int .i64 (shK j 2)) ∧ Below W2.heap.size W2 w') := hid fun ad had => by
                  refine (fits_at j hj (wordsB ln) ad g (L - 1) (L - 1) _ HGK.out.1 (by rw [HN.out]; omega) (by omega) (Nat.le_refl _) (by omega) hwz HGK.out.2 had).mono ?_
                  rintro e w1 ⟨rfl, hbF⟩
                  have hbF : Below W2.heap.size W2 w1 := (⟨rfl, rfl, rfl, Nat.le_refl _, fun _ _ => rfl⟩ : Below W2.heap.size W2 W2.drew).trans hbF
                  exact ⟨rfl, (hbF.cell HWr.out.2).trans c1, (hbF.cell HWr.out.1).trans c2, (hbF.cell HWr.out.1).trans c3, (hbF.cell HWr.out.1).trans c4, (hbF.cell HWr.out.1).trans c5, hbF⟩
                clear hb2
                obtain ⟨b, hb⟩ : ∃ b, b = wr.heap.size := ⟨_, rfl⟩
                rw [← hb] at c2 c3 c4 c5 HWr cF
                rw [← hb]
                clear hb
                go_region_held3 (fun w' => w'.cell? ⟨g, 0, none⟩ = some (.string (nth (wordsB ln) 0)) ∧ w'.cell? ⟨b, 0, none⟩ = some (.string (shWord j)) ∧ w'.cell? ⟨b, 1, none⟩ = some (.int .i64 (shK j 0)) ∧ w'.cell? ⟨b, 2, none⟩ = some (.int .i64 (shK j 1)) ∧
                  w'.cell? ⟨b, 3, none⟩ = some (.int .i64 (shK j 2)) ∧ Hid (Below W2.heap.size W2 w')) ((refine ⟨?_, ?_, ?_, ?_, ?_, ?_⟩; go_keep; go_keep; go_keep; go_keep; go_keep; first | exact hid ⟨rfl, rfl, rfl, Nat.le_refl _, fun _ _ => rfl⟩ | exact hid hbF | assumption))
                  (first | (go_at_call 209; refine (cF.out _ (fun h0 => if_neg (by omega))).mono ?_; rintro e w1 ⟨rfl, k0, k1, k2, k3, k4, hbF⟩; try dsimp only))
                cases hlk : lineK j (wordsB ln)
                · have HF : Hid (shapeFits j (wordsB ln) = false) := hid (by rw [shapeFits_eq, hq, hlk]; rfl)
                  obtain ⟨adl, hadl⟩ : ∃ adl, adl = (if L = 1 then some (⟨g, 0, none⟩ : Addr) else some ⟨g, 1, none⟩) := ⟨_, rfl⟩
                  rw [← hadl]
                  clear hadl
                  go_wp2
                  go_roundg (gk - 1)
                  case measure => omega
                  case rel => exact ⟨j + 1, by omega, rfl, rfl, by go_num, hid (upto_next hno.out HF.out), hid (hbi.out.trans (HW2.out.trans (hbF.mono HW2.out.size) |>.mono hbi.out.size))⟩
                · have hFt : shapeFits j (wordsB ln) = true := by rw [shapeFits_eq, hq, hlk]; rfl
                  have hsf := shape_fits hj hFt
                  have hIL : isLineB (wordsB ln) = true := by
                    rw [HW.out]
                    have h' : j = 0 ∨ j = 1 ∨ j = 2 := by omega
                    rcases h' with rfl | rfl | rfl <;> rw [hFt] <;> simp
                  have HS : Hid _ := hid (HL.out hIL)
                  have HP : Hid (progL (ds ++ [(k, wordsB ln)]) = progL ds ++ [(k, j, wordsB ln)]) := hid (by rw [progL_snoc hsf.2, hsf.1])
                  have hne : ¬ L = 1 := fun e => hsf.2 (HN.out.trans e)
                  clear HL HB HW hFt hsf hIL
                  have hbz : Below w2.heap.size w2 w1 := hbi.out.trans ((HW2.out.trans (hbF.mono HW2.out.size)).mono hbi.out.size)
                  have hsl : LnV w1 w.heap.size u2 (progL ds) pv := HV2.out.below hbz
                  have hbw : Below w.heap.size w w1 := HR2.out.trans (hbz.mono HR2.out.size)
                  have HWV : Hid (WordsV w1 (.slice (some ⟨g, 1, none⟩) (L - 1) (L - 1)) (wordsB ln)) := hid (words_v ((hbz.block g hgl).trans HBk.out) (by rw [HN.out]; omega) (by omega) (fun _ => rfl))
                  have HSL : Hid _ := hid hsl
                  have HBW : Hid _ := hid hbw
                  clear hbz hbw
                  have hsw := HBW.out.size
                  have hrow := hsl.row
                  clear hsl
                  have hll : (progL ds).length ≤ 4000 := by have := hdl.out; omega
                  go_wp2_with (first
                    | (at_builtin; refine wpList_append_lies _ rfl _ _ 222 rfl w.heap.size 325 i0 (.agg #[.int .i64 0, .int .i64 0, .slice none 0 0]) 3 40 Tryz.underlying222 hi hz0 hz1 hz2 rfl (by decide) _ _ _ rfl (hrow.alloc _) ⟨w1.heap.size, 0, none⟩ 1 1 [.int .i64 k, .int .i64 j, .slice (some ⟨g, 1, none⟩) (L - 1) (L - 1)] rfl rfl (World.news_of_block (heap_alloc_new w1 _)) ?c2 (Nat.le_refl 1) ?c3 ?c4 ?c5 _ rfl ?_))
                  case c2 => intro u hu; simp at hu; rcases hu with rfl | rfl | rfl <;> rfl
                  case c3 => unfold maxLen; omega
                  case c4 => omega
                  case c5 => simp; omega
                  intro g3 cap3 w3 hown3 hgrow3 hat3 hlt3
                  have HL3 : Hid (LnV w3 w.heap.size (.slice (some ⟨g3, 0, none⟩) ((progL ds).length + 1) cap3) (progL ds ++ [(k, j, wordsB ln)]) (pv ++ [.slice (some ⟨g, 1, none⟩) (L - 1) (L - 1)])) :=
                    hid (HSL.out.push (((Keeps.refl _ _).alloc _).grown hgrow3 (fun q hq => .inl (by rw [hq]; simp))) HWV.out hown3)
                  have HB3 : Hid (Below w.heap.size w w3) := hid ((HBW.out.alloc hsw (.cells #[.int .i64 k, .int .i64 j, .slice (some ⟨g, 1, none⟩) (L - 1) (L - 1)] 325)).grown hgrow3 (by simp; omega) (fun g hg => (hrow.lt g hg).1))
                  clear hown3 hgrow3 hat3 hlt3
                  go_wp2
                  go_roundg (s.size - (k + ln.size + 1))
                  case measure => omega
                  case rel => exact ⟨k + ln.size + 1, ds ++ [(k, wordsB ln)], _, by omega, by go_num, HS, hid (by rw [HP.out]; have := hdl.out; simp; omega), hid (by rw [HP.out]; exact HL3.out), HB3⟩
            · have hj3 : j = 3 := by omega
              have HE : Hid (scanA s 0 = (ds, k)) := hid (HB.out (by
                rw [HW.out, hno.out 0 (by omega), hno.out 1 (by omega), hno.out 2 (by omega)]; rfl))
              clear HL HB HW
              go_wp2
              try rw [Exit.noGoto_ret]
              go_ret2
              rw [HE.out]
              exact ⟨_, _, rfl, HV2.out.below hbi.out, HR2.out.trans (hbi.out.mono HR2.out.size)⟩
        · have HS : Hid _ := hid (HL.out (words_empty he).2)
          have HP : Hid (progL (ds ++ [(k, wordsB ln)]) = progL ds) := hid (progL_snoc_empty (words_empty he).1)
          clear HL HB
          go_wp2_with (go_at_call 207; refine cC.out.mono ?_; rintro e w1 ⟨⟨cb, rfl⟩, hb1⟩)
          go_roundg (s.size - (k + ln.size + 1))
          case measure => omega
          case rel => exact ⟨k + ln.size + 1, ds ++ [(k, wordsB ln)], pv, by omega, by go_num, HS, hid (by rw [HP.out]; have := hdl.out; omega), hid (by rw [HP.out]; exact hV.out.below hb1), hid (hbr.out.trans (hb1.mono hsz))⟩
    · have HE : Hid (scanA s 0 = (ds, k)) := hid (by rw [hsc.out, scanA_end hlt]; simp)
      clear hsc
      go_wp2
      try rw [Exit.noGoto_ret]
      go_ret2
      rw [HE.out]
      exact ⟨_, _, rfl, hV.out, hbr.out⟩

end Go.Proofs.YtjjggdcnpndgjaaGreatDoor

namespace Go.Proofs.YtjjggdcnpndgjaaGreatDoor
open Go.RowKit

def givesB (sh : Nat) (l : List ByteArray) : ByteArray := if sh = 1 then ByteArray.empty else nth l 1

theorem gives_any (a sh : Nat) (p : Value) (l : List ByteArray) (w : World) (hW : WordsV w p l) (hl : 2 ≤ l.length) (hll : l.length ≤ 4001) :
    Calls Tryz.prog 210 #[.agg #[.int .i64 a, .int .i64 sh, p]] w fun e w' => e = .returned (.string (givesB sh l)) ∧ Below w.heap.size w w' := by
  obtain ⟨g, n, cap, ad, cs, rfl, h2, h3, h4, h5, h6, h7⟩ := hW
  have had := h7 (by omega)
  subst had
  have c1 : w.cell? ⟨g, 1, none⟩ = some (.string (nth l 1)) := by rw [block_cell h5]; exact h6 1 (by omega)
  have hg := lt_of_block h5
  have hn : 0 < n := by omega
  have hb0 : Hid (Below w.heap.size w (w.alloc (.cells #[.int .i64 a, .int .i64 sh, .slice (some ⟨g, 1, none⟩) n cap] 325))) := hid ((Below.refl _ _).alloc (Nat.le_refl _) _)
  clear h5 h6 h7 h2 hl hll
  by_cases hs : sh = 1
  · have HE : Hid (givesB sh l = ByteArray.empty) := hid (by unfold givesB; rw [if_pos hs])
    subst hs
    go_enter Tryz.func210, Tryz.ntmps210
    go_wp2
    go_ret
    exact ⟨by rw [HE.out]; rfl, hb0.out⟩
  · have HE : Hid (givesB sh l = nth l 1) := hid (by unfold givesB; rw [if_neg hs])
    have hs2 : ¬ ((sh : Int) = 1) := by omega
    clear hs
    go_enter Tryz.func210, Tryz.ntmps210
    go_wp2
    go_ret
    exact ⟨by rw [HE.out]; rfl, hb0.out⟩

/-- The j-th line, as its cells lie. -/
theorem LnV.at {w : World} {B g n cap : Nat} {ls : List (Nat × Nat × List ByteArray)} {pv : List Value} (h : LnV w B (.slice (some ⟨g, 0, none⟩) n cap) ls pv) {j : Nat} {x : Nat × Nat × List ByteArray} (hx : ls[j]? = some x) :
    ∃ p, pv[j]? = some p ∧ WordsV w p x.2.2 ∧ w.cell? ⟨g, j * 3, none⟩ = some (.int .i64 x.1) ∧ w.cell? ⟨g, j * 3 + 1, none⟩ = some (.int .i64 x.2.1) ∧ w.cell? ⟨g, j * 3 + 2, none⟩ = some p := by
  have hj := (List.getElem?_eq_some_iff.1 hx).1
  obtain ⟨p, hp⟩ : ∃ p, pv[j]? = some p := ⟨_, List.getElem?_eq_getElem (by rw [h.pvl]; exact hj)⟩
  refine ⟨p, hp, h.wds j x p hx hp, ?_⟩
  have hz : (ls.zip pv)[j]? = some (x, p) := by
    rw [List.getElem?_zip_eq_some]; exact ⟨hx, hp⟩
  have h3 := fun i hi => flat3 (fun t : (Nat × Nat × List ByteArray) × Value => [Value.int .i64 t.1.1, .int .i64 t.1.2.1, t.2]) (fun _ => rfl) (ls.zip pv) j (x, p) i hz hi
  have hn : ls.length = n := by
    rcases h.row.2 with ⟨e, _⟩ | ⟨g', cap', cur, e, _⟩
    · cases e
    · cases e; rfl
  have hr := h.row
  rw [hn] at hr hj
  refine ⟨?_, ?_, ?_⟩
  · rw [hr.cellAt _ (by omega)]; exact h3 0 (by omega)
  · rw [hr.cellAt _ (by omega)]; exact h3 1 (by omega)
  · rw [hr.cellAt _ (by omega)]; exact h3 2 (by omega)

theorem LnV.form {w : World} {B : Nat} {v : Value} {ls : List (Nat × Nat × List ByteArray)} {pv : List Value} (h : LnV w B v ls pv) :
    (v = .slice none 0 0 ∧ ls = []) ∨ ∃ g cap, v = .slice (some ⟨g, 0, none⟩) ls.length cap ∧ ls.length ≤ cap ∧ g < w.heap.size := by
  rcases h.row.2 with ⟨h1, h2⟩ | ⟨g, cap, cur, h1, _, hh, hnc, _⟩
  · exact .inl ⟨h1, List.eq_nil_of_length_eq_zero h2⟩
  · exact .inr ⟨g, cap, h1, hnc, lt_of_block hh⟩

theorem any_snoc_no {α : Type} {l : List α} {q : α → Bool} {k : Nat} {x : α} (hx : l[k]? = some x) (h0 : (l.take k).any q = false) (h : q x = false) : (l.take (k + 1)).any q = false := by
  obtain ⟨hk, e⟩ := List.getElem?_eq_some_iff.1 hx
  rw [List.take_succ_eq_append_getElem hk, List.any_append, h0, e]
  simp [h]

theorem any_yes {α : Type} {l : List α} {q : α → Bool} {k : Nat} {x : α} (hx : l[k]? = some x) (h : q x = true) : l.any q = true := List.any_eq_true.2 ⟨x, List.mem_of_getElem? hx, h⟩

set_option maxHeartbeats 400000 in
theorem hasName_any' (v : Value) (ls : List (Nat × Nat × List ByteArray)) (pv : List Value) (B : Nat) (w : World) (hV : LnV w B v ls pv) (hn : ls.length ≤ 4000) :
    Calls Tryz.prog 169 #[v] w fun e w' => e = .returned (.bool (ls.any fun x => x.2.1 == 2)) ∧ Below w.heap.size w w' := by
  rcases hV.form with ⟨rfl, rfl⟩ | ⟨g, cap, rfl, hnc, hg⟩
  · clear hV
    go_enter Tryz.func169, Tryz.ntmps169
    go_wp2
    go_loopw [7] (fun i wr => i = .int .i64 0 ∧ wr = w) (fun i _ => 0)
    case atStart => exact ⟨rfl, rfl⟩
    case round =>
      obtain ⟨rfl, rfl⟩ := hrel
      go_wp2
      go_ret
      exact ⟨rfl, Below.refl _ _⟩
  · obtain ⟨n, hN⟩ : ∃ n, n = ls.length := ⟨_, rfl⟩
    rw [← hN] at hn hnc hV ⊢
    have HN : Hid (n = ls.length) := hid hN
    have HV : Hid _ := hid hV
    clear hN hV
    go_enter Tryz.func169, Tryz.ntmps169
    go_wp2
    go_loopw [7] (fun i wr => ∃ k : Nat, k ≤ n ∧ i = .int .i64 k ∧ Hid ((ls.take k).any (fun x => x.2.1 == 2) = false) ∧ Hid (Below w.heap.size w wr)) (fun i _ => n - (intOf i).toNat)
    case atStart => exact ⟨0, Nat.zero_le _, rfl, rfl, Below.refl _ _⟩
    case round =>
      obtain ⟨k, hk, rfl, hno, hbr⟩ := hrel
      have hsz := hbr.out.size
      by_cases hlt : k < n
      · obtain ⟨x, hx⟩ : ∃ x, ls[k]? = some x := ⟨_, List.getElem?_eq_getElem (by have := HN.out; omega)⟩
        obtain ⟨p, hp, ⟨gw, m, mc, ad, cs, rfl, _⟩, k0, k1, k2⟩ := (HV.out.below hbr.out).at hx
        clear hp
        obtain ⟨a, sh, l⟩ := x
        simp only at k0 k1 k2
        have hgr : g < wr.heap.size := Nat.lt_of_lt_of_le hg hsz
        have HB1 : Hid (Below w.heap.size w (wr.alloc (.cells #[.int .i64 a, .int .i64 sh, .slice ad m mc] 325))) := hid (hbr.out.alloc hsz _)
        cases hs2 : ((sh : Int) == 2)
        · have HF : Hid _ := hid (any_snoc_no (q := fun x => x.2.1 == 2) hx hno.out (by simp at hs2 ⊢; omega))
          go_wp2
          go_roundw
          case rel => exact ⟨k + 1, by omega, by go_num, HF, HB1⟩
          case measure => simp [intOf]; omega
        · have HF : Hid _ := hid (any_yes (q := fun x => x.2.1 == 2) hx (by simp at hs2 ⊢; omega))
          go_wp2
          go_ret
          exact ⟨ret_bool HF.out, HB1.out⟩
      · have HE : Hid (ls.any (fun x => x.2.1 == 2) = false) := hid (by
          have := hno.out
          rwa [List.take_of_length_le (by have := HN.out; omega)] at this)
        go_wp2
        go_ret
        exact ⟨ret_bool HE.out, hbr.out⟩

end Go.Proofs.YtjjggdcnpndgjaaGreatDoor

namespace Go.Proofs.YtjjggdcnpndgjaaGreatDoor
open Go.RowKit

/-- One word of a rule line. -/
def pstep (st : List (List ByteArray) × List ByteArray) (x : ByteArray) : List (List ByteArray) × List ByteArray := if barB x then (st.1 ++ [st.2], []) else (st.1, st.2 ++ [x])
def pst (l : List ByteArray) : List (List ByteArray) × List ByteArray := l.foldl pstep ([], [])
def rulesL (l : List ByteArray) : List (List ByteArray) := (pst (l.drop 3)).1 ++ [(pst (l.drop 3)).2]

theorem pst_next {l : List ByteArray} {k : Nat} (hk : 3 + k < l.length) : pst ((l.take (3 + k + 1)).drop 3) = pstep (pst ((l.take (3 + k)).drop 3)) (nth l (3 + k)) := by
  rw [List.take_succ_eq_append_getElem hk, List.drop_append_of_le_length (by simp; omega)]
  unfold pst nth
  rw [List.foldl_append, List.getD_eq_getElem?_getD, List.getElem?_eq_getElem hk]
  rfl

/-- Rows of words, each its own; the last one is still written. -/
structure RulV (w : World) (B Bl : Nat) (v : Value) (done : List (List ByteArray)) (cur : List ByteArray) (pvd : List Value) (pl : Value) : Prop where
  row : w.ownsRow B 39 1 v (done.length + 1) (pvd ++ [pl])
  pvl : pvd.length = done.length
  parts : ∀ (i : Nat) (r : List ByteArray) (p : Value), done[i]? = some r → pvd[i]? = some p → w.ownsRow B 9 1 p r.length (r.map Value.string) ∧ (∀ q, p.ownBlock = some q → q < Bl)
  last : w.ownsRow Bl 9 1 pl cur.length (cur.map Value.string)
  hB : B ≤ Bl
  hBl : Bl ≤ w.heap.size

theorem RulV.start (w : World) {B : Nat} (hB : B ≤ w.heap.size) : RulV (w.alloc (.cells #[.slice none 0 0] 39)) B (w.heap.size + 1) (.slice (some ⟨w.heap.size, 0, none⟩) 1 1) [] [] [] (.slice none 0 0) where
  row := ⟨rfl, .inr ⟨_, _, _, rfl, hB, heap_alloc_new w _, Nat.le_refl _, by unfold maxLen; omega, rfl, rfl⟩⟩
  pvl := rfl
  parts := fun i r p hr => by simp at hr
  last := World.ownsRow_nil _ _ _ _
  hB := by omega
  hBl := by simp

theorem ownsRow_base {w : World} {B B' e sz n : Nat} {v : Value} {xs : List Value} (h : w.ownsRow B e sz v n xs) (hB : B' ≤ B) : w.ownsRow B' e sz v n xs := by
  refine ⟨h.1, ?_⟩
  rcases h.2 with h2 | ⟨g, cap, cur, hv, hg, r⟩
  · exact .inl h2
  · exact .inr ⟨g, cap, cur, hv, Nat.le_trans hB hg, r⟩

theorem RulV.bar {w w3 : World} {B Bl : Nat} {v v' : Value} {done : List (List ByteArray)} {cur : List ByteArray} {pvd : List Value} {pl : Value} (h : RulV w B Bl v done cur pvd pl) (hk : Keeps w w3 v.ownBlock.toList)
    (hown : w3.ownsRow B 39 1 v' (done.length + 1 + 1) (pvd ++ [pl] ++ [.slice none 0 0])) : RulV w3 B w3.heap.size v' (done ++ [cur]) [] (pvd ++ [pl]) (.slice none 0 0) := by
  have hl := h.pvl
  have hoff : ∀ {n : Nat} {b : Nat} {p : Value} {xs : List Value}, w.ownsRow b 9 1 p n xs → ∀ q, p.ownBlock = some q → q ∉ v.ownBlock.toList := by
    intro n b p xs hp q hq hm
    exact own_apart hp h.row (by decide) hq (mem_own hm)
  refine ⟨by simpa using hown, by simp [hl], fun i r p hr hp => ?_, World.ownsRow_nil _ _ _ _, Nat.le_trans (Nat.le_trans h.hB h.hBl) hk.size, Nat.le_refl _⟩
  by_cases hi : i < done.length
  · rw [List.getElem?_append_left hi] at hr
    rw [List.getElem?_append_left (by omega)] at hp
    have h1 := h.parts i r p hr hp
    exact ⟨own_keeps h1.1 hk (hoff h1.1), fun q hq => Nat.lt_of_lt_of_le (own_lt h1.1 hq) hk.size⟩
  · rw [List.getElem?_append_right (by omega)] at hr
    rw [List.getElem?_append_right (by omega)] at hp
    obtain ⟨h1, _⟩ := List.getElem?_eq_some_iff.1 hr
    simp at h1
    rw [show i - done.length = 0 by omega] at hr
    rw [show i - pvd.length = 0 by omega] at hp
    simp at hr hp
    subst hr; subst hp
    exact ⟨own_keeps (ownsRow_base h.last h.hB) hk (hoff h.last), fun q hq => Nat.lt_of_lt_of_le (own_lt h.last hq) hk.size⟩

theorem ownsRow_setAt {w : World} {B e n g cap j : Nat} {xs : List Value} (h : w.ownsRow B e 1 (.slice (some ⟨g, 0, none⟩) n cap) n xs) (u : Value) : (w.setCell ⟨g, j, none⟩ u).ownsRow B e 1 (.slice (some ⟨g, 0, none⟩) n cap) n (xs.set j u) := by
  rcases h.2 with ⟨h1, _⟩ | ⟨g', cap', cur, hv, hg, hh, h1, h2, h3, h4⟩
  · cases h1
  · cases hv
    refine ⟨by simpa using h.1, .inr ⟨g, cap, cur.setIfInBounds j u, rfl, hg, cells_set hh u, h1, h2, by simpa using h3, ?_⟩⟩
    rw [Array.toList_setIfInBounds, ← h4, List.take_set]

theorem RulV.add {w w3 : World} {B Bl gv cap : Nat} {pl' : Value} {done : List (List ByteArray)} {cur : List ByteArray} {pvd : List Value} {pl : Value} {x : ByteArray} (h : RulV w B Bl (.slice (some ⟨gv, 0, none⟩) (done.length + 1) cap) done cur pvd pl) (hk : Keeps w w3 pl.ownBlock.toList)
    (hown : w3.ownsRow Bl 9 1 pl' (cur.length + 1) (cur.map Value.string ++ [.string x])) : RulV (w3.setCell ⟨gv, done.length, none⟩ pl') B Bl (.slice (some ⟨gv, 0, none⟩) (done.length + 1) cap) done (cur ++ [x]) pvd pl' := by
  have hl := h.pvl
  have hrow : w3.ownsRow B 39 1 (.slice (some ⟨gv, 0, none⟩) (done.length + 1) cap) (done.length + 1) (pvd ++ [pl]) := own_keeps h.row hk (fun q hq hm => own_apart h.row h.last (by decide) hq (mem_own hm))
  have hgv : ∀ {n b : Nat} {p : Value} {xs : List Value}, w3.ownsRow b 9 1 p n xs → p.ownBlock ≠ some gv := fun {n b p xs} hp hq => own_apart hp hrow (by decide) hq rfl
  refine ⟨?_, hl, fun i r p hr hp => ?_, ?_, h.hB, by simp [World.setCell]; exact Nat.le_trans h.hBl hk.size⟩
  · have := ownsRow_setAt hrow (j := done.length) pl'
    rwa [← hl, List.set_append_right _ _ (Nat.le_refl _), Nat.sub_self, List.set_cons_zero, hl] at this
  · have h1 := h.parts i r p hr hp
    have h2 := own_keeps h1.1 hk (fun q hq hm => by
      have := h1.2 q hq
      have := (h.last.lt q (mem_own hm)).1
      omega)
    exact ⟨ownsRow_setCell_other h2 (hgv h2) _, h1.2⟩
  · have := ownsRow_setCell_other (a := ⟨gv, done.length, none⟩) hown (hgv hown) pl'
    simpa using this

end Go.Proofs.YtjjggdcnpndgjaaGreatDoor

namespace Go.Proofs.YtjjggdcnpndgjaaGreatDoor
open Go.RowKit

theorem Tryz.info39 : (Tryz.prog.info? 39).map (fun i => (i.zero, i.size, i.bytes)) = some (some (.slice none 0 0), 1, 24) := by kernel_rfl

set_option maxHeartbeats 1000000 in
set_option maxRecDepth 100000 in
theorem rules_any (a sh : Nat) (p : Value) (l : List ByteArray) (w : World) (hW : WordsV w p l) (hl : 3 ≤ l.length) (hll : l.length ≤ 4001) :
    Calls Tryz.prog 202 #[.agg #[.int .i64 a, .int .i64 sh, p]] w fun e w' => ∃ v Bl pvd pl, e = .returned v ∧ RulV w' w.heap.size Bl v (pst (l.drop 3)).1 (pst (l.drop 3)).2 pvd pl ∧ Below w.heap.size w w' := by
  obtain ⟨j0, ji, jz0, jz1, jz2⟩ := info_parts Tryz.info39
  obtain ⟨i0, hi, hz0, hz1, hz2⟩ := info_parts Tryz.info9
  obtain ⟨g, n, cap, ad, cs, rfl, h2, h3, h4, h5, h6, h7⟩ := hW
  have had := h7 (by omega)
  subst had
  have hst : StrsAt w g 0 l := ⟨lt_of_block h5, fun j hj => by rw [Nat.zero_add, block_cell h5]; exact h6 j hj⟩
  obtain ⟨m, hm⟩ : ∃ m, n = m + 2 := ⟨n - 2, by omega⟩
  subst hm
  obtain ⟨c2, hc2⟩ : ∃ c, cap = c + 2 := ⟨cap - 2, by omega⟩
  subst hc2
  have HST : Hid (StrsAt w g 0 l) := hid hst
  have HL : Hid (l.length = 3 + m) := hid (by omega)
  have hm4 : m ≤ 4000 := by omega
  clear h5 h6 h7 hst h2 hl hll
  have hsz1 : (w.alloc (.cells #[.int .i64 a, .int .i64 sh, .slice (some ⟨g, 1, none⟩) (m + 2) (c2 + 2)] 325)).heap.size = w.heap.size + 1 := by simp
  have hR0 := RulV.start (w.alloc (.cells #[.int .i64 a, .int .i64 sh, .slice (some ⟨g, 1, none⟩) (m + 2) (c2 + 2)] 325)) (B := w.heap.size) (by simp)
  rw [hsz1] at hR0
  have HB0 : Hid (Below w.heap.size w ((w.alloc (.cells #[.int .i64 a, .int .i64 sh, .slice (some ⟨g, 1, none⟩) (m + 2) (c2 + 2)] 325)).alloc (.cells #[.slice none 0 0] 39))) :=
    hid (((Below.refl _ _).alloc (Nat.le_refl _) _).alloc (by simp) _)
  have HR0 : Hid _ := hid hR0
  clear hR0 hsz1
  by_cases hz : c2 = 0
  · subst hz
    have hm0 : m = 0 := by omega
    subst hm0
    have HE : Hid (pst (l.drop 3) = ([], [])) := hid (by rw [List.drop_eq_nil_of_le (by have := HL.out; omega)]; rfl)
    go_enter Tryz.func202, Tryz.ntmps202
    go_wp2
    go_loopw [3, 12] (fun v i wr => i = .int .i64 0 ∧ v = .slice (some ⟨w.heap.size + 1, 0, none⟩) 1 1 ∧ Hid (RulV wr w.heap.size (w.heap.size + 1 + 1) v [] [] [] (.slice none 0 0)) ∧ Hid (Below w.heap.size w wr)) (fun _ i _ => 0)
    case atStart => exact ⟨rfl, rfl, HR0, HB0⟩
    case round =>
      clear HR0 HB0
      obtain ⟨rfl, rfl, hR, hbr⟩ := hrel
      go_wp2
      go_ret
      rw [HE.out]
      exact ⟨_, _, _, _, rfl, hR.out, hbr.out⟩
  · go_enter Tryz.func202, Tryz.ntmps202
    go_wp2
    go_loopw [3, 12] (fun v i wr => ∃ (k d gv cap Bl : Nat) (done : List (List ByteArray)) (cur : List ByteArray) (pvd : List Value) (pl : Value), k ≤ m ∧ d ≤ k ∧ i = .int .i64 k ∧ v = .slice (some ⟨gv, 0, none⟩) (d + 1) cap ∧ Hid (done.length = d) ∧ Hid (cur.length ≤ k) ∧
      Hid (pst ((l.take (3 + k)).drop 3) = (done, cur)) ∧ Hid (RulV wr w.heap.size Bl v done cur pvd pl) ∧ Hid (Below w.heap.size w wr)) (fun _ i _ => m - (intOf i).toNat)
    case atStart => exact ⟨0, 0, _, _, _, [], [], [], _, by omega, by omega, rfl, rfl, rfl, hid (by simp), hid (by rw [List.drop_eq_nil_of_le (by simp; omega)]; rfl), HR0, HB0⟩
    case round =>
      clear HR0 HB0
      obtain ⟨k, d, gv, cap, Bl, done, cur, pvd, pl, hk, hdk, rfl, rfl, hd, hcl, hp, hR, hbr⟩ := hrel
      have hsz := hbr.out.size
      by_cases hlt : k < m
      · have hc : wr.cell? ⟨g, 3 + k, none⟩ = some (.string (nth l (3 + k))) := by
          simpa using (HST.out.later hbr.out).2 (3 + k) (by rw [HL.out]; omega)
        have HN : Hid _ := hid (pst_next (l := l) (k := k) (by rw [HL.out]; omega))
        have hrow := hR.out.row
        rw [hd.out] at hrow
        have hpd : pvd.length = d := hR.out.pvl.trans hd.out
        have HPD : Hid (pvd.length = d) := hid hpd
        have hcd : wr.cell? ⟨gv, d, none⟩ = some pl := by
          rw [hrow.cellAt d (by omega), ← hpd]; simp
        have HP : Hid _ := hid hp
        clear hp hpd
        cases hb : ((nth l (3 + k)).toList == [124])
        · have HQ : Hid (pst ((l.take (3 + k + 1)).drop 3) = (done, cur ++ [nth l (3 + k)])) := hid (by
            rw [HN.out, HP.out.out]; unfold pstep barB; rw [hb]; rfl)
          obtain ⟨cn, hcn⟩ : ∃ cn, cur.length = cn := ⟨_, rfl⟩
          have hcl2 : cn ≤ 4000 := by have := hcl.out; omega
          have hlast := hR.out.last
          rw [hcn] at hlast
          have HCN : Hid (cur.length = cn) := hid hcn
          have hBB := hR.out.hBl
          have hBB2 := hR.out.hB
          have HRow : Hid _ := hid hrow
          clear hcn hrow HN HP
          go_wp2_with (first
            | (at_builtin; refine wpList_append_lies _ rfl _ _ 39 rfl Bl 9 i0 (.string ByteArray.empty) 1 16 Tryz.underlying39 hi hz0 hz1 hz2 rfl (by decide) _ _ _ rfl (hlast.alloc _) ⟨wr.heap.size, 0, none⟩ 1 1 [.string (nth l (3 + k))] rfl rfl (World.news_of_block (heap_alloc_new wr _)) ?c2 (Nat.le_refl 1) ?c3 ?c4 ?c5 _ rfl ?_))
          case c2 => intro u hu; simp at hu; subst hu; rfl
          case c3 => unfold maxLen; omega
          case c4 => omega
          case c5 => simp; omega
          intro g3 cap3 w3 hown3 hgrow3 hat3 hlt3
          have hkeep : Keeps wr w3 pl.ownBlock.toList := ((Keeps.refl _ _).alloc _).grown hgrow3 (fun q hq => .inl (by rw [hq]; simp))
          have hrow3 := own_keeps HRow.out hkeep (fun q hq hm => own_apart HRow.out hlast (by decide) hq (mem_own hm))
          have hc3 : w3.cell? ⟨gv, d, none⟩ = some pl := by
            rw [hrow3.cellAt d (by omega), ← HPD.out]; simp
          have hf3 : w3.frozen? ⟨gv, d, none⟩ = false := by
            obtain ⟨c, hc⟩ := own_kind hrow3 (g := gv) rfl
            exact block_free hc
          have HB3 : Hid (Below w.heap.size w (w3.setCell ⟨gv, d, none⟩ (.slice (some ⟨g3, 0, none⟩) (cn + 1) cap3))) := hid ((hbr.out.trans (hkeep.below hsz (fun q hq => Nat.le_trans hBB2 (hlast.lt q (mem_own hq)).1))).setCell (by exact (HRow.out.lt gv rfl).1) _)
          have HR3 : Hid (RulV (w3.setCell ⟨gv, d, none⟩ (.slice (some ⟨g3, 0, none⟩) (cn + 1) cap3)) w.heap.size Bl (.slice (some ⟨gv, 0, none⟩) (d + 1) cap) done (cur ++ [nth l (3 + k)]) pvd (.slice (some ⟨g3, 0, none⟩) (cn + 1) cap3)) := hid (by
            have h := hR.out
            have hdd := hd.out
            have hcc := HCN.out
            subst hdd
            subst hcc
            exact h.add hkeep hown3)
          clear hown3 hgrow3 hat3 hlt3 hkeep hrow3 hlast
          go_wp2
          go_roundw
          case rel => exact ⟨k + 1, d, gv, cap, Bl, done, _, pvd, _, by omega, by omega, by go_num, rfl, hd, hid (by have := hcl.out; simp; omega), HQ, HR3, HB3⟩
          case measure => simp [intOf]; omega
        · have HQ : Hid (pst ((l.take (3 + k + 1)).drop 3) = (done ++ [cur], [])) := hid (by
            rw [HN.out, HP.out.out]; unfold pstep barB; rw [hb]; rfl)
          clear HN HP
          go_wp2_with (first
            | (at_builtin; refine wpList_append_lies _ rfl _ _ 46 rfl w.heap.size 39 j0 (.slice none 0 0) 1 24 Tryz.underlying46 ji jz0 jz1 jz2 rfl (by decide) _ _ _ rfl (hrow.alloc _) ⟨wr.heap.size, 0, none⟩ 1 1 [.slice none 0 0] rfl rfl (World.news_of_block (heap_alloc_new wr _)) ?d2 (Nat.le_refl 1) ?d3 ?d4 ?d5 _ rfl ?_))
          case d2 => intro u hu; simp at hu; subst hu; rfl
          case d3 => unfold maxLen; omega
          case d4 => omega
          case d5 => simp; omega
          intro g3 cap3 w3 hown3 hgrow3 hat3 hlt3
          have hkeep : Keeps wr w3 (Value.slice (some ⟨gv, 0, none⟩) (d + 1) cap).ownBlock.toList := ((Keeps.refl _ _).alloc _).grown hgrow3 (fun q hq => .inl (by rw [hq]; simp))
          have HB3 : Hid (Below w.heap.size w w3) := hid (hbr.out.trans (hkeep.below hsz (fun q hq => (hrow.lt q (mem_own hq)).1)))
          have HR3 : Hid (RulV w3 w.heap.size w3.heap.size (.slice (some ⟨g3, 0, none⟩) (d + 1 + 1) cap3) (done ++ [cur]) [] (pvd ++ [pl]) (.slice none 0 0)) := hid (by
            have h := hR.out
            have hdd := hd.out
            subst hdd
            exact h.bar hkeep (by simpa using hown3))
          clear hown3 hgrow3 hat3 hlt3 hkeep hrow
          go_wp2
          go_roundw
          case rel => exact ⟨k + 1, d + 1, g3, cap3, _, done ++ [cur], [], pvd ++ [pl], _, by omega, by omega, by go_num, rfl, hid (by simp [hd.out]), hid (by simp), HQ, HR3, HB3⟩
          case measure => simp [intOf]; omega
      · have HE : Hid (pst (l.drop 3) = (done, cur)) := hid (by
          have := hp.out
          rwa [List.take_of_length_le (by have := HL.out; omega)] at this)
        go_wp2
        go_ret
        rw [HE.out]
        exact ⟨_, _, _, _, rfl, hR.out, hbr.out⟩

end Go.Proofs.YtjjggdcnpndgjaaGreatDoor

namespace Go.Proofs.YtjjggdcnpndgjaaGreatDoor
open Go.RowKit

def usesB (sh : Nat) (l : List ByteArray) : List ByteArray := if sh = 1 then [nth l 1, nth l 2] else if sh = 2 then (rulesL l).flatten else []

theorem pst_flat (l : List ByteArray) : (pst l).1.flatten ++ (pst l).2 = l.filter fun x => !barB x := by
  suffices h : ∀ (l : List ByteArray) (st : List (List ByteArray) × List ByteArray), (l.foldl pstep st).1.flatten ++ (l.foldl pstep st).2 = st.1.flatten ++ st.2 ++ l.filter (fun x => !barB x) from by simpa [pst] using h l ([], [])
  intro l
  induction l with
  | nil => intro st; simp
  | cons x r ih =>
    intro st
    rw [List.foldl_cons, ih]
    unfold pstep
    by_cases hb : barB x = true
    · rw [if_pos hb]; simp [hb]
    · rw [if_neg hb]; simp [hb]

theorem rules_flat (l : List ByteArray) : (rulesL l).flatten = (l.drop 3).filter fun x => !barB x := by
  rw [← pst_flat]; unfold rulesL; simp

theorem rules_flat_len (l : List ByteArray) (k : Nat) : ((rulesL l).take k).flatten.length ≤ l.length := by
  have h1 : (rulesL l).flatten.length ≤ l.length := by
    rw [rules_flat]
    exact Nat.le_trans (List.length_filter_le _ _) (by simp)
  have h2 : (rulesL l).flatten = ((rulesL l).take k).flatten ++ ((rulesL l).drop k).flatten := by
    rw [← List.flatten_append, List.take_append_drop]
  rw [h2, List.length_append] at h1
  omega

theorem pst_len (l : List ByteArray) : (pst l).1.length ≤ l.length := by
  suffices h : ∀ (l : List ByteArray) (st : List (List ByteArray) × List ByteArray), (l.foldl pstep st).1.length ≤ st.1.length + l.length from by simpa [pst] using h l ([], [])
  intro l
  induction l with
  | nil => intro st; simp
  | cons x r ih =>
    intro st
    have h1 := ih (pstep st x)
    have h2 : (pstep st x).1.length ≤ st.1.length + 1 := by unfold pstep; split <;> simp
    simp only [List.foldl_cons, List.length_cons]
    omega

theorem rules_len (l : List ByteArray) : (rulesL l).length ≤ l.length + 1 := by
  unfold rulesL
  have := pst_len (l.drop 3)
  simp at this ⊢
  omega

/-- Rows of words, all done. -/
structure RowsV (w : World) (B : Nat) (v : Value) (rs : List (List ByteArray)) (pvs : List Value) : Prop where
  row : w.ownsRow B 39 1 v rs.length pvs
  each : ∀ (i : Nat) (r : List ByteArray) (p : Value), rs[i]? = some r → pvs[i]? = some p → w.ownsRow B 9 1 p r.length (r.map Value.string)

theorem RulV.rows {w : World} {B Bl : Nat} {v : Value} {done : List (List ByteArray)} {cur : List ByteArray} {pvd : List Value} {pl : Value} (h : RulV w B Bl v done cur pvd pl) : RowsV w B v (done ++ [cur]) (pvd ++ [pl]) := by
  have hl := h.pvl
  refine ⟨by simpa using h.row, fun i r p hr hp => ?_⟩
  by_cases hi : i < done.length
  · rw [List.getElem?_append_left hi] at hr
    rw [List.getElem?_append_left (by omega)] at hp
    exact (h.parts i r p hr hp).1
  · rw [List.getElem?_append_right (by omega)] at hr
    rw [List.getElem?_append_right (by omega)] at hp
    obtain ⟨h1, _⟩ := List.getElem?_eq_some_iff.1 hr
    simp at h1
    rw [show i - done.length = 0 by omega] at hr
    rw [show i - pvd.length = 0 by omega] at hp
    simp at hr hp
    subst hr; subst hp
    exact ownsRow_base h.last h.hB

theorem rules_rows (a sh : Nat) (p : Value) (l : List ByteArray) (w : World) (hW : WordsV w p l) (hl : 3 ≤ l.length) (hll : l.length ≤ 4001) :
    Calls Tryz.prog 202 #[.agg #[.int .i64 a, .int .i64 sh, p]] w fun e w' => ∃ g cap pvs, e = .returned (.slice (some ⟨g, 0, none⟩) (rulesL l).length cap) ∧ RowsV w' w.heap.size (.slice (some ⟨g, 0, none⟩) (rulesL l).length cap) (rulesL l) pvs ∧ Below w.heap.size w w' := by
  refine (rules_any a sh p l w hW hl hll).mono ?_
  rintro e w' ⟨v, Bl, pvd, pl, rfl, hR, hb⟩
  have h := hR.rows
  obtain ⟨g, cap, hv, _⟩ := owned_shape h.row (by simp)
  subst hv
  exact ⟨g, cap, _, rfl, h, hb⟩

/-- The k-th of them. -/
theorem RowsV.at {w w' : World} {B g n cap : Nat} {rs : List (List ByteArray)} {pvs : List Value} (h : RowsV w B (.slice (some ⟨g, 0, none⟩) n cap) rs pvs) (hn : rs.length = n) (hb : Below w.heap.size w w') {k : Nat} (hk : k < n) :
    ∃ r p, rs[k]? = some r ∧ w'.cell? ⟨g, k, none⟩ = some p ∧ w'.ownsRow B 9 1 p r.length (r.map Value.string) ∧ (∀ q, p.ownBlock = some q → q < w.heap.size) := by
  have hr := h.row
  rw [hn] at hr
  have hpl : pvs.length = n := by have := hr.1; omega
  have hp : pvs[k]? = some (pvs[k]'(by omega)) := List.getElem?_eq_getElem (by omega)
  have hrk : rs[k]? = some (rs[k]'(by omega)) := List.getElem?_eq_getElem (by omega)
  have he := h.each k _ _ hrk hp
  refine ⟨_, _, hrk, ?_, own_keeps he (Keeps.of_below hb []) (by simp), fun q hq => own_lt he hq⟩
  rw [hb.cell (own_lt hr (g := g) rfl), hr.cellAt k (by omega), hp]

/-- What uses hands back. -/
def UsedV (w : World) (v : Value) (us : List ByteArray) : Prop := ∃ (ad : Option Addr) (cap : Nat), v = .slice ad us.length cap ∧ us.length ≤ cap ∧ (0 < us.length → ∃ g off, ad = some ⟨g, off, none⟩ ∧ StrsAt w g off us)

theorem own_news {w : World} {B e n g cap : Nat} {xs : List Value} (h : w.ownsRow B e 1 (.slice (some ⟨g, 0, none⟩) n cap) n xs) : ∀ j u, xs[j]? = some u → w.cell? ((⟨g, 0, none⟩ : Addr).add j) = some u := fun j u hu => by
  have hadd : (⟨g, 0, none⟩ : Addr).add j = ⟨g, j, none⟩ := by unfold Addr.add; split <;> simp_all
  have hj := (List.getElem?_eq_some_iff.1 hu).1
  have := h.1
  rw [hadd, h.cellAt j (by omega), hu]

theorem used_own {w : World} {B n : Nat} {v : Value} {us : List ByteArray} (h : w.ownsRow B 9 1 v n (us.map Value.string)) (hn : n = us.length) : UsedV w v us := by
  subst hn
  rcases h.2 with ⟨h1, h2⟩ | ⟨g, cap, cur, h1, _, _, hnc, _⟩
  · exact ⟨none, 0, by rw [h1, h2], by omega, fun h => by omega⟩
  · subst h1
    exact ⟨_, _, rfl, hnc, fun _ => ⟨g, 0, rfl, strsAt_owned h rfl⟩⟩

set_option maxHeartbeats 1000000 in
set_option maxRecDepth 100000 in
theorem uses_rule (a : Nat) (p : Value) (l : List ByteArray) (w : World) (hW : WordsV w p l) (hl : 3 ≤ l.length) (hll : l.length ≤ 4001) :
    Calls Tryz.prog 211 #[.agg #[.int .i64 a, .int .i64 2, p]] w fun e w' => ∃ v, e = .returned v ∧ UsedV w' v (rulesL l).flatten ∧ Below w.heap.size w w' := by
  obtain ⟨i0, hi, hz0, hz1, hz2⟩ := info_parts Tryz.info9
  have hW1 : WordsV (w.alloc (.cells #[.int .i64 a, .int .i64 2, p] 325)) p l := hW.below ((Below.refl _ _).alloc (Nat.le_refl _) _)
  have cR := rules_rows a 2 p l _ hW1 hl hll
  obtain ⟨n, hn⟩ : ∃ n, (rulesL l).length = n := ⟨_, rfl⟩
  have hn4 : n ≤ 4002 := by have := rules_len l; omega
  rw [hn] at cR
  have HN : Hid ((rulesL l).length = n) := hid hn
  have CR : Hid _ := hid cR
  have HB1 : Hid (Below w.heap.size w (w.alloc (.cells #[.int .i64 a, .int .i64 2, p] 325))) := hid ((Below.refl _ _).alloc (Nat.le_refl _) _)
  have HLL : Hid (l.length ≤ 4001) := hid hll
  obtain ⟨gw, m, mc, ad, cs, rfl, _⟩ := hW
  clear cR hn hW1 hl hll
  go_enter Tryz.func211, Tryz.ntmps211
  go_wp2_with (first | (go_at_call 202; refine CR.out.mono ?_; rintro e w2 ⟨g, cap, pvs, rfl, hR, hb2⟩))
  have hb2w : Below w.heap.size w w2 := HB1.out.trans (hb2.mono HB1.out.size)
  have HB2 : Hid _ := hid hb2w
  have HR : Hid _ := hid hR
  clear hb2 hb2w hR CR HB1
  go_loopw [3, 18] (fun v i wr => ∃ (k un : Nat), k ≤ n ∧ un ≤ 4001 ∧ i = .int .i64 k ∧ Hid (((rulesL l).take k).flatten.length = un) ∧ wr.ownsRow w2.heap.size 9 1 v un ((((rulesL l).take k).flatten).map Value.string) ∧ Hid (Below w2.heap.size w2 wr)) (fun _ i _ => n - (intOf i).toNat)
  case atStart => exact ⟨0, 0, by omega, by omega, rfl, rfl, World.ownsRow_nil _ _ _ _, Below.refl _ _⟩
  case round =>
    obtain ⟨k, un, hk, hun, rfl, hul, hown, hbr⟩ := hrel
    have hsz := hbr.out.size
    by_cases hlt : k < n
    · obtain ⟨r, q, hr, hq, hrow, hqb⟩ := HR.out.at HN.out hbr.out hlt
      have HT : Hid (((rulesL l).take (k + 1)).flatten = ((rulesL l).take k).flatten ++ r) := hid (by
        obtain ⟨hk', e⟩ := List.getElem?_eq_some_iff.1 hr
        rw [List.take_succ_eq_append_getElem hk', List.flatten_append, e]; simp)
      have hle : un + r.length ≤ 4001 := by
        have h1 := rules_flat_len l (k + 1)
        rw [HT.out, List.length_append, hul.out] at h1
        have := HLL.out
        omega
      rcases hrow.2 with ⟨h1, h2⟩ | ⟨gq, capq, cur, h1, _, _, hnc, _⟩
      · subst h1
        have hr0 : r = [] := List.eq_nil_of_length_eq_zero h2
        subst hr0
        clear hqb hrow hr
        go_wp2_with (first
          | (at_builtin; refine wpList_append_own_none rfl _ _ 39 rfl w2.heap.size 9 i0 1 Tryz.underlying39 hi _ _ _ rfl hown rfl ?_))
        go_roundw
        case rel => exact ⟨k + 1, un, by omega, hun, by go_num, hid (by rw [HT.out, List.append_nil]; exact hul.out), by rw [HT.out, List.append_nil]; exact hown, hbr⟩
        case measure => simp [intOf]; omega
      · subst h1
        obtain ⟨rn, hrn⟩ : ∃ rn, r.length = rn := ⟨_, rfl⟩
        rw [hrn] at hrow hle hnc hq
        have hnews := own_news hrow
        have HRN : Hid (r.length = rn) := hid hrn
        have hlen : (r.map Value.string).length = rn * 1 := by simp [hrn]
        clear hrn hqb hrow hr
        go_wp2_with (first
          | (at_builtin; (refine wpList_append_own _ rfl _ _ 39 rfl w2.heap.size 9 i0 (.string ByteArray.empty) 1 16 Tryz.underlying39 hi hz0 hz1 hz2 rfl (by decide) _ _ _ rfl hown ⟨gq, 0, none⟩ rn capq (r.map Value.string) rfl hlen hnews ?c2 ?c3 ?c4 ?c5 ?_)))
        case c2 => intro u hu; simp at hu; obtain ⟨y, _, rfl⟩ := hu; rfl
        case c3 => unfold maxLen; omega
        case c4 => omega
        case c5 => exact hsz
        intro v' w3 hown3 hgrow3 _
        have hbr3 : Hid (Below w2.heap.size w2 w3) := hid (hbr.out.grown hgrow3 hsz (fun j hj => (hown.lt j hj).1))
        clear hgrow3 hnews
        go_wp2
        go_roundw
        case rel => exact ⟨k + 1, un + rn, by omega, hle, by go_num, hid (by rw [HT.out, List.length_append, hul.out, HRN.out]), by rw [HT.out, List.map_append, List.map_flatten, List.map_take]; exact hown3, hbr3⟩
        case measure => simp [intOf]; omega
    · have HE : Hid ((rulesL l).take k = rulesL l) := hid (List.take_of_length_le (by have := HN.out; omega))
      have HO : Hid _ := hid (used_own hown hul.out.symm)
      clear hown
      go_wp2
      go_ret
      rw [← HE.out]
      exact ⟨_, rfl, HO.out, HB2.out.trans (hbr.out.mono HB2.out.size)⟩

theorem uses_swap (a : Nat) (p : Value) (l : List ByteArray) (w : World) (hW : WordsV w p l) (hl : 3 ≤ l.length) (hll : l.length ≤ 4001) :
    Calls Tryz.prog 211 #[.agg #[.int .i64 a, .int .i64 1, p]] w fun e w' => ∃ v, e = .returned v ∧ UsedV w' v [nth l 1, nth l 2] ∧ Below w.heap.size w w' := by
  obtain ⟨g, n, cap, ad, cs, rfl, h2, h3, h4, h5, h6, h7⟩ := hW
  have had := h7 (by omega)
  subst had
  have hb : Below w.heap.size w (w.alloc (.cells #[.int .i64 a, .int .i64 1, .slice (some ⟨g, 1, none⟩) n cap] 325)) := (Below.refl _ _).alloc (Nat.le_refl _) _
  have hcap2 : 2 ≤ cap := by omega
  have hn2 : 2 ≤ n := by omega
  have hz : ¬ cap = 0 := by omega
  have HU : Hid (UsedV (w.alloc (.cells #[.int .i64 a, .int .i64 1, .slice (some ⟨g, 1, none⟩) n cap] 325)) (.slice (some ⟨g, 1, none⟩) 2 cap) [nth l 1, nth l 2]) := hid (by
    refine ⟨_, _, rfl, hcap2, fun _ => ⟨g, 1, rfl, Nat.lt_of_lt_of_le (lt_of_block h5) hb.size, fun j hj => ?_⟩⟩
    rw [hb.cell (by exact lt_of_block h5), block_cell h5]
    have h' : j = 0 ∨ j = 1 := by simp at hj; omega
    rcases h' with rfl | rfl
    · exact h6 1 (by omega)
    · exact h6 2 (by omega))
  have HB : Hid _ := hid hb
  clear h5 h6 h7 h2 hb hl hll
  go_enter Tryz.func211, Tryz.ntmps211
  go_wp2
  go_ret
  exact ⟨_, rfl, HU.out, HB.out⟩

theorem uses_tok (a : Nat) (p : Value) (l : List ByteArray) (w : World) (hW : WordsV w p l) :
    Calls Tryz.prog 211 #[.agg #[.int .i64 a, .int .i64 0, p]] w fun e w' => ∃ v, e = .returned v ∧ UsedV w' v [] ∧ Below w.heap.size w w' := by
  obtain ⟨g, n, cap, ad, cs, rfl, _⟩ := hW
  have HB : Hid (Below w.heap.size w (w.alloc (.cells #[.int .i64 a, .int .i64 0, .slice ad n cap] 325))) := hid ((Below.refl _ _).alloc (Nat.le_refl _) _)
  go_enter Tryz.func211, Tryz.ntmps211
  go_wp2
  go_ret
  exact ⟨_, rfl, ⟨none, 0, rfl, Nat.le_refl _, fun h => by simp at h⟩, HB.out⟩

end Go.Proofs.YtjjggdcnpndgjaaGreatDoor
