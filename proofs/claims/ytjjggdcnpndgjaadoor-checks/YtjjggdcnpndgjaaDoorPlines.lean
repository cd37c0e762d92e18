/- source.readLines: the lines of a text, up to the first that is none. -/
import Derived.Test.YtjjggdcnpndgjaaDoorLines
import Derived.Test.YtjjggdcnpndgjaaDoorShelf
import Derived.Test.YtjjggdcnpndgjaaDoorKeeps
import Derived.Test.YtjjggdcnpndgjaaDoorWgive1
import Derived.Test.YtjjggdcnpndgjaaDoorWread
import Derived.Deep.LoopGhost
import Derived.Deep.QuietTactic
import Derived.BigQuiet
namespace Go.Proofs.YtjjggdcnpndgjaaDoor
open Go.RowKit

theorem Tryd.info66 : (Tryd.prog.info? 66).map (fun i => (i.zero, i.size, i.bytes)) = some (some (.agg #[.int .i64 0, .int .i64 0, .slice none 0 0]), 3, 40) := by kernel_rfl

def shWord (j : Nat) : ByteArray := if j = 0 then ⟨#[116, 111, 107, 101, 110]⟩ else if j = 1 then ⟨#[115, 119, 97, 112]⟩ else ⟨#[114, 117, 108, 101]⟩
def shK (j i : Nat) : Int := if j = 0 then (if i = 0 then 1 else 3) else if j = 1 then (if i = 2 then 3 else 1) else (if i = 0 then 2 else if i = 1 then 4 else 5)
def lineK (j : Nat) (l : List ByteArray) : Bool := if j = 0 then tokLineB l else if j = 1 then swapLineB l else ruleLineB l

theorem shWord_eq (j : Nat) (x : ByteArray) : (x.toList == (shWord j).toList) = (if j = 0 then x.toList == [116, 111, 107, 101, 110] else if j = 1 then x.toList == [115, 119, 97, 112] else x.toList == [114, 117, 108, 101]) := by
  unfold shWord
  by_cases h0 : j = 0
  · rw [if_pos h0, if_pos h0, ByteArray.toList_eq ⟨#[116, 111, 107, 101, 110]⟩]
  by_cases h1 : j = 1
  · rw [if_neg h0, if_neg h0, if_pos h1, if_pos h1, ByteArray.toList_eq ⟨#[115, 119, 97, 112]⟩]
  · rw [if_neg h0, if_neg h0, if_neg h1, if_neg h1, ByteArray.toList_eq ⟨#[114, 117, 108, 101]⟩]

theorem shapeFits_eq (j : Nat) (l : List ByteArray) : shapeFits j l = (((nth l 0).toList == (shWord j).toList) && lineK j l) := by
  rw [shWord_eq]
  unfold shapeFits lineK
  by_cases h0 : j = 0
  · simp only [if_pos h0]
  by_cases h1 : j = 1
  · simp only [if_neg h0, if_pos h1]
  · simp only [if_neg h0, if_neg h1]

theorem fits_at (j : Nat) (hj : j < 3) (l : List ByteArray) (ad : Option Addr) (g n cap : Nat) (w : World) (hG : Glob w) (hl : l.length = 1 + n) (hn : n ≤ 4000) (hnc : n ≤ cap) (hcap : cap ≤ 9223372036854775807) (hs : ∀ i, (nth l i).size ≤ 4000) (hc : StrsAt w g 0 l) (had : 0 < n → ad = some ⟨g, 1, none⟩) :
    Calls Tryd.prog 28 #[.agg #[.string (shWord j), .int .i64 (shK j 0), .int .i64 (shK j 1), .int .i64 (shK j 2)], .slice ad n cap] w fun e w' => e = .returned (.bool (lineK j l)) ∧ Below w.heap.size w w' := by
  have h' : j = 0 ∨ j = 1 ∨ j = 2 := by omega
  rcases h' with rfl | rfl | rfl
  · exact fits_tok l ad g n cap _ w hG hl hn hnc hcap hs hc had
  · exact fits_swap l ad g n cap _ w hG hl hn hnc hcap hs hc had
  · exact fits_rule l ad g n cap _ w hG hl hn hnc hcap hs hc had

theorem shapes_at (j : Nat) (hj : j < 3) (w : World) : (Instr.index 64 (.agg #[.string ⟨#[116, 111, 107, 101, 110]⟩, .int .i64 1, .int .i64 3, .int .i64 3, .string ⟨#[115, 119, 97, 112]⟩, .int .i64 1, .int .i64 1, .int .i64 3, .string ⟨#[114, 117, 108, 101]⟩, .int .i64 2, .int .i64 4, .int .i64 5]) (.int .i64 j)).run Tryd.prog w =
    .ok (.agg #[.string (shWord j), .int .i64 (shK j 0), .int .i64 (shK j 1), .int .i64 (shK j 2)]) w := by
  have h' : j = 0 ∨ j = 1 ∨ j = 2 := by omega
  have t0 : (Instr.index 64 (.agg #[.string ⟨#[116, 111, 107, 101, 110]⟩, .int .i64 1, .int .i64 3, .int .i64 3, .string ⟨#[115, 119, 97, 112]⟩, .int .i64 1, .int .i64 1, .int .i64 3, .string ⟨#[114, 117, 108, 101]⟩, .int .i64 2, .int .i64 4, .int .i64 5]) (.int .i64 0)).run Tryd.prog w = .ok (.agg #[.string ⟨#[116, 111, 107, 101, 110]⟩, .int .i64 1, .int .i64 3, .int .i64 3]) w := by kernel_rfl
  have t1 : (Instr.index 64 (.agg #[.string ⟨#[116, 111, 107, 101, 110]⟩, .int .i64 1, .int .i64 3, .int .i64 3, .string ⟨#[115, 119, 97, 112]⟩, .int .i64 1, .int .i64 1, .int .i64 3, .string ⟨#[114, 117, 108, 101]⟩, .int .i64 2, .int .i64 4, .int .i64 5]) (.int .i64 1)).run Tryd.prog w = .ok (.agg #[.string ⟨#[115, 119, 97, 112]⟩, .int .i64 1, .int .i64 1, .int .i64 3]) w := by kernel_rfl
  have t2 : (Instr.index 64 (.agg #[.string ⟨#[116, 111, 107, 101, 110]⟩, .int .i64 1, .int .i64 3, .int .i64 3, .string ⟨#[115, 119, 97, 112]⟩, .int .i64 1, .int .i64 1, .int .i64 3, .string ⟨#[114, 117, 108, 101]⟩, .int .i64 2, .int .i64 4, .int .i64 5]) (.int .i64 2)).run Tryd.prog w = .ok (.agg #[.string ⟨#[114, 117, 108, 101]⟩, .int .i64 2, .int .i64 4, .int .i64 5]) w := by kernel_rfl
  rcases h' with rfl | rfl | rfl
  · exact t0
  · exact t1
  · exact t2

theorem progL_snoc_empty {ds : List (Nat × List ByteArray)} {x : Nat × List ByteArray} (h : x.2.length = 1) : progL (ds ++ [x]) = progL ds := by
  unfold progL; simp [List.filter_append, h]
theorem progL_snoc {ds : List (Nat × List ByteArray)} {x : Nat × List ByteArray} (h : ¬ x.2.length = 1) : progL (ds ++ [x]) = progL ds ++ [(x.1, shapeOf x.2, x.2)] := by
  unfold progL; simp [List.filter_append, h]

theorem split_at (ln : ByteArray) (W : World) (hG : Glob W) (hs : ln.size ≤ 4000) : Calls Tryd.prog 27 #[.string ln, .string ⟨#[32]⟩] W fun e w' =>
    ∃ g, e = .returned (.slice (some ⟨g, 0, none⟩) (wordsB ln).length (wordsB ln).length) ∧ W.heap.size ≤ g ∧ w'.heap[g]? = some (.cells ((wordsB ln).map Value.string).toArray 9 (0, 0)) ∧ Below W.heap.size W w' := by
  obtain ⟨m, hm⟩ := hG.max
  refine (Tryd.strings_Split ln ⟨#[32]⟩ m W (by omega) hm (Nat.le_refl 1)).mono ?_
  rintro e w' ⟨rfl, rfl⟩
  rw [split_count, split_words]
  exact ⟨_, rfl, Nat.le_refl _, heap_alloc_new _ _, (Below.refl _ _).alloc (Nat.le_refl _) _⟩

theorem words_str {w : World} {g : Nat} {l : List ByteArray} (h : w.heap[g]? = some (.cells (l.map Value.string).toArray 9 (0, 0))) : StrsAt w g 0 l := by
  refine ⟨lt_of_block h, fun j hj => ?_⟩
  rw [Nat.zero_add, block_cell h]
  unfold nth
  simp [List.getElem?_eq_getElem hj]

theorem words_v {w : World} {g n : Nat} {ad : Option Addr} {l : List ByteArray} (h : w.heap[g]? = some (.cells (l.map Value.string).toArray 9 (0, 0))) (hl : l.length = 1 + n) (hn : n ≤ 4000) (had : 0 < n → ad = some ⟨g, 1, none⟩) : WordsV w (.slice ad n n) l := by
  refine ⟨g, n, n, ad, _, rfl, hl, Nat.le_refl _, by omega, h, fun j hj => ?_, had⟩
  unfold nth
  simp [List.getElem?_eq_getElem hj]

theorem below_drewN' {w w' : World} {n : Nat} (h : w' = w.drewN n) : Below w.heap.size w w' := by subst h; exact ⟨rfl, rfl, rfl, Nat.le_refl _, fun _ _ => rfl⟩

set_option maxHeartbeats 1000000 in
set_option maxRecDepth 100000 in
theorem lines_any (s : ByteArray) (w : World) (hG : Glob w) (hs : s.size ≤ 4000) :
    Calls Tryd.prog 20 #[.string s] w fun e w' => ∃ v pv, e = .returned (.tuple #[v, .int .i64 (scanA s 0).2]) ∧ LnV w' w.heap.size v (progL (scanA s 0).1) pv ∧ Below w.heap.size w w' := by
  obtain ⟨i0, hi, hz0, hz1, hz2⟩ := info_parts Tryd.info66
  have HG : Hid (Glob w) := hid hG
  clear hG
  go_enter Tryd.func20, Tryd.ntmps20
  go_wp2
  go_step3
  go_wp2
  go_step3
  go_wp2
  go_loopg [2, 3] s.size (fun g v a wr => ∃ (k : Nat) (ds : List (Nat × List ByteArray)) (pv : List Value), k + g = s.size ∧ a = .int .i64 k ∧ Hid (scanA s 0 = (ds ++ (scanA s k).1, (scanA s k).2)) ∧ Hid ((progL ds).length ≤ k) ∧
    Hid (LnV wr w.heap.size v (progL ds) pv) ∧ Hid (Below w.heap.size w wr))
  case atStart => exact ⟨0, [], [], by omega, rfl, hid (by simp), hid (by simp [progL]), LnV.nil _ _, Below.refl _ _⟩
  case round =>
    obtain ⟨k, ds, pv, hkg, rfl, hsc, hdl, hV, hbr⟩ := hrel
    have hsz := hbr.out.size
    have HGr : Hid (Glob wr) := hid (HG.out.below hbr.out HG.out.size)
    by_cases hlt : k < s.size
    · obtain ⟨ln, nx, hln⟩ : ∃ ln nx, lineB s k = (ln, nx) := ⟨_, _, rfl⟩
      have hcut := cut_line s k
      rw [hln] at hcut
      by_cases h0 : nx = 0
      · have cC : Hid (Calls Tryd.prog 26 #[.string (s.extract k s.size), .string ⟨#[10]⟩] wr fun e w' => (∃ a b, e = .returned (.tuple #[.string a, .string b, .bool false])) ∧ Below wr.heap.size wr w') := hid (by
          obtain ⟨m, hm⟩ := HGr.out.max
          refine (Tryd.strings_Cut (s.extract k s.size) ⟨#[10]⟩ m wr (by simp; omega) hm).mono ?_
          rintro e w' ⟨rfl, n, hn⟩
          exact ⟨⟨_, _, by rw [hcut.2 h0]⟩, below_drewN' hn⟩)
        have HE : Hid (scanA s 0 = (ds, k)) := hid (by
          rw [hsc.out, scanA_bad hlt (.inl (by rw [hln]; exact h0))]; simp)
        clear hsc hcut hln
        go_wp2_with (go_at_call 26; refine cC.out.mono ?_; rintro e w1 ⟨⟨ca, cb, rfl⟩, hb1⟩)
        rw [Exit.noGoto_ret]
        go_ret2
        rw [HE.out]
        exact ⟨_, _, rfl, hV.out.below hb1, hbr.out.trans (hb1.mono hsz)⟩
      · have cC : Hid (Calls Tryd.prog 26 #[.string (s.extract k s.size), .string ⟨#[10]⟩] wr fun e w' => (∃ b, e = .returned (.tuple #[.string ln, .string b, .bool true])) ∧ Below wr.heap.size wr w') := hid (by
          obtain ⟨m, hm⟩ := HGr.out.max
          refine (Tryd.strings_Cut (s.extract k s.size) ⟨#[10]⟩ m wr (by simp; omega) hm).mono ?_
          rintro e w' ⟨rfl, n, hn⟩
          exact ⟨⟨_, by rw [(hcut.1 h0).1, (hcut.1 h0).2]⟩, below_drewN' hn⟩)
        have hgt := lineB_next_gt (s := s) (a := k) (by rw [hln]; exact h0)
        rw [hln] at hgt
        simp only at hgt
        have hnx : k + ln.size + 1 ≤ s.size := by omega
        have hNX : nx.toNat = k + ln.size + 1 := by omega
        have HL : Hid (isLineB (wordsB ln) = true → scanA s 0 = ((ds ++ [(k, wordsB ln)]) ++ (scanA s (k + ln.size + 1)).1, (scanA s (k + ln.size + 1)).2)) := hid fun h => by
          rw [hsc.out, scanA_line hlt (by rw [hln]; exact h0) (by rw [hln]; exact h), hln]
          simp only [hNX]
          simp
        have HB : Hid (isLineB (wordsB ln) = false → scanA s 0 = (ds, k)) := hid fun h => by
          rw [hsc.out, scanA_bad hlt (.inr (by rw [hln]; exact h))]; simp
        have hlz : ln.size ≤ 4000 := by omega
        clear hsc hcut hln hgt hNX h0
        cases he : ln.toList.isEmpty
        · have HW : Hid (isLineB (wordsB ln) = (shapeFits 0 (wordsB ln) || (shapeFits 1 (wordsB ln) || shapeFits 2 (wordsB ln)))) := hid (isLine_shapes he)
          have hwl := wordsB_len ln
          have hwz := fun i => Nat.le_trans (wordsB_size ln i) hlz
          obtain ⟨L, hn⟩ : ∃ L, (wordsB ln).length = L := ⟨_, rfl⟩
          have cS : Hid (∀ W, Glob W → Calls Tryd.prog 27 #[.string ln, .string ⟨#[32]⟩] W fun e w' =>
            ∃ g, e = .returned (.slice (some ⟨g, 0, none⟩) L L) ∧ W.heap.size ≤ g ∧ w'.heap[g]? = some (.cells ((wordsB ln).map Value.string).toArray 9 (0, 0)) ∧ Below W.heap.size W w') := hid fun W hW => by
              rw [← hn]; exact split_at ln W hW hlz
          rw [hn] at hwl
          have HN : Hid ((wordsB ln).length = L) := hid hn
          clear hn
          have hL0 : (0 : Int) < L := by omega
          have hL1 : (1 : Int) ≤ L := by omega
          have hL2 : 0 < L := by omega
          have hL3 : 1 ≤ L := by omega
          go_wp2_with (first
            | (go_at_call 26; refine cC.out.mono ?_; rintro e w1 ⟨⟨cb, rfl⟩, hb1⟩)
            | (go_at_call 27; refine (cS.out _ (HGr.out.below hb1 HGr.out.size)).mono ?_; rintro e w2 ⟨g, rfl, hg, hblk, hb2⟩; obtain ⟨tS, fS, hshp⟩ := ((HGr.out.below hb1 HGr.out.size).below hb2 (HGr.out.below hb1 HGr.out.size).size).shapes)
            | (refine wpList_load_row rfl 64 _ rfl 0 rfl _ _ _ _ hshp Tryd.underlying64 rfl (by kernel_rfl) ?_))
          have HK : Hid (StrsAt w2 g 0 (wordsB ln)) := hid (words_str hblk)
          have HBk : Hid (w2.heap[g]? = some (.cells ((wordsB ln).map Value.string).toArray 9 (0, 0))) := hid hblk
          have HB2 : Hid (Below wr.heap.size wr w2) := hid (hb1.trans (hb2.mono hb1.size))
          have HG2 : Hid (Glob w2) := hid (HGr.out.below HB2.out HGr.out.size)
          have HV2 : Hid (LnV w2 w.heap.size u2 (progL ds) pv) := hid (hV.out.below HB2.out)
          have HR2 : Hid (Below w.heap.size w w2) := hid (hbr.out.trans (HB2.out.mono hsz))
          have hgl := lt_of_block hblk
          clear cC cS hb1 hb2 hblk hshp HGr hV hbr HB2
          go_loopg [2, 3, 36] 3 (fun gi v' a' i wi => ∃ j : Nat, j + gi = 3 ∧ v' = u2 ∧ a' = .int .i64 k ∧ i = .int .i64 j ∧ Hid (∀ t, t < j → shapeFits t (wordsB ln) = false) ∧ Hid (Below w2.heap.size w2 wi))
          case atStart => exact ⟨0, by omega, rfl, rfl, rfl, hid (fun t h => by omega), hid (Below.refl _ _)⟩
          case round =>
            obtain ⟨j, hjg, rfl, rfl, rfl, hno, hbi⟩ := hrel
            by_cases hj : j < 3
            · have hix := shapes_at j hj
              have c0 : wr.cell? ⟨g, 0, none⟩ = some (.string (nth (wordsB ln) 0)) := by
                have h := HK.out.later hbi.out
                simpa using h.2 0 (by rw [HN.out]; omega)
              have hgr : g < wr.heap.size := Nat.lt_of_lt_of_le hgl hbi.out.size
              cases hq : ((nth (wordsB ln) 0).toList == (shWord j).toList)
              · have HF : Hid (shapeFits j (wordsB ln) = false) := hid (by rw [shapeFits_eq, hq]; rfl)
                go_wp2
                go_quiet (fail)
                go_wp2
                go_roundg (gk - 1)
                case measure => omega
                case rel => exact ⟨j + 1, by omega, rfl, rfl, by go_num, hid (upto_next hno.out HF.out), hid ((hbi.out.alloc hbi.out.size _).trans (below_drewN' rfl |>.mono (by have := hbi.out.size; simp; omega)))⟩
              · obtain ⟨W2, hW2⟩ : ∃ W2, W2 = wr.alloc (.cells #[.string (shWord j), .int .i64 (shK j 0), .int .i64 (shK j 1), .int .i64 (shK j 2)] 63) := ⟨_, rfl⟩
                have hb2 : W2.heap[wr.heap.size]? = some (.cells #[.string (shWord j), .int .i64 (shK j 0), .int .i64 (shK j 1), .int .i64 (shK j 2)] 63 (0, 0)) := by rw [hW2]; exact heap_alloc_new _ _
                have HW2 : Hid (Below wr.heap.size wr W2) := hid (by rw [hW2]; exact (Below.refl _ _).alloc (Nat.le_refl _) _)
                have c1 : W2.cell? ⟨g, 0, none⟩ = some (.string (nth (wordsB ln) 0)) := (HW2.out.cell hgr).trans c0
                have c2 : W2.cell? ⟨wr.heap.size, 0, none⟩ = some (.string (shWord j)) := by rw [block_cell hb2]; rfl
                go_wp2
                rw [← hW2]
                clear hW2
                have c3 : W2.cell? ⟨wr.heap.size, 1, none⟩ = some (.int .i64 (shK j 0)) := by rw [block_cell hb2]; rfl
                have c4 : W2.cell? ⟨wr.heap.size, 2, none⟩ = some (.int .i64 (shK j 1)) := by rw [block_cell hb2]; rfl
                have c5 : W2.cell? ⟨wr.heap.size, 3, none⟩ = some (.int .i64 (shK j 2)) := by rw [block_cell hb2]; rfl
                have HWr : Hid (wr.heap.size < W2.heap.size ∧ g < W2.heap.size) := hid ⟨lt_of_block hb2, Nat.lt_trans hgr (lt_of_block hb2)⟩
                have HGK : Hid (Glob W2.drew ∧ StrsAt W2.drew g 0 (wordsB ln)) := by
                  have hbd : Below w2.heap.size w2 W2 := hbi.out.trans (HW2.out.mono hbi.out.size)
                  have hbe : Below w2.heap.size w2 W2.drew := hbd.trans ⟨rfl, rfl, rfl, Nat.le_refl _, fun _ _ => rfl⟩
                  exact hid ⟨HG2.out.below hbe HG2.out.size, HK.out.later hbe⟩
                have cF : Hid (∀ ad, (0 < L - 1 → ad = some ⟨g, 1, none⟩) → Calls Tryd.prog 28 #[.agg #[.string (shWord j), .int .i64 (shK j 0), .int .i64 (shK j 1), .int .i64 (shK j 2)], .slice ad (L - 1) (L - 1)] W2.drew fun e w' => e = .returned (.bool (lineK j (wordsB ln))) ∧
                    w'.cell? ⟨g, 0, none⟩ = some (.string (nth (wordsB ln) 0)) ∧ w'.cell? ⟨wr.heap.size, 0, none⟩ = some (.string (shWord j)) ∧ w'.cell? ⟨wr.heap.size, 1, none⟩ = some (.int .i64 (shK j 0)) ∧ w'.cell? ⟨wr.heap.size, 2, none⟩ = some (.int .i64 (shK j 1)) ∧
                    w'.cell? ⟨wr.heap.size, 3, none⟩ = some (.int .i64 (shK j 2)) ∧ Below W2.heap.size W2 w') := hid fun ad had => by
                  refine (fits_at j hj (wordsB ln) ad g (L - 1) (L - 1) _ HGK.out.1 (by rw [HN.out]; omega) (by omega) (Nat.le_refl _) (by omega) hwz HGK.out.2 had).mono ?_
                  rintro e w1 ⟨rfl, hbF⟩
                  have hbF : Below W2.heap.size W2 w1 := (⟨rfl, rfl, rfl, Nat.le_refl _, fun _ _ => rfl⟩ : Below W2.heap.size W2 W2.drew).trans hbF
                  exact ⟨rfl, (hbF.cell HWr.out.2).trans c1, (hbF.cell HWr.out.1).trans c2, (hbF.cell HWr.out.1).trans c3, (hbF.cell HWr.out.1).trans c4, (hbF.cell HWr.out.1).trans c5, hbF⟩
                clear hb2
                obtain ⟨b, hb⟩ : ∃ b, b = wr.heap.size := ⟨_, rfl⟩
                rw [← hb] at c2 c3 c4 c5 HWr cF
                rw [← hb]
                clear hb
                go_region_held3 (fun w' => w'.cell? ⟨g, 0, none⟩ = some (.string (nth (wordsB ln) 0)) ∧ w'.cell? ⟨b, 0, none⟩ = some (.string (shWord j)) ∧ w'.cell? ⟨b, 1, none⟩ = some (.int .i64 (shK j 0)) ∧ w'.cell? ⟨b, 2, none⟩ = some (.int .i64 (shK j 1)) ∧
                  w'.cell? ⟨b, 3, none⟩ = some (.int .i64 (shK j 2)) ∧ Hid (Below W2.heap.size W2 w')) ((refine ⟨?_, ?_, ?_, ?_, ?_, ?_⟩; go_keep; go_keep; go_keep; go_keep; go_keep; first | exact hid ⟨rfl, rfl, rfl, Nat.le_refl _, fun _ _ => rfl⟩ | exact hid hbF | assumption))
                  (first | (go_at_call 28; refine (cF.out _ (fun h0 => if_neg (by omega))).mono ?_; rintro e w1 ⟨rfl, k0, k1, k2, k3, k4, hbF⟩; try dsimp only))
                cases hlk : lineK j (wordsB ln)
                · have HF : Hid (shapeFits j (wordsB ln) = false) := hid (by rw [shapeFits_eq, hq, hlk]; rfl)
                  obtain ⟨adl, hadl⟩ : ∃ adl, adl = (if L = 1 then some (⟨g, 0, none⟩ : Addr) else some ⟨g, 1, none⟩) := ⟨_, rfl⟩
                  rw [← hadl]
                  clear hadl
                  go_wp2
                  go_roundg (gk - 1)
                  case measure => omega
                  case rel => exact ⟨j + 1, by omega, rfl, rfl, by go_num, hid (upto_next hno.out HF.out), hid (hbi.out.trans (HW2.out.trans (hbF.mono HW2.out.size) |>.mono hbi.out.size))⟩
                · have hFt : shapeFits j (wordsB ln) = true := by rw [shapeFits_eq, hq, hlk]; rfl
                  have hsf := shape_fits hj hFt
                  have hIL : isLineB (wordsB ln) = true := by
                    rw [HW.out]
                    have h' : j = 0 ∨ j = 1 ∨ j = 2 := by omega
                    rcases h' with rfl | rfl | rfl <;> rw [hFt] <;> simp
                  have HS : Hid _ := hid (HL.out hIL)
                  have HP : Hid (progL (ds ++ [(k, wordsB ln)]) = progL ds ++ [(k, j, wordsB ln)]) := hid (by rw [progL_snoc hsf.2, hsf.1])
                  have hne : ¬ L = 1 := fun e => hsf.2 (HN.out.trans e)
                  clear HL HB HW hFt hsf hIL
                  have hbz : Below w2.heap.size w2 w1 := hbi.out.trans ((HW2.out.trans (hbF.mono HW2.out.size)).mono hbi.out.size)
                  have hsl : LnV w1 w.heap.size u2 (progL ds) pv := HV2.out.below hbz
                  have hbw : Below w.heap.size w w1 := HR2.out.trans (hbz.mono HR2.out.size)
                  have HWV : Hid (WordsV w1 (.slice (some ⟨g, 1, none⟩) (L - 1) (L - 1)) (wordsB ln)) := hid (words_v ((hbz.block g hgl).trans HBk.out) (by rw [HN.out]; omega) (by omega) (fun _ => rfl))
                  have HSL : Hid _ := hid hsl
                  have HBW : Hid _ := hid hbw
                  clear hbz hbw
                  have hsw := HBW.out.size
                  have hrow := hsl.row
                  clear hsl
                  have hll : (progL ds).length ≤ 4000 := by have := hdl.out; omega
                  go_wp2_with (first
                    | (at_builtin; refine wpList_append_lies _ rfl _ _ 41 rfl w.heap.size 66 i0 (.agg #[.int .i64 0, .int .i64 0, .slice none 0 0]) 3 40 Tryd.underlying41 hi hz0 hz1 hz2 rfl (by decide) _ _ _ rfl (hrow.alloc _) ⟨w1.heap.size, 0, none⟩ 1 1 [.int .i64 k, .int .i64 j, .slice (some ⟨g, 1, none⟩) (L - 1) (L - 1)] rfl rfl (World.news_of_block (heap_alloc_new w1 _)) ?c2 (Nat.le_refl 1) ?c3 ?c4 ?c5 _ rfl ?_))
                  case c2 => intro u hu; simp at hu; rcases hu with rfl | rfl | rfl <;> rfl
                  case c3 => unfold maxLen; omega
                  case c4 => omega
                  case c5 => simp; omega
                  intro g3 cap3 w3 hown3 hgrow3 hat3 hlt3
                  have HL3 : Hid (LnV w3 w.heap.size (.slice (some ⟨g3, 0, none⟩) ((progL ds).length + 1) cap3) (progL ds ++ [(k, j, wordsB ln)]) (pv ++ [.slice (some ⟨g, 1, none⟩) (L - 1) (L - 1)])) :=
                    hid (HSL.out.push (((Keeps.refl _ _).alloc _).grown hgrow3 (fun q hq => .inl (by rw [hq]; simp))) HWV.out hown3)
                  have HB3 : Hid (Below w.heap.size w w3) := hid ((HBW.out.alloc hsw (.cells #[.int .i64 k, .int .i64 j, .slice (some ⟨g, 1, none⟩) (L - 1) (L - 1)] 66)).grown hgrow3 (by simp; omega) (fun g hg => (hrow.lt g hg).1))
                  clear hown3 hgrow3 hat3 hlt3
                  go_wp2
                  go_roundg (s.size - (k + ln.size + 1))
                  case measure => omega
                  case rel => exact ⟨k + ln.size + 1, ds ++ [(k, wordsB ln)], _, by omega, by go_num, HS, hid (by rw [HP.out]; have := hdl.out; simp; omega), hid (by rw [HP.out]; exact HL3.out), HB3⟩
            · have hj3 : j = 3 := by omega
              have HE : Hid (scanA s 0 = (ds, k)) := hid (HB.out (by
                rw [HW.out, hno.out 0 (by omega), hno.out 1 (by omega), hno.out 2 (by omega)]; rfl))
              clear HL HB HW
              go_wp2
              try rw [Exit.noGoto_ret]
              go_ret2
              rw [HE.out]
              exact ⟨_, _, rfl, HV2.out.below hbi.out, HR2.out.trans (hbi.out.mono HR2.out.size)⟩
        · have HS : Hid _ := hid (HL.out (words_empty he).2)
          have HP : Hid (progL (ds ++ [(k, wordsB ln)]) = progL ds) := hid (progL_snoc_empty (words_empty he).1)
          clear HL HB
          go_wp2_with (go_at_call 26; refine cC.out.mono ?_; rintro e w1 ⟨⟨cb, rfl⟩, hb1⟩)
          go_roundg (s.size - (k + ln.size + 1))
          case measure => omega
          case rel => exact ⟨k + ln.size + 1, ds ++ [(k, wordsB ln)], pv, by omega, by go_num, HS, hid (by rw [HP.out]; have := hdl.out; omega), hid (by rw [HP.out]; exact hV.out.below hb1), hid (hbr.out.trans (hb1.mono hsz))⟩
    · have HE : Hid (scanA s 0 = (ds, k)) := hid (by rw [hsc.out, scanA_end hlt]; simp)
      clear hsc
      go_wp2
      try rw [Exit.noGoto_ret]
      go_ret2
      rw [HE.out]
      exact ⟨_, _, rfl, hV.out, hbr.out⟩

end Go.Proofs.YtjjggdcnpndgjaaDoor
