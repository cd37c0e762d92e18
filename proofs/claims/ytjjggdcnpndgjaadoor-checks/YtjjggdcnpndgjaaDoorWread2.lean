import Derived.Test.YtjjggdcnpndgjaaDoorWread
namespace Go.Proofs.YtjjggdcnpndgjaaDoor
open Go.RowKit

/-- Where the lines go on to the text's end, each place ahead of it begins one. -/
theorem line_here {s : ByteArray} {k : Nat} {ln : ByteArray} {nx : Int} (hln : lineB s k = (ln, nx)) (hlt : k < s.size) (hend : (scanA s k).2 = s.size) :
    ¬ nx = 0 ∧ isLineB (wordsB ln) = true ∧ k + ln.size + 1 = nx.toNat ∧ nx.toNat ≤ s.size ∧ 0 ≤ nx ∧ scanA s k = ((k, wordsB ln) :: (scanA s nx.toNat).1, (scanA s nx.toNat).2) := by
  have hb : ¬ ((lineB s k).2 = 0 ∨ isLineB (wordsB (lineB s k).1) = false) := fun hb => by
    rw [scanA_bad hlt hb] at hend
    simp only at hend
    omega
  have h0 : ¬ (lineB s k).2 = 0 := fun e => hb (.inl e)
  have h1 : isLineB (wordsB (lineB s k).1) = true := by
    cases hq : isLineB (wordsB (lineB s k).1) with
    | true => rfl
    | false => exact absurd (.inr hq) hb
  have h2 := lineB_next_gt h0
  have h3 := scanA_line hlt h0 h1
  rw [hln] at h0 h1 h2 h3
  exact ⟨h0, h1, h2.1, h2.2.1, h2.2.2, h3⟩

theorem grV_new {w : World} {B : Nat} (hB : B ≤ w.heap.size) : GrV (w.alloc (.cells #[.slice none 0 0, .slice none 0 0, .slice none 0 0, .slice none 0 0] 39)) B w.heap.size G0 (.slice none 0 0) (.slice none 0 0) (.slice none 0 0) (.slice none 0 0) [] where
  blk := heap_alloc_new w _
  hb := hB
  toks := World.ownsRow_nil _ _ _ _
  swps := World.ownsRow_nil _ _ _ _
  names := World.ownsRow_nil _ _ _ _
  rules := World.ownsRow_nil _ _ _ _
  pvl := rfl
  parts := fun i r p hr => by simp [G0] at hr

set_option maxHeartbeats 2000000 in
set_option maxRecDepth 100000 in
theorem read_lines (s : ByteArray) (w : World) (hs : s.size ≤ 4000) (hok : (scanA s 0).2 = s.size) :
    Calls Tryd.prog 5 #[.string s] w fun e w' => ReadEnd s w e w' := by
  have HR : Hid (readB s = match pass2 (scanA s 0).1 G0 (-1) with
    | (_, _, some a) => (3, (a : Int), G0)
    | (G, m, none) => if 0 ≤ m then (4, m, G0) else if G.names.length = 0 then (4, (s.size : Int), G0) else match (scanA s 0).1.find? fun x => unknownB G x.2 with
        | some x => (5, (x.1 : Int), G0)
        | none => (0, 0, G)) := hid (by unfold readB; rw [if_neg (by omega), if_neg (by omega)]; first | done | rfl)
  have HOk : Hid ((scanA s 0).2 = s.size) := hid hok
  clear hok
  go_enter Tryd.func5, Tryd.ntmps5
  go_wp2
  go_loopw [5] (fun a wr => ∃ k : Nat, k ≤ s.size ∧ a = .int .i64 k ∧ Hid ((scanA s k).2 = s.size) ∧ Hid (Below w.heap.size w wr)) (fun a _ => s.size - (intOf a).toNat)
  case atStart => exact ⟨0, Nat.zero_le _, rfl, HOk, Below.refl _ _⟩
  case round =>
    obtain ⟨k, hk, rfl, hsc, hbr⟩ := hrel
    by_cases hlt : k < s.size
    · obtain ⟨ln, nx, hln⟩ : ∃ ln nx, lineB s k = (ln, nx) := ⟨_, _, rfl⟩
      have hlz : ln.size ≤ 4000 := by have := lineB_size s k; rw [hln] at this; simp only at this; omega
      have cL : Hid (∀ W, Calls Tryd.prog 8 #[.string s, .int .i64 k] W fun e w' => e = .returned (.tuple #[.string ln, .int .i64 nx]) ∧ W = w') := hid fun W => by
        have := lineAt_any s k W hs hk
        rw [hln] at this
        exact this
      have hwl := wordsB_len ln
      obtain ⟨h0, hL, h1, h2, h3, h4⟩ := line_here hln hlt hsc.out
      have HH : Hid (k < nx.toNat ∧ nx.toNat ≤ s.size ∧ 0 ≤ nx) := hid ⟨by omega, h2, h3⟩
      have HN : Hid ((scanA s nx.toNat).2 = s.size) := hid (by have h5 := hsc.out; rw [h4] at h5; exact h5)
      clear hln h1 h2 h3 h4
      go_wp2_with (first
        | (go_at_call 8; refine (cL.out _).mono ?_; rintro e w' ⟨rfl, rfl⟩)
        | (go_at_call 10; refine (words_any ln _ hlz).mono ?_; rintro e w1 ⟨g, cap, rfl, hg, hst, hb1⟩)
        | (go_at_call 9; refine (isLine_any (wordsB ln) g _ cap _ rfl (by omega) (by omega) (fun j => Nat.le_trans (wordsB_size ln j) hlz) hst).mono ?_; rintro e w2 ⟨rfl, rfl⟩; rw [hL]))
      go_roundw
      case rel => exact ⟨nx.toNat, HH.out.2.1, by rw [Int.toNat_of_nonneg HH.out.2.2], HN, hid (hbr.out.trans (hb1.mono hbr.out.size))⟩
      case measure => have := HH.out; simp [intOf]; omega
    · obtain ⟨W, hW⟩ : ∃ W, W = wr := ⟨_, rfl⟩
      subst hW
      have hsz := hbr.out.size
      have HG0 : Hid _ := hid (grV_new (w := W) hsz)
      have HB0 : Hid _ := hid (hbr.out.alloc hsz (.cells #[.slice none 0 0, .slice none 0 0, .slice none 0 0, .slice none 0 0] 39))
      go_wp2
      obtain ⟨gb, hgb⟩ : ∃ gb, gb = W.heap.size := ⟨_, rfl⟩
      rw [← hgb]
      have HG1 : Hid (GrAt (W.alloc (.cells #[.slice none 0 0, .slice none 0 0, .slice none 0 0, .slice none 0 0] 39)) w.heap.size gb G0) := hid (by rw [hgb]; exact ⟨_, _, _, _, _, HG0.out⟩)
      clear hgb HG0 hsc hbr
      go_loopw [10, 11] (fun m a wr => ∃ (k : Nat) (G : Gr) (mm : Int), k ≤ s.size ∧ a = .int .i64 k ∧ m = .int .i64 mm ∧ -1 ≤ mm ∧ mm ≤ 4000 ∧ Hid (pass2 (scanA s 0).1 G0 (-1) = pass2 (scanA s k).1 G mm) ∧
          Hid ((scanA s k).2 = s.size) ∧ Hid (GrAt wr w.heap.size gb G) ∧ Hid (GrLe G k) ∧ Hid (Below w.heap.size w wr)) (fun _ a _ => s.size - (intOf a).toNat)
      case atStart => exact ⟨0, G0, -1, Nat.zero_le _, rfl, rfl, by omega, by omega, rfl, HOk, HG1, ⟨by simp [G0], by simp [G0], by simp [G0], by simp [G0]⟩, HB0⟩
      case round =>
        clear HG1 HB0
        obtain ⟨k, G, mm, hk, rfl, rfl, hm1, hm2, hp2, hsc, hG, hle, hbr⟩ := hrel
        by_cases hlt : k < s.size
        · obtain ⟨ln, nx, hln⟩ : ∃ ln nx, lineB s k = (ln, nx) := ⟨_, _, rfl⟩
          have hlz : ln.size ≤ 4000 := by have := lineB_size s k; rw [hln] at this; simp only at this; omega
          have cL : Hid (∀ W, Calls Tryd.prog 8 #[.string s, .int .i64 k] W fun e w' => e = .returned (.tuple #[.string ln, .int .i64 nx]) ∧ W = w') := hid fun W => by
            have := lineAt_any s k W hs hk
            rw [hln] at this
            exact this
          have hwl := wordsB_len ln
          obtain ⟨h0, hL, h1, h2, h3, h4⟩ := line_here hln hlt hsc.out
          have hsz := hbr.out.size
          obtain ⟨G', ee, hgv⟩ : ∃ G' ee, giveB G (wordsB ln) = (G', ee) := ⟨_, _, rfl⟩
          have hle' : GrLe G' nx.toNat := by
            have h5 := hle.out.give hL
            rw [hgv] at h5
            obtain ⟨a1, a2, a3, a4⟩ := h5
            exact ⟨by simp only at a1; omega, by simp only at a2; omega, by simp only at a3; omega, by simp only at a4; omega⟩
          have HH : Hid (k < nx.toNat ∧ nx.toNat ≤ s.size ∧ 0 ≤ nx) := hid ⟨by omega, h2, h3⟩
          have HN : Hid ((scanA s nx.toNat).2 = s.size) := hid (by have h5 := hsc.out; rw [h4] at h5; exact h5)
          have HP : Hid (pass2 (scanA s 0).1 G0 (-1) = if ee = 3 then (G, mm, some k) else pass2 (scanA s nx.toNat).1 G' (if ee = 4 ∧ mm < 0 then (k : Int) else mm)) := hid (by
            rw [hp2.out, h4]
            simp only [pass2, hgv])
          have HLe : Hid (GrLe G' nx.toNat) := hid hle'
          have cG : Hid (∀ (g cap : Nat) (W : World), wr.heap.size ≤ g → Below wr.heap.size wr W → StrsAt W g 0 (wordsB ln) →
              Calls Tryd.prog 11 #[.pointer (some ⟨gb, 0, none⟩), .slice (some ⟨g, 0, none⟩) (wordsB ln).length cap] W fun e w' => e = .returned (.int .i64 ee) ∧ GrAt w' w.heap.size gb G' ∧ Below w.heap.size W w') := hid fun g cap W hg hb hst => by
            have h5 := hle.out
            have := give_any (wordsB ln) g _ cap G wr W w.heap.size gb hG.out hb hsz ⟨by have := h5.1; omega, by have := h5.2.1; omega, by have := h5.2.2.1; omega, by have := h5.2.2.2; omega⟩ hg rfl (by omega) (by omega) hst hL
            rw [hgv] at this
            exact this
          clear hln h1 h2 h3 h4 h0 hgv hle' hp2 hle hG
          by_cases e3 : ee = 3
          · have HPc : Hid (pass2 (scanA s 0).1 G0 (-1) = (G, mm, some k)) := hid (HP.out.trans (by rw [if_pos e3]))
            clear HP
            subst e3
            go_wp2_with (first
              | (go_at_call 8; refine (cL.out _).mono ?_; rintro e w' ⟨rfl, rfl⟩)
              | (go_at_call 10; refine (words_any ln _ hlz).mono ?_; rintro e w1 ⟨g, cap, rfl, hg, hst, hb1⟩)
              | (go_at_call 11; refine (cG.out g cap _ hg hb1 hst).mono ?_; rintro e w2 ⟨rfl, hg2, hb2⟩))
            go_ret3
            exact readEnd_err (by rw [HR.out, HPc.out]) (by decide) ((hbr.out.trans (hb1.mono hsz)).trans hb2)
          · by_cases e4 : ee = 4
            · have HPa : Hid (mm < 0 → pass2 (scanA s 0).1 G0 (-1) = pass2 (scanA s nx.toNat).1 G' k) := hid fun h => HP.out.trans (by rw [if_neg e3, if_pos ⟨e4, h⟩])
              have HPb : Hid (¬ mm < 0 → pass2 (scanA s 0).1 G0 (-1) = pass2 (scanA s nx.toNat).1 G' mm) := hid fun h => HP.out.trans (by rw [if_neg e3, if_neg (fun h' => h h'.2)])
              clear HP
              subst e4
              by_cases hmm : mm < 0
              · have HPc : Hid _ := hid (HPa.out hmm)
                clear HPa HPb
                go_wp2_with (first
                  | (go_at_call 8; refine (cL.out _).mono ?_; rintro e w' ⟨rfl, rfl⟩)
                  | (go_at_call 10; refine (words_any ln _ hlz).mono ?_; rintro e w1 ⟨g, cap, rfl, hg, hst, hb1⟩)
                  | (go_at_call 11; refine (cG.out g cap _ hg hb1 hst).mono ?_; rintro e w2 ⟨rfl, hg2, hb2⟩))
                go_roundw
                case rel => exact ⟨nx.toNat, G', k, HH.out.2.1, by rw [Int.toNat_of_nonneg HH.out.2.2], rfl, by omega, by omega, HPc, HN, hid hg2, HLe, hid ((hbr.out.trans (hb1.mono hsz)).trans hb2)⟩
                case measure => have := HH.out; simp [intOf]; omega
              · have HPc : Hid _ := hid (HPb.out hmm)
                clear HPa HPb
                go_wp2_with (first
                  | (go_at_call 8; refine (cL.out _).mono ?_; rintro e w' ⟨rfl, rfl⟩)
                  | (go_at_call 10; refine (words_any ln _ hlz).mono ?_; rintro e w1 ⟨g, cap, rfl, hg, hst, hb1⟩)
                  | (go_at_call 11; refine (cG.out g cap _ hg hb1 hst).mono ?_; rintro e w2 ⟨rfl, hg2, hb2⟩))
                go_roundw
                case rel => exact ⟨nx.toNat, G', mm, HH.out.2.1, by rw [Int.toNat_of_nonneg HH.out.2.2], rfl, by omega, by omega, HPc, HN, hid hg2, HLe, hid ((hbr.out.trans (hb1.mono hsz)).trans hb2)⟩
                case measure => have := HH.out; simp [intOf]; omega
            · have HPc : Hid (pass2 (scanA s 0).1 G0 (-1) = pass2 (scanA s nx.toNat).1 G' mm) := hid (HP.out.trans (by rw [if_neg e3, if_neg (by omega)]))
              clear HP
              go_wp2_with (first
                | (go_at_call 8; refine (cL.out _).mono ?_; rintro e w' ⟨rfl, rfl⟩)
                | (go_at_call 10; refine (words_any ln _ hlz).mono ?_; rintro e w1 ⟨g, cap, rfl, hg, hst, hb1⟩)
                | (go_at_call 11; refine (cG.out g cap _ hg hb1 hst).mono ?_; rintro e w2 ⟨rfl, hg2, hb2⟩))
              go_roundw
              case rel => exact ⟨nx.toNat, G', mm, HH.out.2.1, by rw [Int.toNat_of_nonneg HH.out.2.2], rfl, by omega, by omega, HPc, HN, hid hg2, HLe, hid ((hbr.out.trans (hb1.mono hsz)).trans hb2)⟩
              case measure => have := HH.out; simp [intOf]; omega
        · have hpe : pass2 (scanA s 0).1 G0 (-1) = (G, mm, none) := by
            rw [hp2.out, scanA_end hlt]; rfl
          have HR2 : Hid (readB s = if 0 ≤ mm then ((4, mm, G0) : Int × Int × Gr) else if G.names.length = 0 then (4, (s.size : Int), G0) else match (scanA s 0).1.find? fun x => unknownB G x.2 with
              | some x => (5, (x.1 : Int), G0)
              | none => (0, 0, G)) := hid (by rw [HR.out, hpe])
          obtain ⟨vT, vS, vN, vR, pv, hV⟩ := hG.out
          obtain ⟨aN, kN, hvN⟩ := own_slice hV.names
          have cN := hV.cells.2.2.1
          rw [hvN] at cN
          have hsz := hbr.out.size
          have hle2 := hle.out
          have hb5 : G.toks.length ≤ 4000 ∧ G.names.length ≤ 4000 := ⟨by have := hle2.1; omega, by have := hle2.2.2.1; omega⟩
          clear hpe hp2 hV hvN hle hle2
          by_cases hm : 0 ≤ mm
          · have HR3 : Hid (readB s = (4, mm, G0)) := hid (by rw [HR2.out, if_pos hm])
            clear HR HR2
            go_wp2
            go_ret3
            exact readEnd_err HR3.out (by decide) hbr.out
          · by_cases hn0 : G.names.length = 0
            · have HR3 : Hid (readB s = (4, (s.size : Int), G0)) := hid (by rw [HR2.out, if_neg hm, if_pos hn0])
              clear HR HR2
              go_wp2
              go_ret3
              exact readEnd_err HR3.out (by decide) hbr.out
            · have HR3 : Hid (readB s = match (scanA s 0).1.find? fun x => unknownB G x.2 with
                  | some x => (5, (x.1 : Int), G0)
                  | none => (0, 0, G)) := hid (by rw [HR2.out, if_neg hm, if_neg hn0])
              clear HR HR2
              go_wp2
              go_loopw [15] (fun a wr => ∃ k : Nat, k ≤ s.size ∧ a = .int .i64 k ∧ Hid ((scanA s 0).1.find? (fun x => unknownB G x.2) = (scanA s k).1.find? fun x => unknownB G x.2) ∧ Hid ((scanA s k).2 = s.size) ∧
                  Hid (GrAt wr w.heap.size gb G) ∧ Hid (Below w.heap.size w wr)) (fun a _ => s.size - (intOf a).toNat)
              case atStart => exact ⟨0, Nat.zero_le _, rfl, rfl, HOk, hG, hbr⟩
              case round =>
                clear hbr hG cN hsz
                obtain ⟨k, hk, rfl, hfd, hsc, hG, hbr⟩ := hrel
                by_cases hlt : k < s.size
                · obtain ⟨ln, nx, hln⟩ : ∃ ln nx, lineB s k = (ln, nx) := ⟨_, _, rfl⟩
                  have hlz : ln.size ≤ 4000 := by have := lineB_size s k; rw [hln] at this; simp only at this; omega
                  have cL : Hid (∀ W, Calls Tryd.prog 8 #[.string s, .int .i64 k] W fun e w' => e = .returned (.tuple #[.string ln, .int .i64 nx]) ∧ W = w') := hid fun W => by
                    have := lineAt_any s k W hs hk
                    rw [hln] at this
                    exact this
                  have hwl := wordsB_len ln
                  obtain ⟨h0, hL, h1, h2, h3, h4⟩ := line_here hln hlt hsc.out
                  have hsz := hbr.out.size
                  have HH : Hid (k < nx.toNat ∧ nx.toNat ≤ s.size ∧ 0 ≤ nx) := hid ⟨by omega, h2, h3⟩
                  have HN : Hid ((scanA s nx.toNat).2 = s.size) := hid (by have h5 := hsc.out; rw [h4] at h5; exact h5)
                  have HF : Hid ((scanA s 0).1.find? (fun x => unknownB G x.2) = if unknownB G (wordsB ln) = true then some (k, wordsB ln) else (scanA s nx.toNat).1.find? fun x => unknownB G x.2) := hid (by
                    rw [hfd.out, h4]
                    simp only [List.find?_cons]
                    cases unknownB G (wordsB ln) <;> rfl)
                  have cU : Hid (∀ (g cap : Nat) (W : World), Below wr.heap.size wr W → StrsAt W g 0 (wordsB ln) →
                      Calls Tryd.prog 12 #[.pointer (some ⟨gb, 0, none⟩), .slice (some ⟨g, 0, none⟩) (wordsB ln).length cap] W fun e w' => e = .returned (.bool (unknownB G (wordsB ln))) ∧ ∃ q, w' = W.drewN q) := hid fun g cap W hb hst =>
                    unknown_any (wordsB ln) g _ cap G W w.heap.size gb (hG.out.below hb) (by omega) (by omega) rfl (by omega) (by omega) (fun hsw => by
                      cases ht : ((nth (wordsB ln) 0).toList == [116, 111, 107, 101, 110])
                      · have := (line_swap hL ht hsw).1; omega
                      · have := (line_tok hL ht).1; omega) hst
                  clear hln h1 h2 h3 h4 h0 hfd
                  cases hun : unknownB G (wordsB ln)
                  · have HF2 : Hid ((scanA s 0).1.find? (fun x => unknownB G x.2) = (scanA s nx.toNat).1.find? fun x => unknownB G x.2) := hid (by rw [HF.out, hun, if_neg (by decide)])
                    clear HF
                    go_wp2_with (first
                      | (go_at_call 8; refine (cL.out _).mono ?_; rintro e w' ⟨rfl, rfl⟩)
                      | (go_at_call 10; refine (words_any ln _ hlz).mono ?_; rintro e w1 ⟨g, cap, rfl, hg, hst, hb1⟩)
                      | (go_at_call 12; refine (cU.out g cap _ hb1 hst).mono ?_; rintro e w2 ⟨rfl, hw2⟩; obtain ⟨q, hw2⟩ := hw2; subst hw2; rw [hun]))
                    have hbq : Below wr.heap.size wr (w1.drewN q) := below_drewN hb1 q
                    go_roundw
                    case rel => exact ⟨nx.toNat, HH.out.2.1, by rw [Int.toNat_of_nonneg HH.out.2.2], HF2, HN, hid (hG.out.below hbq), hid (hbr.out.trans (hbq.mono hsz))⟩
                    case measure => have := HH.out; simp [intOf]; omega
                  · have HF2 : Hid (readB s = (5, (k : Int), G0)) := hid (by rw [HR3.out, HF.out, if_pos hun])
                    clear HF HR3
                    go_wp2_with (first
                      | (go_at_call 8; refine (cL.out _).mono ?_; rintro e w' ⟨rfl, rfl⟩)
                      | (go_at_call 10; refine (words_any ln _ hlz).mono ?_; rintro e w1 ⟨g, cap, rfl, hg, hst, hb1⟩)
                      | (go_at_call 12; refine (cU.out g cap _ hb1 hst).mono ?_; rintro e w2 ⟨rfl, hw2⟩; obtain ⟨q, hw2⟩ := hw2; subst hw2; rw [hun]))
                    go_ret3
                    exact readEnd_err HF2.out (by decide) (hbr.out.trans ((below_drewN hb1 q).mono hsz))
                · have HF2 : Hid (readB s = (0, 0, G)) := hid (by rw [HR3.out, hfd.out, scanA_end hlt]; rfl)
                  clear HR3
                  go_wp2
                  go_ret3
                  exact readEnd_ok HF2.out hbr.out hG.out

/-- darnref.Read, whatever the text. -/
theorem read_any (s : ByteArray) (w : World) (hs : s.size ≤ 9223372036854775807) : Calls Tryd.prog 5 #[.string s] w fun e w' => ReadEnd s w e w' := by
  by_cases h1 : 4000 < s.size
  · exact read_long s w h1 hs
  · by_cases h2 : (scanA s 0).2 < s.size
    · exact read_form s w (by omega) h2
    · have := scanA_le s s.size 0 (by omega) (by omega)
      exact read_lines s w (by omega) (by omega)

end Go.Proofs.YtjjggdcnpndgjaaDoor
