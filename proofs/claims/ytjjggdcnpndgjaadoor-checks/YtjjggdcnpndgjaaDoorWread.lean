import Derived.Test.YtjjggdcnpndgjaaDoorWgive
import Derived.Test.YtjjggdcnpndgjaaDoorWunk
import Derived.Test.YtjjggdcnpndgjaaDoorWisline
namespace Go.Proofs.YtjjggdcnpndgjaaDoor
open Go.RowKit

theorem wst_all (l : List UInt8) : ∀ x ∈ (wst l).1, x.size ≤ l.length := by
  suffices h : ∀ (l : List UInt8) (p : List ByteArray × ByteArray) (n : Nat), (∀ x ∈ p.1, x.size ≤ n) → p.2.size ≤ n → ∀ x ∈ (l.foldl wstep p).1, x.size ≤ n + l.length by
    have := h l ([], ByteArray.empty) 0 (by simp) (by simp)
    simpa [wst] using this
  intro l
  induction l with
  | nil => intro p n h1 _ x hx; simpa using h1 x hx
  | cons b r ih =>
    intro p n h1 h2 x hx
    rw [List.foldl_cons] at hx
    have h3 := wstep_bd p b
    have := ih (wstep p b) (n + 1) (by
      intro y hy
      unfold wstep at hy
      split at hy
      · rcases List.mem_append.1 hy with hy | hy
        · have := h1 y hy; omega
        · simp at hy; subst hy; omega
      · have := h1 y hy; omega) (by omega) x hx
    simp only [List.length_cons]
    omega

theorem wordsB_len (s : ByteArray) : 1 ≤ (wordsB s).length ∧ (wordsB s).length ≤ s.size + 1 := by
  have h := wst_bd s.data.toList
  have hlen : s.data.toList.length = s.size := by simp
  unfold wordsB
  simp only [List.length_append, List.length_singleton]
  omega

theorem wordsB_size (s : ByteArray) (j : Nat) : (nth (wordsB s) j).size ≤ s.size := by
  have hlen : s.data.toList.length = s.size := by simp
  have h1 := wst_all s.data.toList
  have h2 := (wst_bd s.data.toList).2
  unfold nth
  rw [List.getD_eq_getElem?_getD]
  cases h : (wordsB s)[j]? with
  | none => simp
  | some x =>
    have hm := List.mem_of_getElem? h
    unfold wordsB at hm
    rcases List.mem_append.1 hm with hm | hm
    · have := h1 x hm; simp only [Option.getD_some]; omega
    · simp at hm; subst hm; simp only [Option.getD_some]; omega

theorem lineB_size (s : ByteArray) (a : Nat) : (lineB s a).1.size ≤ s.size := by
  unfold lineB
  split
  · simp [ByteArray.size_extract]; omega
  · simp

/-- How Read ends. -/
def ReadEnd (s : ByteArray) (w : World) (e : Ending) (w' : World) : Prop :=
  ∃ p, e = .returned (.tuple #[p, .int .i64 (readB s).1, .int .i64 (readB s).2.1]) ∧ Below w.heap.size w w' ∧ ((readB s).1 ≠ 0 → p = .pointer none) ∧
    ((readB s).1 = 0 → ∃ gb, p = .pointer (some ⟨gb, 0, none⟩) ∧ GrAt w' w.heap.size gb (readB s).2.2)

theorem readEnd_err {s : ByteArray} {w w' : World} {x y : Int} (h : readB s = (x, y, G0)) (hx : x ≠ 0) (hb : Below w.heap.size w w') : ReadEnd s w (.returned (.tuple #[.pointer none, .int .i64 x, .int .i64 y])) w' := by
  refine ⟨.pointer none, by rw [h], hb, fun _ => rfl, fun h0 => ?_⟩
  rw [h] at h0; exact absurd h0 hx

theorem readEnd_ok {s : ByteArray} {w w' : World} {gb : Nat} {G : Gr} (h : readB s = (0, 0, G)) (hb : Below w.heap.size w w') (hG : GrAt w' w.heap.size gb G) : ReadEnd s w (.returned (.tuple #[.pointer (some ⟨gb, 0, none⟩), .int .i64 0, .int .i64 0])) w' := by
  refine ⟨.pointer (some ⟨gb, 0, none⟩), by rw [h], hb, fun h0 => ?_, fun _ => ⟨gb, rfl, by rw [h]; exact hG⟩⟩
  rw [h] at h0; exact absurd rfl h0

theorem read_long (s : ByteArray) (w : World) (hs : 4000 < s.size) (hs2 : s.size ≤ 9223372036854775807) : Calls Tryd.prog 5 #[.string s] w fun e w' => ReadEnd s w e w' := by
  have hr : readB s = (1, 0, G0) := by unfold readB; rw [if_pos hs]
  have HR : Hid _ := hid hr
  clear hr
  go_enter Tryd.func5, Tryd.ntmps5
  go_wp2
  go_ret3
  exact readEnd_err HR.out (by decide) (Below.refl _ _)

set_option maxHeartbeats 1000000 in
set_option maxRecDepth 100000 in
theorem read_form (s : ByteArray) (w : World) (hs : s.size ≤ 4000) (hbad : (scanA s 0).2 < s.size) :
    Calls Tryd.prog 5 #[.string s] w fun e w' => ReadEnd s w e w' := by
  have HR : Hid (readB s = (2, ((scanA s 0).2 : Int), G0)) := hid (by unfold readB; rw [if_neg (by omega), if_pos hbad])
  go_enter Tryd.func5, Tryd.ntmps5
  go_wp2
  go_loopw [5] (fun a wr => ∃ k : Nat, k ≤ s.size ∧ a = .int .i64 k ∧ Hid ((scanA s 0).2 = (scanA s k).2) ∧ Hid (Below w.heap.size w wr)) (fun a _ => s.size - (intOf a).toNat)
  case atStart => exact ⟨0, Nat.zero_le _, rfl, rfl, Below.refl _ _⟩
  case round =>
    obtain ⟨k, hk, rfl, hsc, hbr⟩ := hrel
    have hlt : k < s.size := by
      rcases Nat.lt_or_ge k s.size with h | h
      · exact h
      · have h1 := hsc.out
        rw [scanA_end (a := k) (by omega)] at h1
        simp only at h1
        omega
    have HBad : Hid ((scanA s 0).2 < s.size) := hid hbad
    obtain ⟨ln, nx, hln⟩ : ∃ ln nx, lineB s k = (ln, nx) := ⟨_, _, rfl⟩
    have hlz : ln.size ≤ 4000 := by have := lineB_size s k; rw [hln] at this; simp only at this; omega
    have cL : Hid (∀ W, Calls Tryd.prog 8 #[.string s, .int .i64 k] W fun e w' => e = .returned (.tuple #[.string ln, .int .i64 nx]) ∧ W = w') := hid fun W => by
      have := lineAt_any s k W hs hk
      rw [hln] at this
      exact this
    have HL : Hid (lineB s k = (ln, nx)) := hid hln
    have hwl := wordsB_len ln
    clear hbad hln
    have hend : isLineB (wordsB ln) = false ∨ nx = 0 → (scanA s 0).2 = k := fun h => by
      have h1 := hsc.out
      rw [scanA_bad hlt (by rw [HL.out]; rcases h with h | h; exact .inr h; exact .inl h)] at h1
      exact h1
    have HEnd : Hid (isLineB (wordsB ln) = false ∨ nx = 0 → (scanA s 0).2 = k) := hid hend
    clear hend
    cases hL : isLineB (wordsB ln)
    · go_wp2_with (first
        | (go_at_call 8; refine (cL.out _).mono ?_; rintro e w' ⟨rfl, rfl⟩)
        | (go_at_call 10; refine (words_any ln _ hlz).mono ?_; rintro e w1 ⟨g, cap, rfl, hg, hst, hb1⟩)
        | (go_at_call 9; refine (isLine_any (wordsB ln) g _ cap _ rfl (by omega) (by omega) (fun j => Nat.le_trans (wordsB_size ln j) hlz) hst).mono ?_; rintro e w2 ⟨rfl, rfl⟩; rw [hL]))
      all_goals
        go_ret3
        rw [← HEnd.out (.inl hL)]
        exact readEnd_err HR.out (by decide) (hbr.out.trans (hb1.mono hbr.out.size))
    · by_cases h0 : nx = 0
      · subst h0
        go_wp2_with (first
          | (go_at_call 8; refine (cL.out _).mono ?_; rintro e w' ⟨rfl, rfl⟩)
          | (go_at_call 10; refine (words_any ln _ hlz).mono ?_; rintro e w1 ⟨g, cap, rfl, hg, hst, hb1⟩)
          | (go_at_call 9; refine (isLine_any (wordsB ln) g _ cap _ rfl (by omega) (by omega) (fun j => Nat.le_trans (wordsB_size ln j) hlz) hst).mono ?_; rintro e w2 ⟨rfl, rfl⟩; rw [hL]))
        go_ret3
        rw [← HEnd.out (.inr trivial)]
        exact readEnd_err HR.out (by decide) (hbr.out.trans (hb1.mono hbr.out.size))
      · have hgt : Hid (k < nx.toNat ∧ nx.toNat ≤ s.size ∧ 0 ≤ nx) := hid (by
          have h1 := lineB_next_gt (s := s) (a := k) (by rw [HL.out]; exact h0)
          rw [HL.out] at h1
          simp only at h1
          omega)
        have hnext : Hid ((scanA s 0).2 = (scanA s nx.toNat).2) := hid (by
          have h1 := hsc.out
          rw [scanA_line hlt (by rw [HL.out]; exact h0) (by rw [HL.out]; exact hL), HL.out] at h1
          exact h1)
        go_wp2_with (first
          | (go_at_call 8; refine (cL.out _).mono ?_; rintro e w' ⟨rfl, rfl⟩)
          | (go_at_call 10; refine (words_any ln _ hlz).mono ?_; rintro e w1 ⟨g, cap, rfl, hg, hst, hb1⟩)
          | (go_at_call 9; refine (isLine_any (wordsB ln) g _ cap _ rfl (by omega) (by omega) (fun j => Nat.le_trans (wordsB_size ln j) hlz) hst).mono ?_; rintro e w2 ⟨rfl, rfl⟩; rw [hL]))
        go_roundw
        case rel => exact ⟨nx.toNat, hgt.out.2.1, by rw [Int.toNat_of_nonneg hgt.out.2.2], hnext, hid (hbr.out.trans (hb1.mono hbr.out.size))⟩
        case measure => have := hgt.out; simp [intOf]; omega

end Go.Proofs.YtjjggdcnpndgjaaDoor
