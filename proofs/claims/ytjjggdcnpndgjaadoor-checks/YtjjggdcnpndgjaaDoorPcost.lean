import Derived.Test.YtjjggdcnpndgjaaDoorPisof
namespace Go.Proofs.YtjjggdcnpndgjaaDoor
open Go.RowKit

/-- What the package-level variables hold: the library's that are read, and the table of the lines' shapes. -/
structure Glob (w : World) : Prop where
  size : 9 ≤ w.heap.size
  max : ∃ m, w.cell? ⟨1, 0, none⟩ = some (.int .i64 m)
  rng : ∃ te pe, w.cell? ⟨5, 0, none⟩ = some (.iface te pe)
  shapes : ∃ t fr, w.heap[0]? = some (.cells #[.string ⟨#[116, 111, 107, 101, 110]⟩, .int .i64 1, .int .i64 3, .int .i64 3, .string ⟨#[115, 119, 97, 112]⟩, .int .i64 1, .int .i64 1, .int .i64 3, .string ⟨#[114, 117, 108, 101]⟩, .int .i64 2, .int .i64 4, .int .i64 5] t fr)

theorem Glob.below {w w' : World} (h : Glob w) {B : Nat} (hb : Below B w w') (hB : 9 ≤ B) : Glob w' where
  size := Nat.le_trans h.size hb.size
  max := by obtain ⟨m, hm⟩ := h.max; exact ⟨m, (hb.cell (show 1 < B by omega)).trans hm⟩
  rng := by obtain ⟨te, pe, hm⟩ := h.rng; exact ⟨te, pe, (hb.cell (show 5 < B by omega)).trans hm⟩
  shapes := by obtain ⟨t, fr, hm⟩ := h.shapes; exact ⟨t, fr, (hb.block 0 (by omega)).trans hm⟩

theorem numB_not {s : ByteArray} (h : (allIn s.data.toList 48 57 && !s.toList.isEmpty) = false) : numB s = false := by
  have hlen : s.data.toList.length = s.size := by simp
  have e1 : s.toList = s.data.toList := ByteArray.toList_eq s
  unfold numB costB madeB
  rw [e1] at h
  cases ha : allIn s.data.toList 48 57
  · simp
  · rw [ha] at h
    have : s.data.toList = [] := by simpa using h
    rw [this]; rfl

set_option maxHeartbeats 400000 in
theorem pcost_any (s : ByteArray) (w : World) (hG : Glob w) (hs : s.size ≤ 4000) :
    Calls Tryd.prog 41 #[.string s] w fun e w' => (∃ n, e = .returned (.tuple #[.int .i64 n, .bool (numB s)]) ∧ (numB s = true → n = valD s.data.toList)) ∧ Below w.heap.size w w' := by
  have HG : Hid (Glob w) := hid hG
  clear hG
  cases h1 : (allIn s.data.toList 48 57 && !s.toList.isEmpty)
  · rw [numB_not h1]
    go_enter Tryd.func41, Tryd.ntmps41
    go_wp2_with (go_at_call 40; refine (isOf_any _ _ _ _ (by omega)).mono ?_; rintro e w' ⟨rfl, rfl⟩; rw [h1])
    go_ret2
    exact ⟨⟨_, rfl, fun h => by cases h⟩, Below.refl _ _⟩
  · have hpos : 0 < s.size := by
      rcases Nat.eq_zero_or_pos s.size with h | h
      · exfalso
        have : s.data.toList = [] := List.eq_nil_of_length_eq_zero (by simpa using h)
        rw [ByteArray.toList_eq s, this] at h1
        simp at h1
      · exact h
    have hall : allIn s.data.toList 48 57 = true := by simp only [Bool.and_eq_true] at h1; exact h1.1
    have hhd : s.data.toList.head? = some s[0] := by
      rw [List.head?_eq_getElem?, List.getElem?_eq_getElem (by simpa using hpos)]; rfl
    cases h2 : ((s[0].toNat : Int) == 48)
    · have hne : s.data.toList.head? ≠ some 48 := by
        rw [hhd]
        intro e
        injection e with e
        rw [e] at h2
        exact absurd h2 (by decide)
      have hnil : s.data.toList ≠ [] := by
        intro e; rw [e] at hhd; cases hhd
      rcases atoi_cost s.data.toList hall hnil hne with ⟨ha, hc⟩ | ⟨v, ha, hc, hval⟩
      · obtain ⟨te, pe, hv⟩ := HG.out.rng
        have hn : numB s = false := hc
        rw [hn]
        have cA := fun W hW => Tryd.strconv_Atoi_range s (by omega) ha (.iface te pe) W hW (.inr ⟨te, pe, rfl⟩)
        have CA : Hid _ := hid cA
        clear cA ha hc hn hall hhd hne hnil
        go_enter Tryd.func41, Tryd.ntmps41
        go_wp2_with (first
          | (go_at_call 40; refine (isOf_any _ _ _ _ (by omega)).mono ?_; rintro e w' ⟨rfl, rfl⟩; rw [h1])
          | (go_at_call 49; refine (CA.out _ hv).mono ?_; rintro e w1 ⟨N, rfl, _, _, hb⟩))
        go_ret2
        exact ⟨⟨_, rfl, fun h => by cases h⟩, hb⟩
      · have hn : numB s = decide (v ≤ 99) := hc
        have HVal : Hid (decide (v ≤ 99) = true → v = valD s.data.toList) := hid (fun h => hval (hc.trans h))
        rw [hn]
        have cA := fun W => Tryd.strconv_Atoi_ok s (by omega) v ha W
        have CA : Hid _ := hid cA
        have hvb := Lib.atoiAll_bounds ha
        clear cA ha hc hn hall hhd hne hnil hval
        go_enter Tryd.func41, Tryd.ntmps41
        go_wp2_with (first
          | (go_at_call 40; refine (isOf_any _ _ _ _ (by omega)).mono ?_; rintro e w' ⟨rfl, rfl⟩; rw [h1])
          | (go_at_call 49; refine (CA.out _).mono ?_; rintro e w1 ⟨rfl, hb⟩))
        go_ret2
        refine ⟨⟨_, rfl, HVal.out⟩, ?_⟩
        rcases hb with hb | ⟨t, hb⟩
        · rw [hb]; exact Below.refl _ _
        · rw [hb]; exact Lib.bytesWorld_below _ _ _
    · have hn : numB s = false := by
        unfold numB costB
        have : (s.data.toList.head? == some 48) = true := by
          rw [hhd, beq_iff_eq, Option.some.injEq, ← UInt8.toNat_inj]
          rw [beq_iff_eq] at h2
          show s[0].toNat = 48
          omega
        rw [this]; simp
      rw [hn]
      clear hhd hn
      go_enter Tryd.func41, Tryd.ntmps41
      go_wp2_with (go_at_call 40; refine (isOf_any _ _ _ _ (by omega)).mono ?_; rintro e w' ⟨rfl, rfl⟩; rw [h1])
      go_ret2
      exact ⟨⟨_, rfl, fun h => by cases h⟩, Below.refl _ _⟩

end Go.Proofs.YtjjggdcnpndgjaaDoor
