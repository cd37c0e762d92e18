/- (line).gives: the token or the name that a line gives. -/
import Derived.Test.YtjjggdcnpndgjaaDoorLines
import Derived.Test.YtjjggdcnpndgjaaDoorKeeps
import Derived.Test.YtjjggdcnpndgjaaDoorWgive1
namespace Go.Proofs.YtjjggdcnpndgjaaDoor
open Go.RowKit

def givesB (sh : Nat) (l : List ByteArray) : ByteArray := if sh = 1 then ByteArray.empty else nth l 1

theorem gives_any (a sh : Nat) (p : Value) (l : List ByteArray) (w : World) (hW : WordsV w p l) (hl : 2 ≤ l.length) (hll : l.length ≤ 4001) :
    Calls Tryd.prog 29 #[.agg #[.int .i64 a, .int .i64 sh, p]] w fun e w' => e = .returned (.string (givesB sh l)) ∧ Below w.heap.size w w' := by
  obtain ⟨g, n, cap, ad, cs, rfl, h2, h3, h4, h5, h6, h7⟩ := hW
  have had := h7 (by omega)
  subst had
  have c1 : w.cell? ⟨g, 1, none⟩ = some (.string (nth l 1)) := by rw [block_cell h5]; exact h6 1 (by omega)
  have hg := lt_of_block h5
  have hn : 0 < n := by omega
  have hb0 : Hid (Below w.heap.size w (w.alloc (.cells #[.int .i64 a, .int .i64 sh, .slice (some ⟨g, 1, none⟩) n cap] 66))) := hid ((Below.refl _ _).alloc (Nat.le_refl _) _)
  clear h5 h6 h7 h2 hl hll
  by_cases hs : sh = 1
  · have HE : Hid (givesB sh l = ByteArray.empty) := hid (by unfold givesB; rw [if_pos hs])
    subst hs
    go_enter Tryd.func29, Tryd.ntmps29
    go_wp2
    go_ret
    exact ⟨by rw [HE.out]; rfl, hb0.out⟩
  · have HE : Hid (givesB sh l = nth l 1) := hid (by unfold givesB; rw [if_neg hs])
    have hs2 : ¬ ((sh : Int) = 1) := by omega
    clear hs
    go_enter Tryd.func29, Tryd.ntmps29
    go_wp2
    go_ret
    exact ⟨by rw [HE.out]; rfl, hb0.out⟩

/-- The j-th line, as its cells lie. -/
theorem LnV.at {w : World} {B g n cap : Nat} {ls : List (Nat × Nat × List ByteArray)} {pv : List Value} (h : LnV w B (.slice (some ⟨g, 0, none⟩) n cap) ls pv) {j : Nat} {x : Nat × Nat × List ByteArray} (hx : ls[j]? = some x) :
    ∃ p, pv[j]? = some p ∧ WordsV w p x.2.2 ∧ w.cell? ⟨g, j * 3, none⟩ = some (.int .i64 x.1) ∧ w.cell? ⟨g, j * 3 + 1, none⟩ = some (.int .i64 x.2.1) ∧ w.cell? ⟨g, j * 3 + 2, none⟩ = some p := by
  have hj := (List.getElem?_eq_some_iff.1 hx).1
  obtain ⟨p, hp⟩ : ∃ p, pv[j]? = some p := ⟨_, List.getElem?_eq_getElem (by rw [h.pvl]; exact hj)⟩
  refine ⟨p, hp, h.wds j x p hx hp, ?_⟩
  have hz : (ls.zip pv)[j]? = some (x, p) := by
    rw [List.getElem?_zip_eq_some]; exact ⟨hx, hp⟩
  have h3 := fun i hi => flat3 (fun t : (Nat × Nat × List ByteArray) × Value => [Value.int .i64 t.1.1, .int .i64 t.1.2.1, t.2]) (fun _ => rfl) (ls.zip pv) j (x, p) i hz hi
  have hn : ls.length = n := by
    rcases h.row.2 with ⟨e, _⟩ | ⟨g', cap', cur, e, _⟩
    · cases e
    · cases e; rfl
  have hr := h.row
  rw [hn] at hr hj
  refine ⟨?_, ?_, ?_⟩
  · rw [hr.cellAt _ (by omega)]; exact h3 0 (by omega)
  · rw [hr.cellAt _ (by omega)]; exact h3 1 (by omega)
  · rw [hr.cellAt _ (by omega)]; exact h3 2 (by omega)

theorem LnV.form {w : World} {B : Nat} {v : Value} {ls : List (Nat × Nat × List ByteArray)} {pv : List Value} (h : LnV w B v ls pv) :
    (v = .slice none 0 0 ∧ ls = []) ∨ ∃ g cap, v = .slice (some ⟨g, 0, none⟩) ls.length cap ∧ ls.length ≤ cap ∧ g < w.heap.size := by
  rcases h.row.2 with ⟨h1, h2⟩ | ⟨g, cap, cur, h1, _, hh, hnc, _⟩
  · exact .inl ⟨h1, List.eq_nil_of_length_eq_zero h2⟩
  · exact .inr ⟨g, cap, h1, hnc, lt_of_block hh⟩

theorem any_snoc_no {α : Type} {l : List α} {q : α → Bool} {k : Nat} {x : α} (hx : l[k]? = some x) (h0 : (l.take k).any q = false) (h : q x = false) : (l.take (k + 1)).any q = false := by
  obtain ⟨hk, e⟩ := List.getElem?_eq_some_iff.1 hx
  rw [List.take_succ_eq_append_getElem hk, List.any_append, h0, e]
  simp [h]

theorem any_yes {α : Type} {l : List α} {q : α → Bool} {k : Nat} {x : α} (hx : l[k]? = some x) (h : q x = true) : l.any q = true := List.any_eq_true.2 ⟨x, List.mem_of_getElem? hx, h⟩

set_option maxHeartbeats 400000 in
theorem hasName_any' (v : Value) (ls : List (Nat × Nat × List ByteArray)) (pv : List Value) (B : Nat) (w : World) (hV : LnV w B v ls pv) (hn : ls.length ≤ 4000) :
    Calls Tryd.prog 23 #[v] w fun e w' => e = .returned (.bool (ls.any fun x => x.2.1 == 2)) ∧ Below w.heap.size w w' := by
  rcases hV.form with ⟨rfl, rfl⟩ | ⟨g, cap, rfl, hnc, hg⟩
  · clear hV
    go_enter Tryd.func23, Tryd.ntmps23
    go_wp2
    go_loopw [7] (fun i wr => i = .int .i64 0 ∧ wr = w) (fun i _ => 0)
    case atStart => exact ⟨rfl, rfl⟩
    case round =>
      obtain ⟨rfl, rfl⟩ := hrel
      go_wp2
      go_ret
      exact ⟨rfl, Below.refl _ _⟩
  · obtain ⟨n, hN⟩ : ∃ n, n = ls.length := ⟨_, rfl⟩
    rw [← hN] at hn hnc hV ⊢
    have HN : Hid (n = ls.length) := hid hN
    have HV : Hid _ := hid hV
    clear hN hV
    go_enter Tryd.func23, Tryd.ntmps23
    go_wp2
    go_loopw [7] (fun i wr => ∃ k : Nat, k ≤ n ∧ i = .int .i64 k ∧ Hid ((ls.take k).any (fun x => x.2.1 == 2) = false) ∧ Hid (Below w.heap.size w wr)) (fun i _ => n - (intOf i).toNat)
    case atStart => exact ⟨0, Nat.zero_le _, rfl, rfl, Below.refl _ _⟩
    case round =>
      obtain ⟨k, hk, rfl, hno, hbr⟩ := hrel
      have hsz := hbr.out.size
      by_cases hlt : k < n
      · obtain ⟨x, hx⟩ : ∃ x, ls[k]? = some x := ⟨_, List.getElem?_eq_getElem (by have := HN.out; omega)⟩
        obtain ⟨p, hp, ⟨gw, m, mc, ad, cs, rfl, _⟩, k0, k1, k2⟩ := (HV.out.below hbr.out).at hx
        clear hp
        obtain ⟨a, sh, l⟩ := x
        simp only at k0 k1 k2
        have hgr : g < wr.heap.size := Nat.lt_of_lt_of_le hg hsz
        have HB1 : Hid (Below w.heap.size w (wr.alloc (.cells #[.int .i64 a, .int .i64 sh, .slice ad m mc] 66))) := hid (hbr.out.alloc hsz _)
        cases hs2 : ((sh : Int) == 2)
        · have HF : Hid _ := hid (any_snoc_no (q := fun x => x.2.1 == 2) hx hno.out (by simp at hs2 ⊢; omega))
          go_wp2
          go_roundw
          case rel => exact ⟨k + 1, by omega, by go_num, HF, HB1⟩
          case measure => simp [intOf]; omega
        · have HF : Hid _ := hid (any_yes (q := fun x => x.2.1 == 2) hx (by simp at hs2 ⊢; omega))
          go_wp2
          go_ret
          exact ⟨ret_bool HF.out, HB1.out⟩
      · have HE : Hid (ls.any (fun x => x.2.1 == 2) = false) := hid (by
          have := hno.out
          rwa [List.take_of_length_le (by have := HN.out; omega)] at this)
        go_wp2
        go_ret
        exact ⟨ret_bool HE.out, hbr.out⟩

end Go.Proofs.YtjjggdcnpndgjaaDoor
