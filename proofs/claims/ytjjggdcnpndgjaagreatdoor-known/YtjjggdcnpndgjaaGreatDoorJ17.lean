/- darnlaw.sameRow of two rows of the same words. darnlaw.factual where both tell the same. darnlaw.factual where both refuse; Tells. darnlaw.wanted. The program's source.Read of a text that is a grammar. darnlaw.Tells, put together: for every text. -/
import Derived.Test.YtjjggdcnpndgjaaGreatDoorJ13
import Derived.Test.YtjjggdcnpndgjaaGreatDoorJ9
import Derived.Test.YtjjggdcnpndgjaaGreatDoorJ2
import Derived.Test.YtjjggdcnpndgjaaGreatDoorJPblt3
namespace Go.Proofs.YtjjggdcnpndgjaaGreatDoor
open Go.RowKit Go.Shelf

theorem OwnS.shape {w : World} {B : Nat} {v : Value} {l : List ByteArray} (h : OwnS w B v l) : ∃ a c, v = .slice a l.length c ∧ l.length ≤ c ∧ (0 < l.length → ∃ g, a = some ⟨g, 0, none⟩ ∧ ∀ j s, l[j]? = some s → w.cell? ⟨g, j, none⟩ = some (.string s)) := by
  have hl : (strs l).length = l.length := by unfold strs; simp
  rcases h.2 with ⟨h1, h2⟩ | ⟨g, cap, cur, h1, _, hg, hnc, _, hs, ht⟩
  · rw [h2]; exact ⟨none, 0, h1, Nat.le_refl _, fun h => by omega⟩
  · refine ⟨_, cap, h1, hnc, fun _ => ⟨g, rfl, fun j s hj => ?_⟩⟩
    have hjl := (List.getElem?_eq_some_iff.1 hj).1
    have h3 : w.ownsRow B 9 1 (.slice (some ⟨g, 0, none⟩) l.length cap) l.length (strs l) := by rw [← h1]; exact h
    rw [h3.cellAt j (by omega)]
    unfold strs
    rw [List.getElem?_map, hj]; rfl

end Go.Proofs.YtjjggdcnpndgjaaGreatDoor

namespace Go.Proofs.YtjjggdcnpndgjaaGreatDoor
open Go.RowKit Go.Shelf

theorem FcV.shape {w : World} {B : Nat} {v : Value} {fs : List FactR} {ps : List (Value × Value)} (h : FcV w B v fs ps) : ∃ a c, v = .slice a fs.length c ∧ fs.length ≤ c ∧ (0 < fs.length → ∃ g, a = some ⟨g, 0, none⟩ ∧ g < w.heap.size ∧ ∀ (i : Nat) f, fs[i]? = some f → ∃ p, ps[i]? = some p ∧
    w.cell? ⟨g, i * 5, none⟩ = some (.string f.name) ∧ w.cell? ⟨g, i * 5 + 1, none⟩ = some (.bool f.nul) ∧ w.cell? ⟨g, i * 5 + 2, none⟩ = some p.1 ∧ w.cell? ⟨g, i * 5 + 3, none⟩ = some p.2 ∧ w.cell? ⟨g, i * 5 + 4, none⟩ = some (.int .i64 f.least)) := by
  rcases h.row.2 with ⟨h1, h2⟩ | ⟨g, cap, cur, h1, _, hg, hnc, _, hs, ht⟩
  · rw [h2]; exact ⟨none, 0, h1, Nat.le_refl _, fun h => by omega⟩
  · refine ⟨_, cap, h1, hnc, fun _ => ⟨g, rfl, lt_of_block hg, fun i f hf => ?_⟩⟩
    have hil := (List.getElem?_eq_some_iff.1 hf).1
    obtain ⟨p, hp⟩ : ∃ p, ps[i]? = some p := ⟨_, List.getElem?_eq_getElem (by rw [h.pl]; exact hil)⟩
    have hz : (fs.zip ps)[i]? = some (f, p) := by rw [List.getElem?_zip_eq_some]; exact ⟨hf, hp⟩
    have h5 := fun j hj => flat5 (fun t : FactR × (Value × Value) => [Value.string t.1.name, .bool t.1.nul, t.2.1, t.2.2, .int .i64 t.1.least]) (fun _ => rfl) (fs.zip ps) i (f, p) j hz hj
    have h3 : w.ownsRow B 81 5 (.slice (some ⟨g, 0, none⟩) fs.length cap) fs.length (fcCells fs ps) := by rw [← h1]; exact h.row
    refine ⟨p, hp, ?_, ?_, ?_, ?_, ?_⟩
    · rw [h3.cellAt _ (by omega)]; exact h5 0 (by omega)
    · rw [h3.cellAt _ (by omega)]; exact h5 1 (by omega)
    · rw [h3.cellAt _ (by omega)]; exact h5 2 (by omega)
    · rw [h3.cellAt _ (by omega)]; exact h5 3 (by omega)
    · rw [h3.cellAt _ (by omega)]; exact h5 4 (by omega)

end Go.Proofs.YtjjggdcnpndgjaaGreatDoor

namespace Go.Proofs.YtjjggdcnpndgjaaGreatDoor
open Go.RowKit Go.Shelf

end Go.Proofs.YtjjggdcnpndgjaaGreatDoor

namespace Go.Proofs.YtjjggdcnpndgjaaGreatDoor
open Go.RowKit

end Go.Proofs.YtjjggdcnpndgjaaGreatDoor

namespace Go.Proofs.YtjjggdcnpndgjaaGreatDoor
open Go.RowKit Go.Shelf

theorem nmW_names {P : List Ln} {G : Gr} (h : GOk P G) : ∀ i, i < (ngL P).nN → nmW (pgL (codeL P) P) i = nth G.names i := by
  intro i hi
  rw [ngL_nN] at hi
  unfold nmW nth
  rw [h.g.names, List.getD_eq_getElem?_getD, List.getD_eq_getElem?_getD, Int.toNat_natCast]
  unfold pgL
  rw [List.getElem?_map, List.getElem?_eq_getElem hi]
  simp [G0, hi, nmOf]

/-- source.Read of a grammar. -/
theorem sread_any (s : ByteArray) (w : World) (hG : Glob w) (hs : s.size ≤ 9223372036854775807) (he : (readB s).1 = 0) :
    Calls Tryz.prog 105 #[.string s] w fun e w' => ∃ adT capT gN capN, e = .returned (.tuple #[.agg #[.slice adT (ngL (progL (scanA s 0).1)).nT capT, .slice (some ⟨gN, 0, none⟩) (ngL (progL (scanA s 0).1)).nN capN], .int .i64 0]) ∧ (∀ W'', (∀ q, w.heap.size ≤ q → q < w'.heap.size → W''.heap[q]? = w'.heap[q]?) → PGr W'' w'.heap.size (ngL (progL (scanA s 0).1)) (twsL (progL (scanA s 0).1)) (pgL (codeL (progL (scanA s 0).1)) (progL (scanA s 0).1)) adT capT gN capN) ∧ Below w.heap.size w w' := by
  have hp : (progB s).1 = 0 := by rw [prog_same]; exact he
  have h4 : s.size ≤ 4000 := by
    rcases Nat.lt_or_ge 4000 s.size with h | h
    · unfold progB at hp; rw [if_pos h] at hp; cases hp
    · exact h
  exact sread_ok s w hG hs (lines_ok s) hp _ _ _ (fun W B v pv hb hV => built_any _ _ (gok_of s he) (lines_ok s h4) W (hG.below hb hG.size) B v pv hV)

end Go.Proofs.YtjjggdcnpndgjaaGreatDoor

namespace Go.Proofs.YtjjggdcnpndgjaaGreatDoor
open Go.RowKit Go.Shelf

end Go.Proofs.YtjjggdcnpndgjaaGreatDoor
