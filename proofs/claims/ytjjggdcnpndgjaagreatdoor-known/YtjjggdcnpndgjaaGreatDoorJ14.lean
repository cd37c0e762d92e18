/- strings.Clone; source.Read of a text that is no grammar. source.Read of a grammar, over what built gives. -/
import Derived.Test.YtjjggdcnpndgjaaGreatDoorJPnum1
import Derived.Test.YtjjggdcnpndgjaaGreatDoorJ13
import Derived.Test.YtjjggdcnpndgjaaGreatDoorShelf2
namespace Go.Proofs.YtjjggdcnpndgjaaGreatDoor
open Go.RowKit Go.Shelf

theorem clone_str (s : ByteArray) (w : World) (hs : s.size ≤ 4000) : Calls Tryz.prog 201 #[.string s] w fun e w' => e = .returned (.string s) ∧ Below w.heap.size w w' := by
  have CC := Tryz.stringslite_Clone s w (by omega)
  go_enter Tryz.func201, Tryz.ntmps201
  go_wp2_with (go_at_call 227; refine CC.mono ?_; rintro e w2 ⟨rfl, hb2⟩)
  go_ret
  exact ⟨rfl, hb2⟩

theorem results_cell1 {P : Program} {fn : Func} {p t : Tmp} {ty : TypeId} (h : fn.results = #[.cell p ty, .tmp t]) (tmps : Array Value) (w : World) (g : Nat) (t' : TypeId) (cs : Array Value) (fr : Nat × Nat) (d : TypeDesc)
    (hp : tmps.getD p undef = .pointer (some ⟨g, 0, none⟩)) (hg : w.heap[g]? = some (.cells cs t' fr)) (hu : P.underlying ty = some d) (hd : (match d with | .struct _ | .array _ _ => true | _ => false) = true) (hi : (P.info? ty).map (·.size) = some cs.size) :
    (results fn tmps).run P w = .ok (.tuple #[.agg cs, tmps.getD t undef]) w := by
  have hp' : tmps[p]?.getD undef = .pointer (some ⟨g, 0, none⟩) := by simpa using hp
  simp [results, h, hp', asAddr, run_loadVar_row w g t' ty cs fr d hg hu hd hi, Result.andThen]

end Go.Proofs.YtjjggdcnpndgjaaGreatDoor

namespace Go.Proofs.YtjjggdcnpndgjaaGreatDoor
open Go.RowKit Go.Shelf

theorem lnv_slice {w : World} {B : Nat} {v : Value} {ls : List Ln} {pv : List Value} (h : LnV w B v ls pv) : ∃ a n c, v = .slice a n c := by
  rcases h.form with ⟨h1, _⟩ | ⟨g, cap, h1, _⟩
  · exact ⟨_, _, _, h1⟩
  · exact ⟨_, _, _, h1⟩

set_option maxHeartbeats 1000000 in
set_option maxRecDepth 100000 in
theorem sread_ok (s : ByteArray) (w : World) (hG : Glob w) (hs : s.size ≤ 9223372036854775807) (hok : s.size ≤ 4000 → LinesOk (progL (scanA s 0).1)) (he : (progB s).1 = 0) (N : NG) (tws : List ByteArray) (pg : List Nm)
    (hB : ∀ W B v pv, Below w.heap.size w W → LnV W B v (progL (scanA s 0).1) pv → Calls Tryz.prog 152 #[v] W fun e w' => ∃ adT capT gN capN, e = .returned (.agg #[.slice adT N.nT capT, .slice (some ⟨gN, 0, none⟩) N.nN capN]) ∧ (∀ W'', (∀ q, W.heap.size ≤ q → q < w'.heap.size → W''.heap[q]? = w'.heap[q]?) → PGr W'' w'.heap.size N tws pg adT capT gN capN) ∧ Below W.heap.size W w') :
    Calls Tryz.prog 105 #[.string s] w fun e w' => ∃ adT capT gN capN, e = .returned (.tuple #[.agg #[.slice adT N.nT capT, .slice (some ⟨gN, 0, none⟩) N.nN capN], .int .i64 0]) ∧ (∀ W'', (∀ q, w.heap.size ≤ q → q < w'.heap.size → W''.heap[q]? = w'.heap[q]?) → PGr W'' w'.heap.size N tws pg adT capT gN capN) ∧ Below w.heap.size w w' := by
  have CC := checked_any s (w.alloc (.cells #[.slice none 0 0, .slice none 0 0] 135)) (hG.below ((Below.refl _ w).alloc (Nat.le_refl _) _) hG.size) hs hok
  have HCC : Hid _ := hid CC
  have HE : Hid ((progB s).1 = 0) := hid he
  have HB : Hid _ := hid hB
  clear CC hG hok he hB
  go_enter Tryz.func105, Tryz.ntmps105
  go_wp2_with (go_at_call 113; refine HCC.out.mono ?_; rintro e w1 ⟨v, rfl, hL, hb1⟩; obtain ⟨B, pv, _, hV⟩ := hL HE.out; obtain ⟨av, nv, cv, hve⟩ := lnv_slice hV; subst hve; rw [HE.out]; have Z1 : Hid (w1.heap[w.heap.size]? = some (.cells #[.slice none 0 0, .slice none 0 0] 135 (0, 0))) := hid ((hb1.block w.heap.size (by simp)).trans (World.alloc_heap_new w _)); have HB1 : Hid (Below w.heap.size w w1) := hid ((bal (Below.refl _ _)).trans (hb1.mono (by simp))); have HC : Hid _ := hid (HB.out w1 B _ pv HB1.out hV); clear hb1 hL hV)
  refine HC.out.mono ?_
  rintro e w2 ⟨adT, capT, gN, capN, rfl, hPR, hb2⟩
  have Z2 := (hb2.block w.heap.size (lt_of_block Z1.out)).trans Z1.out
  have r0 : w2.cell? ⟨w.heap.size, 0, none⟩ = some (.slice none 0 0) := block_cell Z2
  have r1 : w2.cell? ⟨w.heap.size, 1, none⟩ = some (.slice none 0 0) := block_cell Z2
  have t0 : w2.frozen? ⟨w.heap.size, 0, none⟩ = false := block_free Z2
  have t1 : w2.frozen? ⟨w.heap.size, 1, none⟩ = false := block_free Z2
  have HZ2 : Hid _ := hid Z2
  have HPR : Hid _ := hid hPR
  have HB2 : Hid (Below w.heap.size w w2) := hid (HB1.out.trans (hb2.mono HB1.out.size))
  have hz12 := hb2.size
  have hz01 := lt_of_block Z1.out
  clear hPR hb2 Z2 HC HCC
  go_wp2
  have hrow := cells_set (j := 1) (cells_set (j := 0) HZ2.out (.slice adT N.nT capT)) (.slice (some ⟨gN, 0, none⟩) N.nN capN)
  have hkw' : Keeps w2 ((w2.setCell ⟨w.heap.size, 0, none⟩ (.slice adT N.nT capT)).setCell ⟨w.heap.size, 1, none⟩ (.slice (some ⟨gN, 0, none⟩) N.nN capN)) [w.heap.size] := ((Keeps.refl w2 [w.heap.size]).setCell (by simp) _).setCell (by simp) _
  have hsz : ((w2.setCell ⟨w.heap.size, 0, none⟩ (.slice adT N.nT capT)).setCell ⟨w.heap.size, 1, none⟩ (.slice (some ⟨gN, 0, none⟩) N.nN capN)).heap.size = w2.heap.size := by simp
  refine ⟨rfl, _, results_cell1 (p := 2) (t := 3) (ty := 135) rfl _ _ w.heap.size _ _ _ _ rfl hrow Tryz.underlying135 rfl (by kernel_rfl), ?_⟩
  refine ⟨adT, capT, gN, capN, rfl, fun W'' hW => ?_, HB2.out.trans (hkw'.below HB2.out.size (fun q hq => by have := List.mem_singleton.1 hq; omega))⟩
  rw [hsz] at hW ⊢
  exact HPR.out W'' (fun q hq1 hq2 => (hW q (by omega) hq2).trans (hkw'.block q hq2 (by simp; omega)))

end Go.Proofs.YtjjggdcnpndgjaaGreatDoor
