/- What a row's listed variables and the world's shape give the walks: the seat with Facts. -/
import Derived.Test.YtjjggdcnpndgjaaGreatDoorJ3
import Derived.Test.YtjjggdcnpndgjaaGreatDoorJ1
import Derived.Test.YtjjggdcnpndgjaaGreatDoorRows
import Derived.ProofKit
import Derived.LaidMore
import Derived.OpenShut
import Derived.Shelf.Vars
import Derived.Lib.LaidTab
import Derived.Shelf.Spec.TrailingZeros
namespace Go.Proofs.YtjjggdcnpndgjaaGreatDoor
open Go Go.RowKit
set_option maxRecDepth 100000

theorem reads_of {P : Program} {w : World} : ∀ {l : List (String × DataW Unit)} {ps : List MemPlace}, DataW.LaidVars P w l ps → ∀ (n : String) (d : DataW Unit), (n, d) ∈ l →
    ∃ g t cs fuel p, P.globalNamed n = some g ∧ (P.globals[g]?).map (·.type) = some t ∧ w.var? P n = some cs ∧ DataW.trod (fun _ => ()) P w 0 (fun _ => true) false fuel t cs.toList = some (d, p)
  | [], _, _, n, d, hm => by cases hm
  | (m, e) :: r, _, ⟨g, t, cs, fuel, p, q, h1, h2, h3, h4, h5, _⟩, n, d, hm => by
    rcases List.mem_cons.1 hm with h | h
    · cases h; exact ⟨g, t, cs, fuel, p, h1, h2, h3, h4⟩
    · exact reads_of h5 n d h

theorem block_of_var {P : Program} {w : World} {n : String} {g : Nat} {cs : Array Value} (hg : P.globalNamed n = some g) (h : w.var? P n = some cs) : ∃ t fr, w.heap[g]? = some (.cells cs t fr) := by
  simp only [World.var?, hg, Option.bind_some] at h
  split at h
  · rename_i cs' t fr hh
    cases h
    exact ⟨t, fr, hh⟩
  · cases h

section
variable {W : World} {sp : Nat → Bool} {held : Bool}

theorem kinds_cells {m : Nat} {l : List Value} {a b c : Int} {p : List MemPlace} (hl : l.length = 3) (h : DataW.trod (fun _ => ()) Tryz.prog W 0 sp held m 337 l = some (.agg [.lit (.int .i64 a), .lit (.int .i64 b), .lit (.int .i64 c)], p)) :
    l = [.int .i64 a, .int .i64 b, .int .i64 c] := by
  obtain ⟨xs, n, _, hx, _, hxl, hall⟩ := DataW.trod_array Tryz.underlying337 h
  have ck : Tryz.prog.cellsOf 336 = 1 := by kernel_rfl
  match l, hl, xs, hxl with
  | [v0, v1, v2], _, [x0, x1, x2], _ =>
    have h0 := hall 0 (by decide)
    have h1 := hall 1 (by decide)
    have h2 := hall 2 (by decide)
    rw [ck] at h0 h1 h2
    obtain ⟨z0, e0, f0, _⟩ := DataW.trod_int Tryz.underlying336 h0
    obtain ⟨z1, e1, f1, _⟩ := DataW.trod_int Tryz.underlying336 h1
    obtain ⟨z2, e2, f2, _⟩ := DataW.trod_int Tryz.underlying336 h2
    simp at e0 e1 e2
    subst e0 e1 e2 f0 f1 f2
    have := (Prod.mk.inj hx).1
    simp at this
    obtain ⟨rfl, rfl, rfl⟩ := this
    rfl

theorem shape_cells {m : Nat} {l : List Value} {s : List UInt8} {a b c : Int} {p : List MemPlace} (h : DataW.trod (fun _ => ()) Tryz.prog W 0 sp held m 339 l = some (.agg [.lit (.string s), .agg [.lit (.int .i64 a), .lit (.int .i64 b), .lit (.int .i64 c)]], p)) :
    l = [.string ⟨s.toArray⟩, .int .i64 a, .int .i64 b, .int .i64 c] := by
  obtain ⟨xs, n, _, hx, hl, hxl, hall⟩ := DataW.trod_struct Tryz.underlying339 h
  have cS : Tryz.prog.cellsOf 339 = 4 := by kernel_rfl
  have cs : Tryz.prog.cellsOf 9 = 1 := by kernel_rfl
  have cb : Tryz.prog.cellsOf 337 = 3 := by kernel_rfl
  rw [cS] at hl
  match l, hl, xs, hxl with
  | [v0, v1, v2, v3], _, [x0, x1], _ =>
    have h0 : DataW.trod _ Tryz.prog W 0 sp held n 9 (([v0, v1, v2, v3].drop 0).take (Tryz.prog.cellsOf 9)) = _ := hall 0 _ rfl
    have h1 : DataW.trod _ Tryz.prog W 0 sp held n 337 (([v0, v1, v2, v3].drop 1).take (Tryz.prog.cellsOf 337)) = _ := hall 1 _ rfl
    rw [cs] at h0
    rw [cb] at h1
    have hx' := (Prod.mk.inj hx).1
    simp only [List.map_cons, List.map_nil, DataW.agg.injEq, List.cons.injEq, and_true] at hx'
    obtain ⟨s', e0, f0, _⟩ := DataW.trod_string Tryz.underlying9 h0
    obtain ⟨y1, q1⟩ := x1
    obtain rfl : y1 = _ := hx'.2.symm
    have e1 := kinds_cells (by simp) h1
    simp at e0 e1
    obtain ⟨rfl, rfl, rfl⟩ := e1
    subst e0 f0
    have := hx'.1
    simp at this
    subst this
    rfl

theorem shapes_cells {m : Nat} {l : List Value} {p : List MemPlace} (h : DataW.trod (fun _ => ()) Tryz.prog W 0 sp held m 340 l = some (Rows.laid_darn_source_shapes, p)) :
    l = [.string ⟨#[116, 111, 107, 101, 110]⟩, .int .i64 1, .int .i64 3, .int .i64 3, .string ⟨#[115, 119, 97, 112]⟩, .int .i64 1, .int .i64 1, .int .i64 3, .string ⟨#[114, 117, 108, 101]⟩, .int .i64 2, .int .i64 4, .int .i64 5] := by
  obtain ⟨xs, n, _, hx, hl, hxl, hall⟩ := DataW.trod_array Tryz.underlying340 h
  have cS : Tryz.prog.cellsOf 339 = 4 := by kernel_rfl
  have cA : Tryz.prog.cellsOf 340 = 12 := by kernel_rfl
  rw [cA] at hl
  match l, hl, xs, hxl with
  | [v0, v1, v2, v3, v4, v5, v6, v7, v8, v9, v10, v11], _, [x0, x1, x2], _ =>
    have h0 := hall 0 (by decide)
    have h1 := hall 1 (by decide)
    have h2 := hall 2 (by decide)
    rw [cS] at h0 h1 h2
    have hx' := (Prod.mk.inj hx).1
    unfold Rows.laid_darn_source_shapes at hx'
    simp only [List.map_cons, List.map_nil, DataW.agg.injEq, List.cons.injEq, and_true] at hx'
    obtain ⟨y0, q0⟩ := x0
    obtain ⟨y1, q1⟩ := x1
    obtain ⟨y2, q2⟩ := x2
    obtain rfl : y0 = _ := hx'.1.symm
    obtain rfl : y1 = _ := hx'.2.1.symm
    obtain rfl : y2 = _ := hx'.2.2.symm
    have e0 := shape_cells h0
    have e1 := shape_cells h1
    have e2 := shape_cells h2
    simp at e0 e1 e2
    obtain ⟨rfl, rfl, rfl, rfl⟩ := e0
    obtain ⟨rfl, rfl, rfl, rfl⟩ := e1
    obtain ⟨rfl, rfl, rfl, rfl⟩ := e2
    rfl
end

theorem gShapes : Tryz.prog.globalNamed "darn/source.shapes" = some 0 := by kernel_rfl
theorem tShapes : (Tryz.prog.globals[0]?).map (·.type) = some 340 := by kernel_rfl
theorem gRange : Tryz.prog.globalNamed "strconv.ErrRange" = some 4 := by kernel_rfl
theorem tRange : (Tryz.prog.globals[4]?).map (·.type) = some 358 := by kernel_rfl
theorem gLast : Tryz.prog.globalNamed "math/bits.deBruijn64tab" = some 8 := by kernel_rfl
theorem gTab32 : Tryz.prog.globalNamed "math/bits.deBruijn32tab" = some 1 := by kernel_rfl
theorem tTab32 : (Tryz.prog.globals[1]?).map (·.type) = some 343 := by kernel_rfl
theorem gSize : Tryz.prog.globals.size = 9 := by kernel_rfl

/-- The walks' premise, off the row's. -/
theorem glob_of {W : World} (hL : laidMetH Tryz.prog Rows.tellsRow.laid W) (hsh : W.ShapedOpen Tryz.prog) : Glob W ∧ TabAt 1 Lib.deBruijn32tab W := by
  rw [MakeChecks.laidMetH_plain _ _ _ (by kernel_rfl)] at hL
  obtain ⟨ps, hv, _⟩ := hL
  have hshapes : ∃ t fr, W.heap[0]? = some (.cells #[.string ⟨#[116, 111, 107, 101, 110]⟩, .int .i64 1, .int .i64 3, .int .i64 3, .string ⟨#[115, 119, 97, 112]⟩, .int .i64 1, .int .i64 1, .int .i64 3, .string ⟨#[114, 117, 108, 101]⟩, .int .i64 2, .int .i64 4, .int .i64 5] t fr) := by
    obtain ⟨g, t, cs, fuel, p, h1, h2, h3, h4⟩ := reads_of hv "darn/source.shapes" Rows.laid_darn_source_shapes (by simp [Rows.tellsRow])
    obtain rfl := Option.some.inj (gShapes.symm.trans h1)
    obtain rfl := Option.some.inj (tShapes.symm.trans h2)
    obtain ⟨t, fr, hb⟩ := block_of_var h1 h3
    have e := shapes_cells h4
    obtain ⟨l⟩ := cs
    simp only at e
    subst e
    exact ⟨t, fr, hb⟩
  have hrng : ∃ te pe, W.cell? ⟨4, 0, none⟩ = some (.iface te pe) := by
    obtain ⟨g, t, cs, fuel, p, h1, h2, h3, h4⟩ := reads_of hv "strconv.ErrRange" Rows.laid_strconv_ErrRange (by simp [Rows.tellsRow])
    obtain rfl := Option.some.inj (gRange.symm.trans h1)
    obtain rfl := Option.some.inj (tRange.symm.trans h2)
    obtain ⟨_, u, v, e, _, _⟩ := iface_of_trod Tryz.underlying358 h4
    obtain ⟨l⟩ := cs
    simp only at e
    subst e
    exact ⟨u, v, World.var?_cell h1 h3 0⟩
  have htab : TabAt 1 Lib.deBruijn32tab W := by
    obtain ⟨g, t, cs, fuel, p, h1, h2, h3, h4⟩ := reads_of hv "math/bits.deBruijn32tab" Rows.laid_math_bits_deBruijn32tab (by simp [Rows.tellsRow])
    obtain rfl := Option.some.inj (gTab32.symm.trans h1)
    obtain rfl := Option.some.inj (tTab32.symm.trans h2)
    obtain ⟨t, fr, hb⟩ := block_of_var h1 h3
    have e := Lib.cells_of_tab (zs := Lib.deBruijn32tab.map fun (n : Nat) => (n : Int)) Tryz.underlying343 Tryz.underlying5 (by kernel_rfl) (by kernel_rfl) (show _ = some (Lib.tabData .u8 (Lib.deBruijn32tab.map fun (n : Nat) => (n : Int)), p) from h4)
    intro j hj
    rw [block_cell hb]
    have e2 : cs[j]? = cs.toList[j]? := by simp
    rw [e2, e, List.map_map, List.getElem?_map, List.getD_eq_getElem?_getD, List.getElem?_eq_getElem hj]
    rfl
  refine ⟨⟨?_, ?_, hrng, hshapes⟩, htab⟩
  · obtain ⟨g, t, cs, fuel, p, h1, h2, h3, h4⟩ := reads_of hv "math/bits.deBruijn64tab" Rows.laid_math_bits_deBruijn64tab (by simp [Rows.tellsRow])
    obtain rfl := Option.some.inj (gLast.symm.trans h1)
    obtain ⟨t, fr, hb⟩ := block_of_var h1 h3
    have := (Array.getElem?_eq_some_iff.1 hb).1
    omega
  · exact cell_of_shapedOpen_int (zero := #[.int .i64 0]) (t := 3) hsh (by rw [gSize]; decide) (by kernel_rfl) rfl (by kernel_rfl) (by kernel_rfl) Tryz.underlying3

end Go.Proofs.YtjjggdcnpndgjaaGreatDoor
