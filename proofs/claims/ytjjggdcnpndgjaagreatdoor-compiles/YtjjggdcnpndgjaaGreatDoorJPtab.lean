/- table.Read, walked over facts.Read. -/
import Derived.Test.YtjjggdcnpndgjaaGreatDoorJPmea
import Derived.Test.YtjjggdcnpndgjaaGreatDoorJ13
import Derived.Test.YtjjggdcnpndgjaaGreatDoorJ14
import Derived.Deep.DeepCutAuto
import Derived.Laws.Tables
namespace Go.Proofs.YtjjggdcnpndgjaaGreatDoor
open Go.RowKit Go.Shelf

theorem built_table (a b c : Value) : Tryz.prog.built 166 [(0, .agg #[a, b, c])] = some (a :: b :: c :: List.replicate 440 (.int .i64 0)).toArray := by kernel_rfl

theorem tb_of (w : World) (adT : Option Addr) (nT capT gN nN capN kb : Nat) (cs : Array Value) (hs : cs.size = 443) (h0 : cs[0]? = some (.slice adT nT capT)) (h1 : cs[1]? = some (.slice (some ⟨gN, 0, none⟩) nN capN)) (h2 : cs[2]? = some (.slice (some ⟨kb, 0, none⟩) nN nN)) (h3 : ∀ j, j < 440 → cs[3 + j]? = some (.int .i64 0)) :
    TbV (w.alloc (.cells cs 166)) w.heap.size adT nT capT gN nN capN kb (fun _ _ => 0) (fun _ => 0) :=
  ⟨cs, World.alloc_heap_new w _, hs, h0, h1, h2, fun n t hn ht => by rw [show 3 + n * 21 + t = 3 + (n * 21 + t) by omega]; exact h3 _ (by omega), fun m hm => by rw [show 423 + m = 3 + (420 + m) by omega]; exact h3 _ (by omega)⟩

set_option maxRecDepth 100000 in
theorem row_new (a b c : Value) (cs : Array Value) (h : cs = (a :: b :: c :: List.replicate 440 (Value.int .i64 0)).toArray) : cs.size = 443 ∧ cs[0]? = some a ∧ cs[1]? = some b ∧ cs[2]? = some c ∧ ∀ j, j < 440 → cs[3 + j]? = some (.int .i64 0) := by
  subst h
  obtain ⟨l, hl⟩ : ∃ l, List.replicate 440 (Value.int .i64 0) = l := ⟨_, rfl⟩
  have h1 : l.length = 440 := by rw [← hl, List.length_replicate]
  have h2 : ∀ j, j < 440 → l[j]? = some (.int .i64 0) := fun j hj => by rw [← hl, List.getElem?_replicate, if_pos hj]
  rw [hl]
  clear hl
  refine ⟨by simp [h1], by simp, by simp, by simp, fun j hj => ?_⟩
  rw [List.getElem?_toArray, show 3 + j = j + 1 + 1 + 1 by omega]
  simp only [List.getElem?_cons_succ]
  exact h2 j hj

theorem wpList_built {P : Program} {ops : Array Oper} {rest : List Oper} {o : Oper} {a : Act} {w : World} {Q : Exit → Act → World → Prop} (hg : o.guard = none) (t : TypeId) (parts : Array (Nat × Operand)) (ho : o.op = .build t parts)
    (vs : List (Nat × Value)) (hv : (parts.map fun (i, x) => (i, a.eval x)).toList = vs) (cs : Array Value) (hb : P.built t vs = some cs) (h : wpList P ops Q rest (a.put o.dst (.agg cs)) w) : wpList P ops Q (o :: rest) a w :=
  wpList_build hg t parts ho (by rw [hv, hb]; rfl) (by rw [hv, hb]; exact h)

theorem results_tct {P : Program} {fn : Func} {p t u : Tmp} {ty : TypeId} (h : fn.results = #[.tmp t, .cell p ty, .tmp u]) (tmps : Array Value) (w : World) (g : Nat) (t' : TypeId) (cs : Array Value) (fr : Nat × Nat) (d : TypeDesc)
    (hp : tmps.getD p undef = .pointer (some ⟨g, 0, none⟩)) (hg : w.heap[g]? = some (.cells cs t' fr)) (hu : P.underlying ty = some d) (hd : (match d with | .struct _ | .array _ _ => true | _ => false) = true) (hi : (P.info? ty).map (·.size) = some cs.size) :
    (results fn tmps).run P w = .ok (.tuple #[tmps.getD t undef, .agg cs, tmps.getD u undef]) w := by
  have hp' : tmps[p]?.getD undef = .pointer (some ⟨g, 0, none⟩) := by simpa using hp
  simp [results, h, hp', asAddr, run_loadVar_row w g t' ty cs fr d hg hu hd hi, Result.andThen]

theorem pair_no {a b : ByteArray} {i j : Int} {k : Nat} {v : Value} (h : (#[Value.string a, .int .i64 i, .int .i64 j, .string b] : Array Value)[k]? = some v) : (∀ x y z, v ≠ .slice x y z) ∧ (∀ x, v ≠ .bool x) ∧ (k = 0 → ∀ x y, v ≠ .int x y) := by
  match k with
  | 0 => simp at h; subst h; simp
  | 1 => simp at h; subst h; simp
  | 2 => simp at h; subst h; simp
  | 3 => simp at h; subst h; simp
  | k + 4 => simp at h

section
variable {w w' : World} {p : Nat} {a b : ByteArray} {i j : Int} {n₀ : Nat} {S : List Nat}

theorem pair_ne (hZ : w.heap[p]? = some (.cells #[.string a, .int .i64 i, .int .i64 j, .string b] 27 (0, 0))) {g k : Nat} {v : Value} (hc : w.cell? ⟨g, k, none⟩ = some v) (hv : (∃ x y z, v = .slice x y z) ∨ (∃ x, v = .bool x) ∨ (k = 0 ∧ ∃ x y, v = .int x y)) : g ≠ p := fun e => by
  subst e
  rw [block_cell hZ] at hc
  obtain ⟨h1, h2, h3⟩ := pair_no hc
  rcases hv with ⟨x, y, z, rfl⟩ | ⟨x, rfl⟩ | ⟨hk, x, y, rfl⟩
  · exact h1 _ _ _ rfl
  · exact h2 _ rfl
  · exact h3 hk _ _ rfl

theorem PartsV.pair (hZ : w.heap[p]? = some (.cells #[.string a, .int .i64 i, .int .i64 j, .string b] 27 (0, 0))) (hS : ∀ q ∈ S, q = p ∨ n₀ ≤ q) (hk : Keeps w w' S) (hn : n₀ ≤ w.heap.size) {v : Value} {ps : List Pt} (h : PartsV w n₀ v ps) : PartsV w' n₀ v ps := by
  obtain ⟨ad, cap, h1, h2, h3⟩ := h
  refine ⟨ad, cap, h1, h2, fun h0 => ?_⟩
  obtain ⟨g, off, h4, h5, h6⟩ := h3 h0
  have hg : g ∉ S := fun hm => by
    obtain ⟨q, hq⟩ : ∃ q, ps[0]? = some q := ⟨_, List.getElem?_eq_getElem h0⟩
    rcases hS g hm with e | e
    · exact pair_ne hZ (h6 0 q hq).1 (.inr (.inl ⟨_, rfl⟩)) e
    · omega
  exact ⟨g, off, h4, h5, fun i q hq => ⟨(hk.cell (by show g < w.heap.size; omega) hg).trans (h6 i q hq).1, (hk.cell (by show g < w.heap.size; omega) hg).trans (h6 i q hq).2⟩⟩

theorem PGr.pair {N : NG} {tws : List ByteArray} {pg : List Nm} {adT : Option Addr} {capT gN capN : Nat} (h : PGr w n₀ N tws pg adT capT gN capN) (hZ : w.heap[p]? = some (.cells #[.string a, .int .i64 i, .int .i64 j, .string b] 27 (0, 0))) (hS : ∀ q ∈ S, q = p ∨ n₀ ≤ q) (hk : Keeps w w' S) (hn : n₀ ≤ w.heap.size) : PGr w' n₀ N tws pg adT capT gN capN := by
  have hT : ∀ t, t < N.nT → ∀ gT, adT = some ⟨gT, 0, none⟩ → gT < n₀ → gT ∉ S := fun t ht gT e hlt hm => by
    obtain ⟨gT', gs, cs, h1, h2, _, h4, _⟩ := h.toks2 t ht
    rw [e] at h1
    injection h1 with h1
    injection h1 with h1 _ _
    subst h1
    rcases hS _ hm with e2 | e2
    · exact pair_ne hZ h4 (.inl ⟨_, _, _, rfl⟩) e2
    · omega
  refine ⟨h.ok, h.leN, h.leT, h.leR, h.lT, h.lN, h.twl, h.pgl, h.hgN, h.rules, fun t ht => ?_, fun t ht => ?_, fun n nm hn' => ?_⟩
  · obtain ⟨gT, h1, h2, h3, h4⟩ := h.toks t ht
    have hg := hT t ht gT h1 h2
    exact ⟨gT, h1, h2, (hk.cell (by show gT < w.heap.size; omega) hg).trans h3, (hk.cell (by show gT < w.heap.size; omega) hg).trans h4⟩
  · obtain ⟨gT, gs, cs, h1, h2, h3, h4, h5, h6, h7⟩ := h.toks2 t ht
    have hg := hT t ht gT h1 h2
    have hgs : gs ∉ S := fun hm => by
      rcases hS gs hm with e | e
      · exact pair_ne hZ (h7 0 (by omega)) (.inr (.inr ⟨rfl, _, _, rfl⟩)) e
      · omega
    exact ⟨gT, gs, cs, h1, h2, (hk.cell (by show gT < w.heap.size; omega) hg).trans h3, (hk.cell (by show gT < w.heap.size; omega) hg).trans h4, h5, h6, fun u hu => (hk.cell (by show gs < w.heap.size; omega) hgs).trans (h7 u hu)⟩
  · obtain ⟨h1, v, h2, gR, capR, rfl, h4, h5, h6⟩ := h.names n nm hn'
    have hgN := h.hgN
    have hg : gN ∉ S := fun hm => by
      rcases hS gN hm with e | e
      · exact pair_ne hZ h2 (.inl ⟨_, _, _, rfl⟩) e
      · omega
    refine ⟨(hk.cell (by show gN < w.heap.size; omega) hg).trans h1, _, (hk.cell (by show gN < w.heap.size; omega) hg).trans h2, gR, capR, rfl, h4, h5, fun r ps hr => ?_⟩
    obtain ⟨q, h7, h8⟩ := h6 r ps hr
    have hgR : gR ∉ S := fun hm => by
      obtain ⟨ad, cap, e1, _⟩ := h8
      rcases hS gR hm with e | e
      · exact pair_ne hZ h7 (.inl ⟨_, _, _, e1⟩) e
      · omega
    exact ⟨q, (hk.cell (by show gR < w.heap.size; omega) hgR).trans h7, h8.pair hZ hS hk hn⟩

theorem FcM.pair {tb kb : Nat} {N : NG} {tws : List ByteArray} {pg : List Nm} {adT : Option Addr} {capT gN capN : Nat} {k : List Fa} {R : Nat → Nat → Int} {E : Nat → Nat} (h : FcM w n₀ tb kb N tws pg adT capT gN capN k) (hZ : w.heap[p]? = some (.cells #[.string a, .int .i64 i, .int .i64 j, .string b] 27 (0, 0))) (htb : n₀ ≤ tb) (hk : Keeps w w' [tb, p]) (hv : TbV w' tb adT N.nT capT gN N.nN capN kb R E) : FcM w' n₀ tb kb N tws pg adT capT gN capN k where
  gr := h.gr.pair hZ (fun q hq => by
    simp only [List.mem_cons, List.not_mem_nil, or_false] at hq
    rcases hq with rfl | rfl
    · exact .inr htb
    · exact .inl rfl) hk h.ln
  n0 := h.n0
  ne := h.ne
  lf := hv.lt
  f0 := hv.heads.1
  f1 := hv.heads.2.1
  f2 := hv.heads.2.2
  kn := h.kn.keeps hk (fun hm => by
    simp only [List.mem_cons, List.not_mem_nil, or_false] at hm
    rcases hm with e | e
    · exact h.ne e.symm
    · obtain ⟨c, hc⟩ := own_kind h.kn.2 (g := kb) rfl
      exact kind_ne hc hZ (by decide) e)

end

theorem rules_mem {w : World} {n₀ : Nat} {N : NG} {tws : List ByteArray} {pg : List Nm} {adT : Option Addr} {capT gN capN : Nat} (h : PGr w n₀ N tws pg adT capT gN capN) {r : Nat × List Pt} (hr : r ∈ N.rules) : ∃ (n : Nat) (nm : Nm), pg[n]? = some nm ∧ ∃ i : Nat, nm.2[i]? = some r.2 := by
  rw [h.rules] at hr
  obtain ⟨x, hx, h2⟩ := List.mem_flatMap.1 hr
  obtain ⟨ps, hps, rfl⟩ := List.mem_map.1 h2
  have h3 := List.mem_zipIdx_iff_getElem?.1 hx
  obtain ⟨i, hi, e⟩ := List.mem_iff_getElem.1 hps
  exact ⟨x.2, x.1, h3, i, List.getElem?_eq_some_iff.2 ⟨hi, e⟩⟩

/-- fill's answer, said for both cases at once. -/
theorem fill_flat (w : World) (n₀ tb kb : Nat) (N : NG) (tws : List ByteArray) (pg : List Nm) (adT : Option Addr) (capT gN capN : Nat) (k : List Fa) (R0 : Nat → Nat → Int) (E : Nat → Nat) (h : FcM w n₀ tb kb N tws pg adT capT gN capN k) (hv : TbV w tb adT N.nT capT gN N.nN capN kb R0 E) (hfh : ∀ n, fhAt k n < 2 ^ 21) (hfo : ∀ n, foAt k n < 2 ^ 21)
    (hT : TabAt 1 Lib.deBruijn32tab w) (h0 : 1 < n₀) (htb : n₀ ≤ tb)
    (hlen : ∀ (n : Nat) (nm : Nm) (r : Nat) (ps : List Pt), pg[n]? = some nm → nm.2[r]? = some ps → ps.length ≤ 8 ∧ PsOk N ps)
    (hbits : ∀ (n : Nat) (nm : Nm) (r : Nat), pg[n]? = some nm → r < nm.2.length → ∀ t ∈ bitsOf (spkP k pg n r), t ≤ N.nT) :
    Calls Tryz.prog 81 #[.pointer (some ⟨tb, 0, none⟩)] w fun e w' => ∃ pn pr po pt fd R, e = .returned (.tuple #[.agg #[.string pn, .int .i64 pr, .int .i64 po, .string pt], .bool fd]) ∧ TbV w' tb adT N.nT capT gN N.nN capN kb R E ∧ Keeps w w' [tb] ∧
      (fd = true → ∃ (n q r t : Nat) (nm : Nm), pn = nm.1 ∧ pr = (q : Int) ∧ po = (r : Int) ∧ pt = wordT tws N.nT t ∧ pg[n]? = some nm ∧ q < r ∧ r < nm.2.length ∧ t ≤ N.nT ∧ (spkP k pg n q).testBit t = true ∧ (spkP k pg n r).testBit t = true ∧
          ∀ m, m < n → ∀ nm' : Nm, pg[m]? = some nm' → ∀ t, t < 21 → RowI (spkP k pg m) nm'.2.length (R m) t) ∧
        (fd = false → ∀ (m : Nat) (nm' : Nm), pg[m]? = some nm' → ∀ t, t < 21 → RowI (spkP k pg m) nm'.2.length (R m) t) := by
  refine (fill_any w n₀ tb kb N tws pg adT capT gN capN k R0 E h hv hfh hfo hT h0 htb hlen hbits).mono ?_
  rintro e w' ⟨R, h1, h2, ⟨n, q, r, t, nm, rfl, h3⟩ | ⟨rfl, h3⟩⟩
  · exact ⟨_, _, _, _, _, R, rfl, h1, h2, fun _ => ⟨n, q, r, t, nm, rfl, rfl, rfl, rfl, h3⟩, fun h => by cases h⟩
  · exact ⟨_, _, _, _, _, R, rfl, h1, h2, fun h => (by cases h), fun _ => h3⟩

set_option maxHeartbeats 4000000 in
set_option maxRecDepth 100000 in
theorem tread_err (s : ByteArray) (w : World) (nm : ByteArray) (err : Int) (he : err ≠ 0)
    (hS : ∀ W, Below w.heap.size w W → Calls Tryz.prog 68 #[.string s] W fun e w' => e = .returned (.tuple #[.agg #[.slice none 0 0, .slice none 0 0, .slice none 0 0], .string nm, .int .i64 err]) ∧ Below W.heap.size W w') :
    Calls Tryz.prog 49 #[.string s] w fun e w' => e = .returned (.tuple #[.pointer none, .agg #[.string nm, .int .i64 0, .int .i64 0, .string ByteArray.empty], .int .i64 err]) ∧ Below w.heap.size w w' := by
  have HS : Hid _ := hid hS
  have hne : (err == 0) = false := by simpa using he
  clear hS
  go_enter Tryz.func49, Tryz.ntmps49
  go_wp2_with (go_at_call 68; refine (HS.out _ (bal (Below.refl _ _))).mono ?_; rintro e w1 ⟨rfl, hb1⟩; rw [World.size_alloc] at hb1; have Z1 : w1.heap[w.heap.size]? = some (.cells #[.string ⟨#[]⟩, .int .i64 0, .int .i64 0, .string ⟨#[]⟩] 27 (0, 0)) := (hb1.block w.heap.size (by omega)).trans (World.alloc_heap_new w _); have r0 : w1.cell? ⟨w.heap.size, 0, none⟩ = some (.string ⟨#[]⟩) := block_cell Z1; have r1 : w1.cell? ⟨w.heap.size, 1, none⟩ = some (.int .i64 0) := block_cell Z1; have r2 : w1.cell? ⟨w.heap.size, 2, none⟩ = some (.int .i64 0) := block_cell Z1; have r3 : w1.cell? ⟨w.heap.size, 3, none⟩ = some (.string ⟨#[]⟩) := block_cell Z1; have t0 : w1.frozen? ⟨w.heap.size, 0, none⟩ = false := block_free Z1; have t1 : w1.frozen? ⟨w.heap.size, 1, none⟩ = false := block_free Z1; have t2 : w1.frozen? ⟨w.heap.size, 2, none⟩ = false := block_free Z1; have t3 : w1.frozen? ⟨w.heap.size, 3, none⟩ = false := block_free Z1; have HB1 : Hid (Below w.heap.size w w1) := hid ((bal (Below.refl _ _)).trans (hb1.mono (by omega))); have HZ1 : Hid _ := hid Z1; have hwl : w.heap.size < w1.heap.size := lt_of_block Z1; clear hb1 Z1)
  have hrow := cells_set (j := 3) (cells_set (j := 2) (cells_set (j := 1) (cells_set (j := 0) HZ1.out (.string nm)) (.int .i64 0)) (.int .i64 0)) (.string ⟨#[]⟩)
  have hkw' : Keeps w1 ((((w1.setCell ⟨w.heap.size, 0, none⟩ (.string nm)).setCell ⟨w.heap.size, 1, none⟩ (.int .i64 0)).setCell ⟨w.heap.size, 2, none⟩ (.int .i64 0)).setCell ⟨w.heap.size, 3, none⟩ (.string ⟨#[]⟩)) [w.heap.size] := ((((Keeps.refl w1 [w.heap.size]).setCell (by simp) _).setCell (by simp) _).setCell (by simp) _).setCell (by simp) _
  refine ⟨rfl, _, results_tct (p := 3) (t := 2) (u := 4) (ty := 27) rfl _ _ w.heap.size _ _ _ _ rfl ((Below.heap_alloc _ _ _ (lt_of_block hrow)).trans hrow) Tryz.underlying27 rfl (by kernel_rfl), ?_⟩
  exact ⟨rfl, bal (HB1.out.trans (hkw'.below HB1.out.size (fun q hq => by have := List.mem_singleton.1 hq; omega)))⟩

/-- What table.Read gives of a grammar. -/
structure TabOk (N : NG) (tws : List ByteArray) (pg : List Nm) (k4 : List Fa) (w' : World) (tb : Nat) : Prop where
  ex : ∃ n₀ kb adT capT gN capN R E, n₀ ≤ tb ∧ FcM w' n₀ tb kb N tws pg adT capT gN capN k4 ∧ TbV w' tb adT N.nT capT gN N.nN capN kb R E ∧ (∀ m, m < 20 → E m ≤ 939524097) ∧ ((∀ r ∈ N.rules, nulB (emP k4) r.2 = false) → E = fun _ => 0) ∧
    ∀ (m : Nat) (nm' : Nm), pg[m]? = some nm' → ∀ t, t < 21 → RowI (spkP k4 pg m) nm'.2.length (R m) t

set_option maxHeartbeats 4000000 in
set_option maxRecDepth 100000 in
theorem tread_ok (s : ByteArray) (w : World) (N : NG) (tws : List ByteArray) (pg : List Nm) (hT : TabAt 1 Lib.deBruijn32tab w) (hN : N.Ok) (C : List Fa → List Fa → List Fa → Prop)
    (hlen : ∀ (n : Nat) (nm : Nm) (r : Nat) (ps : List Pt), pg[n]? = some nm → nm.2[r]? = some ps → ps.length ≤ 8 ∧ PsOk N ps)
    (hS : ∀ W, Below w.heap.size w W → Calls Tryz.prog 68 #[.string s] W fun e w' => Below W.heap.size W w' ∧ ∃ k2 k3 k4 n₀ kb adT capT gN capN, C k2 k3 k4 ∧ FirstInv N k2 k3 ∧ FollowInv N k3 k4 ∧ e = .returned (.tuple #[.agg #[.slice adT N.nT capT, .slice (some ⟨gN, 0, none⟩) N.nN capN, .slice (some ⟨kb, 0, none⟩) N.nN N.nN], .string ByteArray.empty, .int .i64 0]) ∧ n₀ ≤ kb ∧ W.heap.size ≤ n₀ ∧ PGr w' n₀ N tws pg adT capT gN capN ∧ KnV w' kb N.nN k4) :
    Calls Tryz.prog 49 #[.string s] w fun e w' => Below w.heap.size w w' ∧ ∃ k2 k3 k4, C k2 k3 k4 ∧
      ((∃ (n q r t : Nat) (nm : Nm), e = .returned (.tuple #[.pointer none, .agg #[.string nm.1, .int .i64 q, .int .i64 r, .string (wordT tws N.nT t)], .int .i64 9]) ∧ pg[n]? = some nm ∧ q < r ∧ r < nm.2.length ∧ t ≤ N.nT ∧ (spkP k4 pg n q).testBit t = true ∧ (spkP k4 pg n r).testBit t = true ∧
          ∃ R : Nat → Nat → Int, ∀ m, m < n → ∀ nm' : Nm, pg[m]? = some nm' → ∀ t, t < 21 → RowI (spkP k4 pg m) nm'.2.length (R m) t) ∨
        (∃ tb, e = .returned (.tuple #[.pointer (some ⟨tb, 0, none⟩), .agg #[.string ByteArray.empty, .int .i64 0, .int .i64 0, .string ByteArray.empty], .int .i64 0]) ∧ TabOk N tws pg k4 w' tb)) := by
  have HS : Hid _ := hid hS
  have HT : Hid _ := hid hT
  have HNO : Hid _ := hid hN
  have HL : Hid _ := hid hlen
  have htl : 1 < w.heap.size := World.block_lt_of_cell? _ _ (hT 0 (by decide))
  clear hS hT hN hlen
  go_enter Tryz.func49, Tryz.ntmps49
  go_upto_region 4 with (go_at_call 68; refine (HS.out _ (bal (Below.refl _ _))).mono ?_; rintro e w1 ⟨hb1, k2, k3, k4, n₀, kb, adT, capT, gN, capN, hC, hi3, hi4, rfl, hn0, hwn, hP, hK⟩; rw [World.size_alloc] at hb1 hwn; have Z1 : w1.heap[w.heap.size]? = some (.cells #[.string ⟨#[]⟩, .int .i64 0, .int .i64 0, .string ⟨#[]⟩] 27 (0, 0)) := (hb1.block w.heap.size (by omega)).trans (World.alloc_heap_new w _); have HB1 : Hid (Below w.heap.size w w1) := hid ((bal (Below.refl _ _)).trans (hb1.mono (by omega))); have HZ1 : Hid _ := hid Z1; have hwl : w.heap.size < w1.heap.size := lt_of_block Z1; have HX : Hid _ := hid (And.intro hn0 (And.intro hwn (And.intro hP hK))); have HI : Hid _ := hid (And.intro hC (And.intro hi3 hi4)); clear hb1 Z1 hn0 hwn hP hK hC hi3 hi4)
  refine wp_region_lit ?_
  go_step
  go_step
  go_step
  obtain ⟨cs, hcs⟩ : ∃ cs, cs = (Value.slice adT N.nT capT :: .slice (some ⟨gN, 0, none⟩) N.nN capN :: .slice (some ⟨kb, 0, none⟩) N.nN N.nN :: List.replicate 440 (.int .i64 0)).toArray := ⟨_, rfl⟩
  refine wpList_built rfl 166 #[(0, .tmp 22)] rfl [(0, .agg #[.slice adT N.nT capT, .slice (some ⟨gN, 0, none⟩) N.nN capN, .slice (some ⟨kb, 0, none⟩) N.nN N.nN])] ?_ cs (by rw [hcs]; exact built_table _ _ _) ?_
  · simp only [List.map_toArray, List.map_cons, List.map_nil]
    go_simp
  have HCS : Hid _ := hid (row_new _ _ _ cs hcs)
  clear hcs
  try simp only [Act.put, List.setIfInBounds_toArray, List.set_cons_zero, List.set_cons_succ]
  obtain ⟨W1, hW1⟩ : ∃ W1, w1.alloc (.cells #[.slice adT N.nT capT, .slice (some ⟨gN, 0, none⟩) N.nN capN, .slice (some ⟨kb, 0, none⟩) N.nN N.nN] 138) = W1 := ⟨_, rfl⟩
  rw [hW1]
  have HBW1 : Hid (Below w1.heap.size w1 W1) := hid (by rw [← hW1]; exact bal (Below.refl _ _))
  have hs1 : w1.heap.size < W1.heap.size := by rw [← hW1, World.size_alloc]; omega
  clear hW1
  have hkl := HX.out.2.2.2.lt
  have hTB := tb_of W1 adT N.nT capT gN N.nN capN kb cs HCS.out.1 HCS.out.2.1 HCS.out.2.2.1 HCS.out.2.2.2.1 HCS.out.2.2.2.2
  have hFX : FcM (W1.alloc (.cells cs 166)) n₀ W1.heap.size kb N tws pg adT capT gN capN k4 :=
    { gr := (HX.out.2.2.1.below (HBW1.out.mono (by have := HX.out.1; omega))).below ((Below.refl n₀ W1).alloc (by have := HX.out.1; omega) _), n0 := HX.out.1, ne := by omega, lf := hTB.lt, f0 := hTB.heads.1, f1 := hTB.heads.2.1, f2 := hTB.heads.2.2, kn := (HX.out.2.2.2.keeps (Keeps.of_below HBW1.out []) (by simp)).keeps ((Keeps.refl W1 []).alloc _) (by simp) }
  have hfb := first_bits HNO.out HI.out.2.1
  have hwb : Below w.heap.size w (W1.alloc (.cells cs 166)) := bal (HB1.out.trans (HBW1.out.mono (by omega)))
  have hn0t : n₀ ≤ W1.heap.size := by have := HX.out.1; omega
  have HFI := hid (fill_flat (W1.alloc (.cells cs 166)) n₀ W1.heap.size kb N tws pg adT capT gN capN k4 _ _ hFX hTB (fun n => by rw [HI.out.2.2.fh]; exact HI.out.2.1.lt n) (fun n => HI.out.2.2.lt n) (TabAt.below HT.out hwb htl) (by have := HX.out.2.1; omega) hn0t HL.out
    (fun n nm r hn hr t ht => by
      rcases Nat.lt_or_ge N.nT t with h2 | h2
      · exfalso
        obtain ⟨ps, hps⟩ : ∃ ps, nm.2[r]? = some ps := ⟨_, List.getElem?_eq_getElem hr⟩
        have h1 := mem_bits ht
        rw [spkP_at k4 hn hps, aheadP_spec] at h1
        have e1 : (fun n => (fhAt k4 n).testBit t) = fun _ => false := by funext m; rw [HI.out.2.2.fh]; exact hfb m t (by omega)
        rw [e1, begT_none (by omega) ps (HL.out n nm r ps hn hps).2, follow_bits HNO.out hfb HI.out.2.2 n t h2] at h1
        simp at h1
      · exact h2))
  have HFX : Hid _ := hid hFX
  have HWB : Hid _ := hid hwb
  clear hTB hFX hwb hfb HT HX HCS
  go_upto_region 6 with (go_at_call 81; refine HFI.out.mono ?_; rintro e w3 ⟨pn, pr, po, pt, fd, R, rfl, hv3, hk3, h3t, h3f⟩; have HV3 : Hid _ := hid hv3; have HK3 : Hid _ := hid hk3; have H3 : Hid _ := hid (And.intro h3t h3f); have hs3 := hk3.size; rw [World.size_alloc] at hs3; clear hv3 hk3 h3t h3f)
  have hW1w : w.heap.size < W1.heap.size := by omega
  have Z3 : w3.heap[w.heap.size]? = some (.cells #[.string ⟨#[]⟩, .int .i64 0, .int .i64 0, .string ⟨#[]⟩] 27 (0, 0)) := (HK3.out.block _ (by rw [World.size_alloc]; omega) (by simp; omega)).trans ((Below.heap_alloc _ _ _ hW1w).trans ((HBW1.out.block _ hwl).trans HZ1.out))
  have hlw3 := lt_of_block Z3
  obtain ⟨W4, hW4⟩ : ∃ W4, w3.alloc (.cells #[.string pn, .int .i64 pr, .int .i64 po, .string pt] 27) = W4 := ⟨_, rfl⟩
  have Z4 : W4.heap[w.heap.size]? = some (.cells #[.string ⟨#[]⟩, .int .i64 0, .int .i64 0, .string ⟨#[]⟩] 27 (0, 0)) := by rw [← hW4]; exact (Below.heap_alloc _ _ _ hlw3).trans Z3
  have Y4 : W4.heap[w3.heap.size]? = some (.cells #[.string pn, .int .i64 pr, .int .i64 po, .string pt] 27 (0, 0)) := by rw [← hW4]; exact World.alloc_heap_new w3 _
  have HK4 : Hid (Keeps w3 W4 []) := hid (by rw [← hW4]; exact (Keeps.refl w3 []).alloc _)
  rw [hW4]
  have hl4 : w3.heap.size < W4.heap.size := lt_of_block Y4
  have HBW4 : Hid (Below w.heap.size w W4) := hid (HWB.out.trans (((HK3.out.below (B := w.heap.size) (by rw [World.size_alloc]; omega) (fun q hq => by have := List.mem_singleton.1 hq; omega)).trans (HK4.out.below (by omega) (fun q hq => by cases hq)))))
  have HV4 : Hid _ := hid (HV3.out.keeps HK4.out (by simp))
  have HZ4 : Hid _ := hid Z4
  clear hW4 Z3 HV3 HZ1 HB1 HWB HBW1 HFI
  cases fd
  · have hszW1 : W1.heap.size < w3.heap.size := by omega
    have XF4 : FcM W4 n₀ W1.heap.size kb N tws pg adT capT gN capN k4 := HFX.out.tab (S := [W1.heap.size]) (fun q hq => by have := List.mem_singleton.1 hq; subst this; exact ⟨hn0t, HFX.out.ne⟩) (HK3.out.trans (HK4.out.mono (fun q hq => by cases hq))) HV4.out
    have HME := hid (measure_any W4 n₀ W1.heap.size kb N tws pg adT capT gN capN k4 _ _ XF4 HV4.out (fun n => by rw [HI.out.2.2.fh]; exact HI.out.2.1.lt n) hn0t (fun m hm => by decide) (fun r hr => by
      obtain ⟨n, nm, hn, i, hi⟩ := rules_mem XF4.gr hr
      exact HL.out n nm i r.2 hn hi))
    have HXF : Hid _ := hid XF4
    clear XF4 Y4 Z4
    go_wp2_with (go_at_call 82; refine HME.out.mono ?_; rintro e w5 ⟨rfl, hk5, E', hE1, hE2, hv5⟩; have HK5 : Hid _ := hid hk5; have HV5 : Hid _ := hid (And.intro hE1 (And.intro hE2 hv5)); have Z5 := (hk5.block w.heap.size (by omega) (by simp; omega)).trans HZ4.out; have g0 : w5.cell? ⟨w.heap.size, 0, none⟩ = some (.string ⟨#[]⟩) := block_cell Z5; have g1 : w5.cell? ⟨w.heap.size, 1, none⟩ = some (.int .i64 0) := block_cell Z5; have g2 : w5.cell? ⟨w.heap.size, 2, none⟩ = some (.int .i64 0) := block_cell Z5; have g3 : w5.cell? ⟨w.heap.size, 3, none⟩ = some (.string ⟨#[]⟩) := block_cell Z5; have q0 : w5.frozen? ⟨w.heap.size, 0, none⟩ = false := block_free Z5; have q1 : w5.frozen? ⟨w.heap.size, 1, none⟩ = false := block_free Z5; have q2 : w5.frozen? ⟨w.heap.size, 2, none⟩ = false := block_free Z5; have q3 : w5.frozen? ⟨w.heap.size, 3, none⟩ = false := block_free Z5; have hl5 : w.heap.size < w5.heap.size := lt_of_block Z5; have HZ5 : Hid _ := hid Z5; clear hk5 hE1 hE2 hv5 Z5)
    have hrow := cells_set (j := 3) (cells_set (j := 2) (cells_set (j := 1) (cells_set (j := 0) HZ5.out (.string ⟨#[]⟩)) (.int .i64 0)) (.int .i64 0)) (.string ⟨#[]⟩)
    have hk6 : Keeps w5 ((((w5.setCell ⟨w.heap.size, 0, none⟩ (.string ⟨#[]⟩)).setCell ⟨w.heap.size, 1, none⟩ (.int .i64 0)).setCell ⟨w.heap.size, 2, none⟩ (.int .i64 0)).setCell ⟨w.heap.size, 3, none⟩ (.string ⟨#[]⟩)) [w.heap.size] := ((((Keeps.refl w5 [w.heap.size]).setCell (by simp) _).setCell (by simp) _).setCell (by simp) _).setCell (by simp) _
    have hv6 := HV5.out.2.2.keeps hk6 (by simp; omega)
    have hbk : Below w.heap.size W4 ((((w5.setCell ⟨w.heap.size, 0, none⟩ (.string ⟨#[]⟩)).setCell ⟨w.heap.size, 1, none⟩ (.int .i64 0)).setCell ⟨w.heap.size, 2, none⟩ (.int .i64 0)).setCell ⟨w.heap.size, 3, none⟩ (.string ⟨#[]⟩)) := (HK5.out.below (by omega) (fun q hq => by have := List.mem_singleton.1 hq; omega)).trans (hk6.below (by omega) (fun q hq => by have := List.mem_singleton.1 hq; omega))
    refine ⟨rfl, _, results_tct (p := 3) (t := 2) (u := 4) (ty := 27) rfl _ _ w.heap.size _ _ _ _ rfl hrow Tryz.underlying27 rfl (by kernel_rfl), ?_⟩
    refine ⟨HBW4.out.trans hbk, k2, k3, k4, HI.out.1, .inr ⟨W1.heap.size, rfl, ⟨n₀, kb, adT, capT, gN, capN, R, E', hn0t, ?_, hv6, HV5.out.1, HV5.out.2.1, fun m nm' hm t ht => H3.out.2 (by simp) m nm' hm t ht⟩⟩⟩
    exact HXF.out.pair HZ4.out hn0t ((HK5.out.mono (fun q hq => by have := List.mem_singleton.1 hq; simp [this])).trans (hk6.mono (fun q hq => by have := List.mem_singleton.1 hq; simp [this]))) hv6
  · have g0 : W4.cell? ⟨w.heap.size, 0, none⟩ = some (.string ⟨#[]⟩) := block_cell Z4
    have g1 : W4.cell? ⟨w.heap.size, 1, none⟩ = some (.int .i64 0) := block_cell Z4
    have g2 : W4.cell? ⟨w.heap.size, 2, none⟩ = some (.int .i64 0) := block_cell Z4
    have g3 : W4.cell? ⟨w.heap.size, 3, none⟩ = some (.string ⟨#[]⟩) := block_cell Z4
    have q0 : W4.frozen? ⟨w.heap.size, 0, none⟩ = false := block_free Z4
    have q1 : W4.frozen? ⟨w.heap.size, 1, none⟩ = false := block_free Z4
    have q2 : W4.frozen? ⟨w.heap.size, 2, none⟩ = false := block_free Z4
    have q3 : W4.frozen? ⟨w.heap.size, 3, none⟩ = false := block_free Z4
    have d0 : W4.cell? ⟨w3.heap.size, 0, none⟩ = some (.string pn) := block_cell Y4
    have d1 : W4.cell? ⟨w3.heap.size, 1, none⟩ = some (.int .i64 pr) := block_cell Y4
    have d2 : W4.cell? ⟨w3.heap.size, 2, none⟩ = some (.int .i64 po) := block_cell Y4
    have d3 : W4.cell? ⟨w3.heap.size, 3, none⟩ = some (.string pt) := block_cell Y4
    have hl5 : w.heap.size < W4.heap.size := lt_of_block Z4
    clear Z4 Y4
    go_wp2
    have hne3 : w3.heap.size ∉ [w.heap.size] := by simp; omega
    have HSS : ∀ w', Keeps W4 w' [w.heap.size] → (w'.cell? ⟨w3.heap.size, 0, none⟩ = some (.string pn) ∧ w'.cell? ⟨w3.heap.size, 1, none⟩ = some (.int .i64 pr) ∧ w'.cell? ⟨w3.heap.size, 2, none⟩ = some (.int .i64 po) ∧ w'.cell? ⟨w3.heap.size, 3, none⟩ = some (.string pt)) ∧ Hid (Keeps W4 w' [w.heap.size]) := fun w' hk => ⟨⟨(hk.cell (by exact hl4) hne3).trans d0, (hk.cell (by exact hl4) hne3).trans d1, (hk.cell (by exact hl4) hne3).trans d2, (hk.cell (by exact hl4) hne3).trans d3⟩, hid hk⟩
    have HSH : Hid _ := hid HSS
    clear HSS
    refine wp_region_held_drew (S := fun w' => (w'.cell? ⟨w3.heap.size, 0, none⟩ = some (.string pn) ∧ w'.cell? ⟨w3.heap.size, 1, none⟩ = some (.int .i64 pr) ∧ w'.cell? ⟨w3.heap.size, 2, none⟩ = some (.int .i64 po) ∧ w'.cell? ⟨w3.heap.size, 3, none⟩ = some (.string pt)) ∧ Hid (Keeps W4 w' [w.heap.size])) (by kernel_rfl) (HSH.out _ (Keeps.refl _ _).drew) (fun hHeld => ?_)
    refine tkA 0 ?vv3 rfl ?hy3 hHeld ?_
    case hy3 => (intro w hSw; (try dsimp only at hSw); first | (go_simp; done) | (go_simp; with_reducible rfl))
    try simp only [zA, zC, Act.put, zD, zE, zF]
    refine tkA 1 ?vv1 rfl ?hy1 hHeld ?_
    case hy1 => (intro w hSw; (try dsimp only at hSw); first | (go_simp; done) | (go_simp; with_reducible rfl))
    try simp only [zA, zB, zC, Act.put, zD, zE, zF]
    refine wpAnyH_ready (rs := [2]) (by kernel_rfl) (by simp) ?_
    refine AllReadyH.cons rfl (fun K hK => ?_) AllReadyH.nil
    try simp only [zA, zB, zC]
    go_simp
    refine hK.out _ _ ?_ (fun hHeld => ?_)
    · exact HSH.out _ ((((hHeld.2.out.setCell (by simp) _).setCell (by simp) _).setCell (by simp) _).setCell (by simp) _)
    clear hK K
    try simp only [zA, zB, zC, Act.put, zD, zE, zF]
    refine tkA 3 ?vv2 rfl ?hy2 hHeld ?_
    case hy2 => (intro w hSw; (try dsimp only at hSw); first | (go_simp; done) | (go_simp; with_reducible rfl))
    try simp only [zA, zB, zC, Act.put, zD, zE, zF]
    refine wpAnyH_done (by kernel_rfl) ?_ _
    have HKE : Hid _ := hid hHeld.2.out
    clear hHeld g0 g1 g2 g3 q0 q1 q2 q3 d0 d1 d2 d3
    go_wp2
    have hrow := cells_set (j := 3) (cells_set (j := 2) (cells_set (j := 1) (cells_set (j := 0) HZ4.out (.string pn)) (.int .i64 pr)) (.int .i64 po)) (.string pt)
    obtain ⟨n, q, r, t, nm, rfl, rfl, rfl, rfl, h3⟩ := H3.out.1 (by simp)
    refine ⟨rfl, _, results_tct (p := 3) (t := 2) (u := 4) (ty := 27) rfl _ _ w.heap.size _ _ _ _ rfl hrow Tryz.underlying27 rfl (by kernel_rfl), ?_⟩
    refine ⟨HBW4.out.trans (HKE.out.below (by omega) (fun q hq => by have := List.mem_singleton.1 hq; omega)), k2, k3, k4, HI.out.1, .inl ⟨n, q, r, t, nm, rfl, h3.1, h3.2.1, h3.2.2.1, h3.2.2.2.1, h3.2.2.2.2.1, h3.2.2.2.2.2.1, R, h3.2.2.2.2.2.2⟩⟩

end Go.Proofs.YtjjggdcnpndgjaaGreatDoor
