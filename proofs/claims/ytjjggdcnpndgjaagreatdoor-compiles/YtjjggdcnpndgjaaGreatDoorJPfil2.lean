/- (*Table).fill: the rule that each token speaks for, up to the first clash. -/
import Derived.Test.YtjjggdcnpndgjaaGreatDoorJPfil1
import Derived.Test.YtjjggdcnpndgjaaGreatDoorJPset2
import Derived.Test.YtjjggdcnpndgjaaGreatDoorJ16
import Derived.Scope
import Derived.Deep.DeepCutAuto
namespace Go.Proofs.YtjjggdcnpndgjaaGreatDoor
open Go.RowKit Go.Shelf

attribute [local go_sem] Oper.semAt_some

theorem wpIn_end {F : Fence} {n : Nat} {P : Program} {c : Code} {K : Act → World → Prop} {Q : Exit → Act → World → Prop} {a : Act} {w : World} (h : c.wpIn F n P (OnlyEnd K) a w) : c.wpIn F n P (Exit.then K Q) a w :=
  wpIn_mono h (fun e a w hq => by cases e <;> first | exact hq | exact hq.elim)

/-- What is written beyond the start of the call is no change of what lay there. -/
theorem Keeps.trans' {a b c : World} {S T : List Nat} (h : Keeps a b S) (k : Keeps b c T) (hT : ∀ q ∈ T, q ∈ S ∨ a.heap.size ≤ q) : Keeps a c S :=
  ⟨k.os.trans h.os, k.tape.trans h.tape, k.output.trans h.output, Nat.le_trans h.size k.size, fun i hi hn => (k.block i (Nat.lt_of_lt_of_le hi h.size) (fun hm => by rcases hT i hm with h1 | h1; exact hn h1; omega)).trans (h.block i hi hn)⟩

/-- The two boxes of the answer. -/
def OutV (w : World) (b f : Nat) (v0 v1 v2 v3 v4 : Value) : Prop := w.heap[b]? = some (.cells #[v0, v1, v2, v3] 27 (0, 0)) ∧ w.heap[f]? = some (.cells #[v4] 4 (0, 0))

theorem OutV.same {w : World} {b f : Nat} {v0 v1 v2 v3 v4 : Value} (h : OutV w b f v0 v1 v2 v3 v4) :
    OutV ((((w.setCell ⟨b, 0, none⟩ v0).setCell ⟨b, 1, none⟩ v1).setCell ⟨b, 2, none⟩ v2).setCell ⟨b, 3, none⟩ v3) b f v0 v1 v2 v3 v4 ∧ OutV (w.setCell ⟨f, 0, none⟩ v4) b f v0 v1 v2 v3 v4 := by
  have hne : f ≠ b := kind_ne h.2 h.1 (by decide)
  refine ⟨⟨?_, ?_⟩, ⟨?_, ?_⟩⟩
  · exact cells_set (j := 3) (cells_set (j := 2) (cells_set (j := 1) (cells_set (j := 0) h.1 v0) v1) v2) v3
  · rw [Below.heap_setCell _ _ _ _ hne, Below.heap_setCell _ _ _ _ hne, Below.heap_setCell _ _ _ _ hne, Below.heap_setCell _ _ _ _ hne]; exact h.2
  · rw [Below.heap_setCell _ _ _ _ (fun e => hne e.symm)]; exact h.1
  · exact cells_set (j := 0) h.2 v4

theorem outV_set {w : World} {b f : Nat} {v0 v1 v2 v3 v4 : Value} (h : OutV w b f v0 v1 v2 v3 v4) (u0 u1 u2 u3 u4 : Value) :
    OutV (((((w.setCell ⟨b, 0, none⟩ u0).setCell ⟨b, 1, none⟩ u1).setCell ⟨b, 2, none⟩ u2).setCell ⟨b, 3, none⟩ u3).setCell ⟨f, 0, none⟩ u4) b f u0 u1 u2 u3 u4 := by
  have hne : f ≠ b := kind_ne h.2 h.1 (by decide)
  constructor
  · rw [Below.heap_setCell _ _ _ _ (fun e => hne e.symm)]
    exact cells_set (j := 3) (cells_set (j := 2) (cells_set (j := 1) (cells_set (j := 0) h.1 u0) u1) u2) u3
  · have h2 : ((((w.setCell ⟨b, 0, none⟩ u0).setCell ⟨b, 1, none⟩ u1).setCell ⟨b, 2, none⟩ u2).setCell ⟨b, 3, none⟩ u3).heap[f]? = some (.cells #[v4] 4 (0, 0)) := by
      rw [Below.heap_setCell _ _ _ _ hne, Below.heap_setCell _ _ _ _ hne, Below.heap_setCell _ _ _ _ hne, Below.heap_setCell _ _ _ _ hne]
      exact h.2
    exact cells_set (j := 0) h2 u4

theorem outV_keep {W w : World} {b f : Nat} {v0 v1 v2 v3 v4 : Value} {S : List Nat} (h : OutV w b f v0 v1 v2 v3 v4) (hk : Keeps W w S) :
    Hid (OutV w b f v0 v1 v2 v3 v4 ∧ Keeps W w S) ∧ (w.cell? ⟨b, 0, none⟩ = some v0 ∧ w.cell? ⟨b, 1, none⟩ = some v1 ∧ w.cell? ⟨b, 2, none⟩ = some v2 ∧ w.cell? ⟨b, 3, none⟩ = some v3 ∧ w.cell? ⟨f, 0, none⟩ = some v4) :=
  ⟨hid ⟨h, hk⟩, block_cell h.1, block_cell h.1, block_cell h.1, block_cell h.1, block_cell h.2⟩

theorem pg_len {w : World} {n₀ : Nat} {N : NG} {tws : List ByteArray} {pg : List Nm} {adT : Option Addr} {capT gN capN : Nat} (h : PGr w n₀ N tws pg adT capT gN capN) {n : Nat} {nm : Nm} (hn : pg[n]? = some nm) : nm.2.length ≤ 60 := by
  obtain ⟨rest, hr⟩ := rulesTo_prefix pg hn nm.2.length
  have h1 := congrArg List.length hr
  rw [← h.rules, List.take_length] at h1
  have h2 := h.leR
  simp only [List.length_append, List.length_map] at h1
  omega

theorem onlyEnd_then {K : Act → World → Prop} {Q : Exit → Act → World → Prop} {a : Act} {w : World} (h : Exit.then K Q .normal a w) : OnlyEnd K .normal a w := h

theorem results_cells {P : Program} {fn : Func} {p q : Tmp} {ty ty2 : TypeId} (h : fn.results = #[.cell p ty, .cell q ty2]) (tmps : Array Value) (w : World) (g g2 : Nat) (t' : TypeId) (cs : Array Value) (fr : Nat × Nat) (d : TypeDesc) (v : Value)
    (hp : tmps.getD p undef = .pointer (some ⟨g, 0, none⟩)) (hg : w.heap[g]? = some (.cells cs t' fr)) (hu : P.underlying ty = some d) (hd : (match d with | .struct _ | .array _ _ => true | _ => false) = true) (hi : (P.info? ty).map (·.size) = some cs.size)
    (hq : tmps.getD q undef = .pointer (some ⟨g2, 0, none⟩)) (h2 : (loadVar ty2 ⟨g2, 0, none⟩).run P w = .ok v w) :
    (results fn tmps).run P w = .ok (.tuple #[.agg cs, v]) w := by
  have hp' : tmps[p]?.getD undef = .pointer (some ⟨g, 0, none⟩) := by simpa using hp
  have hq' : tmps[q]?.getD undef = .pointer (some ⟨g2, 0, none⟩) := by simpa using hq
  simp [results, h, hp', hq', asAddr, run_loadVar_row w g t' ty cs fr d hg hu hd hi, h2, Result.andThen]

/-- The values of the places of a frame that nobody reads again. -/
def ofArr (A B : Array Value) (i : Nat) : Value := if i < 40 then A.getD i undef else B.getD (i - 40) undef

/-- The tokens that speak for a rule of a name. -/
def spkP (k : List Fa) (pg : List Nm) (n r : Nat) : Nat := aheadP k ((pg.getD n (ByteArray.empty, [])).2.getD r []) (foAt k n)

theorem spkP_at (k : List Fa) {pg : List Nm} {n r : Nat} {nm : Nm} {ps : List Pt} (hn : pg[n]? = some nm) (hr : nm.2[r]? = some ps) : spkP k pg n r = aheadP k ps (foAt k n) := by
  unfold spkP
  rw [List.getD_eq_getElem?_getD, List.getD_eq_getElem?_getD, hn]
  simp only [Option.getD_some]
  rw [hr]
  rfl

set_option maxHeartbeats 4000000 in
set_option maxRecDepth 100000 in
theorem fill_any (w : World) (n₀ tb kb : Nat) (N : NG) (tws : List ByteArray) (pg : List Nm) (adT : Option Addr) (capT gN capN : Nat) (k : List Fa) (R0 : Nat → Nat → Int) (E : Nat → Nat) (h : FcM w n₀ tb kb N tws pg adT capT gN capN k) (hv : TbV w tb adT N.nT capT gN N.nN capN kb R0 E) (hfh : ∀ n, fhAt k n < 2 ^ 21) (hfo : ∀ n, foAt k n < 2 ^ 21)
    (hT : TabAt 1 Lib.deBruijn32tab w) (h0 : 1 < n₀) (htb : n₀ ≤ tb)
    (hlen : ∀ (n : Nat) (nm : Nm) (r : Nat) (ps : List Pt), pg[n]? = some nm → nm.2[r]? = some ps → ps.length ≤ 8 ∧ PsOk N ps)
    (hbits : ∀ (n : Nat) (nm : Nm) (r : Nat), pg[n]? = some nm → r < nm.2.length → ∀ t ∈ bitsOf (spkP k pg n r), t ≤ N.nT) :
    Calls Tryz.prog 81 #[.pointer (some ⟨tb, 0, none⟩)] w fun e w' => ∃ R, TbV w' tb adT N.nT capT gN N.nN capN kb R E ∧ Keeps w w' [tb] ∧
      ((∃ (n q r t : Nat) (nm : Nm), e = .returned (.tuple #[.agg #[.string nm.1, .int .i64 q, .int .i64 r, .string (wordT tws N.nT t)], .bool true]) ∧ pg[n]? = some nm ∧ q < r ∧ r < nm.2.length ∧ t ≤ N.nT ∧ (spkP k pg n q).testBit t = true ∧ (spkP k pg n r).testBit t = true ∧
          ∀ m, m < n → ∀ nm' : Nm, pg[m]? = some nm' → ∀ t, t < 21 → RowI (spkP k pg m) nm'.2.length (R m) t) ∨
        (e = .returned (.tuple #[.agg #[.string ByteArray.empty, .int .i64 0, .int .i64 0, .string ByteArray.empty], .bool false]) ∧ ∀ (m : Nat) (nm' : Nm), pg[m]? = some nm' → ∀ t, t < 21 → RowI (spkP k pg m) nm'.2.length (R m) t)) := by
  have H : Hid _ := hid h
  have HV0 : Hid _ := hid hv
  have HT : Hid _ := hid hT
  have HL : Hid _ := hid hlen
  have HBt : Hid _ := hid hbits
  have HF : Hid ((∀ n, fhAt k n < 2 ^ 21) ∧ ∀ n, foAt k n < 2 ^ 21) := hid ⟨hfh, hfo⟩
  have hN20 := h.gr.leN
  have hlN := h.gr.lN
  have htw := hv.lt
  have f1 := h.f1
  have hnk : tb ≠ kb := h.ne
  clear h hv hT hlen hbits hfh hfo
  obtain ⟨nN, hnN⟩ : ∃ x, x = N.nN := ⟨_, rfl⟩
  rw [← hnN] at f1 HV0 hN20 hlN ⊢
  have HNN : Hid (nN = N.nN) := hid hnN
  clear hnN
  refine (callsIn_wide (n := 4)).1 ?_
  refine callsIn_of_wp_marks Tryz.func81 rfl trivial ?_ rfl
  simp only [Tryz.ntmps81, List.size_toArray, List.length_cons, List.length_nil, Nat.reduceAdd, Nat.reduceSub, Array.replicate_succ, Array.replicate_zero, List.push_toArray, List.append_toArray, List.nil_append, List.cons_append]
  gi_wp2
  refine wpIn_wide.2 (wp_scope_straight ((wpIn_wide (n := 4)).1 ?_))
  gi_wp2
  refine wpIn_label ?_
  have hs0 : w.heap.size + 1 + 1 = w.heap.size + 2 := rfl
  rw [hs0]
  obtain ⟨W1, hW1⟩ : ∃ W1, ((w.alloc (.cells #[.pointer (some ⟨tb, 0, none⟩)] 107)).alloc (.cells #[.string ⟨#[]⟩, .int .i64 0, .int .i64 0, .string ⟨#[]⟩] 27)).alloc (.cells #[.bool false] 4) = W1 := ⟨_, rfl⟩
  rw [hW1]
  have HK1 : Hid (Keeps w W1 []) := hid (by rw [← hW1]; exact (((Keeps.refl w []).alloc _).alloc _).alloc _)
  have hb0 : W1.heap[w.heap.size]? = some (.cells #[.pointer (some ⟨tb, 0, none⟩)] 107 (0, 0)) := by
    rw [← hW1]
    exact (Below.heap_alloc _ _ _ (by simp; omega)).trans ((Below.heap_alloc _ _ _ (by simp)).trans (World.alloc_heap_new w _))
  have hb1 : W1.heap[w.heap.size + 1]? = some (.cells #[.string ⟨#[]⟩, .int .i64 0, .int .i64 0, .string ⟨#[]⟩] 27 (0, 0)) := by
    rw [← hW1]
    refine (Below.heap_alloc _ _ _ (by simp)).trans ?_
    have h1 := World.alloc_heap_new (w.alloc (.cells #[.pointer (some ⟨tb, 0, none⟩)] 107)) (.cells #[.string ⟨#[]⟩, .int .i64 0, .int .i64 0, .string ⟨#[]⟩] 27)
    rwa [World.size_alloc] at h1
  have hb2 : W1.heap[w.heap.size + 2]? = some (.cells #[.bool false] 4 (0, 0)) := by
    rw [← hW1]
    have h1 := World.alloc_heap_new ((w.alloc (.cells #[.pointer (some ⟨tb, 0, none⟩)] 107)).alloc (.cells #[.string ⟨#[]⟩, .int .i64 0, .int .i64 0, .string ⟨#[]⟩] 27)) (.cells #[.bool false] 4)
    rwa [World.size_alloc, World.size_alloc] at h1
  have c0 : W1.cell? ⟨w.heap.size, 0, none⟩ = some (.pointer (some ⟨tb, 0, none⟩)) := block_cell hb0
  have c1 : W1.cell? ⟨tb, 1, none⟩ = some (.slice (some ⟨gN, 0, none⟩) nN capN) := (HK1.out.cell (by exact htw) (by simp)).trans f1
  have HB : Hid (W1.heap[w.heap.size]? = some (.cells #[.pointer (some ⟨tb, 0, none⟩)] 107 (0, 0)) ∧ W1.heap[w.heap.size + 1]? = some (.cells #[.string ⟨#[]⟩, .int .i64 0, .int .i64 0, .string ⟨#[]⟩] 27 (0, 0)) ∧ W1.heap[w.heap.size + 2]? = some (.cells #[.bool false] 4 (0, 0))) := hid ⟨hb0, hb1, hb2⟩
  clear hb0 hb1 hb2 hW1 hs0 f1
  gi_wp2
  refine wpIn_loop_ghost (fun g a W => ∃ (u : Nat → Value) (Ds : List Nat) (n : Nat) (R : Nat → Nat → Int),
      a = { tmps := #[.pointer (some ⟨tb, 0, none⟩), .pointer (some ⟨w.heap.size, 0, none⟩), .pointer (some ⟨w.heap.size + 1, 0, none⟩), .pointer (some ⟨w.heap.size + 2, 0, none⟩), u 4, u 5, u 6, u 7, u 8, u 9, u 10, u 11, u 12, u 13, u 14, .slice (some ⟨gN, 0, none⟩) nN capN, .int .i64 nN, .int .i64 n, u 18, u 19, u 20, u 21, u 22, u 23, u 24, u 25, u 26, u 27, u 28, u 29, u 30, u 31, u 32, u 33, u 34, u 35, u 36, u 37, u 38, u 39, u 40, u 41, u 42, u 43, u 44, u 45, u 46, u 47, u 48, u 49, u 50, u 51, u 52, u 53, u 54, u 55, u 56, u 57, u 58, u 59, u 60, u 61, u 62, u 63, u 64, u 65, u 66, u 67, u 68, u 69, u 70, u 71, u 72, u 73, u 74, u 75, u 76, u 77, u 78, u 79], defers := marks Ds } ∧
      g = nN - n ∧ n ≤ nN ∧ TbV W tb adT N.nT capT gN nN capN kb R E ∧ Keeps w W [tb] ∧ W.heap[w.heap.size]? = some (.cells #[.pointer (some ⟨tb, 0, none⟩)] 107 (0, 0)) ∧ W.heap[w.heap.size + 1]? = some (.cells #[.string ⟨#[]⟩, .int .i64 0, .int .i64 0, .string ⟨#[]⟩] 27 (0, 0)) ∧ W.heap[w.heap.size + 2]? = some (.cells #[.bool false] 4 (0, 0)) ∧ Marked w Ds W ∧
      ∀ m, m < n → ∀ nm' : Nm, pg[m]? = some nm' → ∀ t, t < 21 → RowI (spkP k pg m) nm'.2.length (R m) t) nN ?start ?round
  case start =>
    refine ⟨ofArr #[undef, undef, undef, undef, _, _, _, _, _, _, _, _, _, _, _, undef, undef, undef, _, _, _, _, _, _, _, _, _, _, _, _, _, _, _, _, _, _, _, _, _, _] #[_, _, _, _, _, _, _, _, _, _, _, _, _, _, _, _, _, _, _, _, _, _, _, _, _, _, _, _, _, _, _, _, _, _, _, _, _, _, _, _], [], 0, R0, rfl, rfl, Nat.zero_le _, ?_, ?_, ?_, ?_, ?_, ⟨List.nodup_nil, fun D hD => by cases hD⟩, fun m hm => by omega⟩
    · exact HV0.out.keeps HK1.out (by simp)
    · exact HK1.out.mono (fun q hq => by cases hq)
    · exact HB.out.1
    · exact HB.out.2.1
    · exact HB.out.2.2
  case round =>
    rintro g a W ⟨u, Ds, n, R, rfl, rfl, hn, hvW, hW, bx0, bx1, bx2, hM, hdone⟩
    by_cases hlt : n < nN
    · have hnP : n < N.nN := by rw [← HNN.out]; exact hlt
      obtain ⟨nm, hnm⟩ : ∃ nm, pg[n]? = some nm := ⟨_, List.getElem?_eq_getElem (by rw [H.out.gr.pgl]; exact hnP)⟩
      have X : Hid (FcM W n₀ tb kb N tws pg adT capT gN capN k) := hid (H.out.tab (S := [tb]) (fun q hq => by have := List.mem_singleton.1 hq; exact ⟨by omega, by omega⟩) hW (R := R) (E := E) (by rw [← HNN.out]; exact hvW))
      obtain ⟨m0, v, m1, gR, capR, rfl, hgR, hcR, hrl⟩ := X.out.gr.names n nm hnm
      have hgN := X.out.gr.hgN
      have HVW : Hid _ := hid hvW
      have HW : Hid (Keeps w W [tb]) := hid hW
      have HM : Hid (Marked w Ds W) := hid hM
      have HBX : Hid _ := hid (And.intro bx0 (And.intro bx1 bx2))
      have HD : Hid _ := hid hdone
      have HRL : Hid _ := hid hrl
      have HNM : Hid (pg[n]? = some nm) := hid hnm
      have c0 : W.cell? ⟨w.heap.size, 0, none⟩ = some (.pointer (some ⟨tb, 0, none⟩)) := block_cell bx0
      have hsz := lt_of_block bx2
      have hl0 : w.heap.size < W.heap.size := by omega
      have hl1 : w.heap.size + 1 < W.heap.size := by omega
      have htW : tb < W.heap.size := by omega
      obtain ⟨nL, hnL⟩ : ∃ m, m = nm.2.length := ⟨_, rfl⟩
      rw [← hnL] at m1 hcR
      have HNL : Hid (nL = nm.2.length) := hid hnL
      have hgRw : gR < W.heap.size := by have := X.out.ln; omega
      have hgNw : gN < W.heap.size := by have := X.out.ln; omega
      have hn20 : n < 20 := by omega
      have hnL60 : nL ≤ 60 := by rw [hnL]; exact pg_len H.out.gr hnm
      clear hvW hW hM bx0 bx1 bx2 hdone hrl hnm hnL HB HK1 c1 hnP
      gi_wp2
      have hs1 : W.heap.size + 1 = W.heap.size + 1 := rfl
      obtain ⟨W2, hW2⟩ : ∃ W2, (W.alloc (.cells #[.string nm.1, .slice (some ⟨gR, 0, none⟩) nL capR] 219)).alloc (.cells #[.pointer (some ⟨tb, 3 + n * 21, none⟩)] 243) = W2 := ⟨_, rfl⟩
      rw [hW2]
      have HK2 : Hid (Keeps W W2 []) := hid (by rw [← hW2]; exact ((Keeps.refl W []).alloc _).alloc _)
      have hb5 : W2.heap[W.heap.size]? = some (.cells #[.string nm.1, .slice (some ⟨gR, 0, none⟩) nL capR] 219 (0, 0)) := by
        rw [← hW2]
        exact (Below.heap_alloc _ _ _ (by simp)).trans (World.alloc_heap_new W _)
      have hb6 : W2.heap[W.heap.size + 1]? = some (.cells #[.pointer (some ⟨tb, 3 + n * 21, none⟩)] 243 (0, 0)) := by
        rw [← hW2]
        have h1 := World.alloc_heap_new (W.alloc (.cells #[.string nm.1, .slice (some ⟨gR, 0, none⟩) nL capR] 219)) (.cells #[.pointer (some ⟨tb, 3 + n * 21, none⟩)] 243)
        rwa [World.size_alloc] at h1
      have hsz2 := lt_of_block hb6
      have HB56 : Hid _ := hid (And.intro hb5 hb6)
      have HV2 : Hid (TbV W2 tb adT N.nT capT gN nN capN kb R E) := hid (HVW.out.keeps HK2.out (by simp))
      clear hW2 hb5 hb6 c0 m0 m1
      gi_loopg [27] (21) (fun g i wr => ∃ (t : Nat) (R1 : Nat → Nat → Int), t + g = 21 ∧ i = .int .i64 t ∧ Hid (TbV wr tb adT N.nT capT gN nN capN kb R1 E) ∧ Hid (Keeps W2 wr [tb]) ∧ Hid ((∀ u, u < t → R1 n u = -1) ∧ ∀ m, m ≠ n → R1 m = R m))
      case atStart => exact ⟨0, R, by omega, rfl, HV2, Keeps.refl _ _, hid ⟨fun u hu => by omega, fun m hm => rfl⟩⟩
      case round =>
        obtain ⟨t, R1, htg, rfl, HV, HKw, HR1⟩ := hrel
        have hszr := HKw.out.size
        have c6 : wr.cell? ⟨W.heap.size + 1, 0, none⟩ = some (.pointer (some ⟨tb, 3 + n * 21, none⟩)) := block_cell ((HKw.out.block _ hsz2 (by simp; omega)).trans HB56.out.2)
        by_cases hlt2 : t < 21
        · have cR := HV.out.row hn20 hlt2
          have fR := HV.out.free (3 + n * 21 + t)
          have HV3 : Hid _ := hid (HV.out.put hn20 hlt2 (-1))
          have HK3 : Hid _ := hid (HKw.out.setCell (p := ⟨tb, 3 + n * 21 + t, none⟩) (by simp) (.int .i64 (-1)))
          gi_wp2
          gi_roundg (20 - t)
          case measure => omega
          case rel =>
            refine ⟨t + 1, _, by omega, by go_num, HV3, HK3, hid ⟨fun u hu => ?_, fun m hm => ?_⟩⟩
            · unfold updF
              by_cases e : u = t
              · simp [e]
              · simp only [if_pos, if_neg e]
                exact HR1.out.1 u (by omega)
            · unfold updF
              simp only [if_neg hm]
              exact HR1.out.2 m hm
        · have ht21 : t = 21 := by omega
          subst ht21
          have c5 : wr.cell? ⟨W.heap.size, 1, none⟩ = some (.slice (some ⟨gR, 0, none⟩) nL capR) := block_cell ((HKw.out.block _ (by omega) (by simp; omega)).trans HB56.out.1)
          have HRow : Hid (∀ u, u < 21 → RowI (spkP k pg n) 0 (R1 n) u) := hid fun u hu => row_zero (HR1.out.1 u hu)
          gi_wp2
          have HVr : Hid _ := hid HV.out
          have HKr : Hid (Keeps W wr [tb]) := hid ((HK2.out.mono (fun q hq => by cases hq)).trans HKw.out)
          have HR2 : Hid (∀ m, m ≠ n → R1 m = R m) := hid HR1.out.2
          have HMr : Hid (Marked w Ds wr) := hid (HM.out.keeps HKr.out (fun q hq => by have := List.mem_singleton.1 hq; subst this; exact HVW.out.kind))
          have HB56r : Hid _ := hid (And.intro ((HKw.out.block _ (by omega) (by simp; omega)).trans HB56.out.1) ((HKw.out.block _ hsz2 (by simp; omega)).trans HB56.out.2))
          have hszw : W.heap.size + 1 < wr.heap.size := by omega
          clear c5 c6 HV HKw HR1 HV2 HK2 HB56 hszr htg
          refine wpIn_loop_ghost (fun g a V => ∃ (u : Nat → Value) (Ds : List Nat) (r : Nat) (R2 : Nat → Nat → Int),
              a = { tmps := #[.pointer (some ⟨tb, 0, none⟩), .pointer (some ⟨w.heap.size, 0, none⟩), .pointer (some ⟨w.heap.size + 1, 0, none⟩), .pointer (some ⟨w.heap.size + 2, 0, none⟩), .int .i64 n, .pointer (some ⟨W.heap.size, 0, none⟩), .pointer (some ⟨W.heap.size + 1, 0, none⟩), u 7, u 8, u 9, u 10, u 11, u 12, u 13, u 14, .slice (some ⟨gN, 0, none⟩) nN capN, .int .i64 nN, .int .i64 n, u 18, u 19, u 20, u 21, u 22, u 23, u 24, u 25, u 26, u 27, u 28, u 29, u 30, u 31, u 32, u 33, u 34, u 35, .slice (some ⟨gR, 0, none⟩) nL capR, .int .i64 nL, .int .i64 r, u 39, u 40, u 41, u 42, u 43, u 44, u 45, u 46, u 47, u 48, u 49, u 50, u 51, u 52, u 53, u 54, u 55, u 56, u 57, u 58, u 59, u 60, u 61, u 62, u 63, u 64, u 65, u 66, u 67, u 68, u 69, u 70, u 71, u 72, u 73, u 74, u 75, u 76, u 77, u 78, u 79], defers := marks Ds } ∧
              g = nL - r ∧ r ≤ nL ∧ TbV V tb adT N.nT capT gN nN capN kb R2 E ∧ Keeps wr V [tb] ∧ Marked w Ds V ∧ (∀ t, t < 21 → RowI (spkP k pg n) r (R2 n) t) ∧ ∀ m, m ≠ n → R2 m = R m) nL ?start2 ?round2
          case start2 =>
            exact ⟨ofArr #[undef, undef, undef, undef, undef, undef, undef, _, _, _, _, _, _, _, _, undef, undef, undef, _, _, _, _, _, _, _, _, _, _, _, _, _, _, _, _, _, _, undef, undef, undef, _] #[_, _, _, _, _, _, _, _, _, _, _, _, _, _, _, _, _, _, _, _, _, _, _, _, _, _, _, _, _, _, _, _, _, _, _, _, _, _, _, _], Ds, 0, R1, rfl, rfl, Nat.zero_le _, HVr.out, Keeps.refl _ _, HMr.out, HRow.out, HR2.out⟩
          case round2 =>
            rintro g a V ⟨u, Ds, r, R2, rfl, rfl, hr, hvV, hVk, hM, hrow, hoth⟩
            have HVV : Hid _ := hid hvV
            have HVk : Hid (Keeps wr V [tb]) := hid hVk
            have HMV : Hid _ := hid hM
            have HRowV : Hid _ := hid hrow
            have HOth : Hid _ := hid hoth
            have hszV := hVk.size
            clear hvV hVk hM hrow hoth HMr HM
            by_cases hltr : r < nL
            · obtain ⟨ps, hps⟩ : ∃ ps, nm.2[r]? = some ps := ⟨_, List.getElem?_eq_getElem (by rw [← HNL.out]; exact hltr)⟩
              have hKwV : Keeps w V [tb] := HW.out.trans (HKr.out.trans HVk.out)
              have hl0V : w.heap.size < V.heap.size := by omega
              have XV : Hid (FcM V n₀ tb kb N tws pg adT capT gN capN k) := hid (H.out.tab (S := [tb]) (fun q hq => by have := List.mem_singleton.1 hq; exact ⟨by omega, by omega⟩) hKwV (R := R2) (E := E) (by rw [← HNN.out]; exact HVV.out))
              have hKWV : Keeps W V [tb] := HKr.out.trans HVk.out
              have k0 := (hKWV.block _ hl0 (by simp; omega)).trans HBX.out.1
              have c0 : V.cell? ⟨w.heap.size, 0, none⟩ = some (.pointer (some ⟨tb, 0, none⟩)) := block_cell k0
              obtain ⟨hl8, hpk⟩ := HL.out n nm r ps HNM.out hps
              have hnP : n < N.nN := by rw [← HNN.out]; exact hlt
              have hsp := spkP_at k HNM.out hps
              have CS := speaking_any (V.alloc (.cells #[.int .i64 (r : Int)] 3)).drew n₀ tb kb N tws pg adT capT gN capN k (XV.out.below (bdr (bal (Below.refl _ _)))) HF.out.1 HF.out.2 n r nm ps HNM.out hnP hps hpk hl8
              rw [← hsp] at CS
              have hss21 : spkP k pg n r < 2 ^ 21 := by rw [hsp]; exact aheadP_lt H.out.gr.leT HF.out.1 hpk (HF.out.2 n)
              obtain ⟨ss, hss⟩ : ∃ ss, spkP k pg n r = ss := ⟨_, rfl⟩
              rw [hss] at CS hss21
              have HSS : Hid (spkP k pg n r = ss) := hid hss
              have HPS : Hid (nm.2[r]? = some ps) := hid hps
              have HKwV : Hid _ := hid hKwV
              have HKWV : Hid _ := hid hKWV
              clear hKwV hKWV hpk hps hsp hss
              gi_wp2
              obtain ⟨V1, hV1⟩ : ∃ V1, V.alloc (.cells #[.int .i64 (r : Int)] 3) = V1 := ⟨_, rfl⟩
              rw [hV1] at CS ⊢
              have HCS : Hid _ := hid CS
              have HKV1 : Hid (Keeps V V1 []) := hid (by rw [← hV1]; exact (Keeps.refl V []).alloc _)
              have hb8 : V1.heap[V.heap.size]? = some (.cells #[.int .i64 (r : Int)] 3 (0, 0)) := by rw [← hV1]; exact World.alloc_heap_new V _
              have d0 : V1.cell? ⟨w.heap.size, 0, none⟩ = some (.pointer (some ⟨tb, 0, none⟩)) := (HKV1.out.cell (by exact hl0V) (by simp)).trans c0
              have d8 : V1.cell? ⟨V.heap.size, 0, none⟩ = some (.int .i64 (r : Int)) := block_cell hb8
              have hszV1 := lt_of_block hb8
              have HB8 : Hid _ := hid hb8
              clear CS hV1 c0 k0 hb8
              refine wpIn_end ((wpIn_wide (n := 4)).2 ?_)
              refine wp_region_held_drew (S := fun w' => (w'.cell? ⟨w.heap.size, 0, none⟩ = some (.pointer (some ⟨tb, 0, none⟩)) ∧ w'.cell? ⟨V.heap.size, 0, none⟩ = some (.int .i64 (r : Int))) ∧ Keeps V1 w' []) (by kernel_rfl) ⟨⟨d0, d8⟩, (Keeps.refl _ _).drew⟩ (fun hHeld => ?_)
              refine tkA 0 ?vv27 rfl ?hy27 hHeld ?_
              case hy27 => (intro w hSw; (try dsimp only at hSw); first | (go_simp; done) | (go_simp; with_reducible rfl))
              try simp only [zA, zC, Act.put, zD, zE, zF]
              refine tkA 1 ?vv1 rfl ?hy1 hHeld ?_
              case hy1 => (intro w hSw; (try dsimp only at hSw); first | (go_simp; done) | (go_simp; with_reducible rfl))
              try simp only [zA, zB, zC, Act.put, zD, zE, zF]
              refine tkA 2 ?vv2 rfl ?hy2 hHeld ?_
              case hy2 => (intro w hSw; (try dsimp only at hSw); first | (go_simp; done) | (go_simp; with_reducible rfl))
              try simp only [zA, zB, zC, Act.put, zD, zE, zF]
              refine tkA 3 ?vv3 rfl ?hy3 hHeld ?_
              case hy3 => (intro w hSw; (try dsimp only at hSw); first | (go_simp; done) | (go_simp; with_reducible rfl))
              try simp only [zA, zB, zC, Act.put, zD, zE, zF]
              refine tkA 4 ?vv4 rfl ?hy4 hHeld ?_
              case hy4 => (intro w hSw; (try dsimp only at hSw); first | (go_simp; done) | (go_simp; with_reducible rfl))
              try simp only [zA, zB, zC, Act.put, zD, zE, zF]
              refine wpAnyH_ready (rs := [5]) (by kernel_rfl) (by simp) ?_
              refine AllReadyH.cons rfl (fun K hK => ?_) AllReadyH.nil
              try simp only [zA, zB, zC]
              go_simp; refine HCS.out.mono ?_; rintro e w5 ⟨rfl, hb5⟩; try dsimp only
              refine hK.out _ _ ?_ (fun hHeld => ?_)
              · exact ⟨⟨(hb5.cell (by show w.heap.size < V1.heap.size; omega)).trans hHeld.1.1, (hb5.cell (by exact hszV1)).trans hHeld.1.2⟩, hHeld.2.trans (Keeps.of_below hb5 [])⟩
              clear hK K
              try simp only [zA, zB, zC, Act.put, zD, zE, zF]
              refine wpAnyH_ready (rs := [6]) (by kernel_rfl) (by simp) ?_
              refine AllReadyH.cons rfl (fun K hK => ?_) AllReadyH.nil
              try simp only [zA, zB, zC]
              go_simp; refine ((callsIn_wide (n := 4)).1 (setAll_in Fence.wide 4 trivial rfl _ _)).mono ?_; rintro e w6 ⟨rfl, rfl⟩; try dsimp only
              refine hK.out _ _ ?_ (fun hHeld => ?_)
              · exact ⟨⟨box_alloc _ hHeld.1.1, box_alloc _ hHeld.1.2⟩, hHeld.2.alloc _⟩
              clear hK K
              try simp only [Act.put, zD, zE, zF]
              refine wpAnyH_done (by kernel_rfl) ?_ _
              have HKV5 : Hid _ := hid hHeld.2
              obtain ⟨V2, hV2⟩ : ∃ V2, w5.alloc (.cells #[.int .u32 (ss : Int)] 214) = V2 := ⟨_, rfl⟩
              have bS : V2.cell? ⟨w5.heap.size, 0, none⟩ = some (.int .u32 (ss : Int)) := by rw [← hV2]; exact box_new w5 _ _
              have hV2s : w5.heap.size < V2.heap.size := by rw [← hV2, World.size_alloc]; omega
              rw [hV2] at HKV5 ⊢
              clear hHeld hb5 hV2 d0 d8
              refine onlyEnd_then (Q := fun _ _ _ => False) ?_
              gi_wp2
              have HKwr : Hid (Keeps wr V2 [tb]) := hid (HVk.out.trans ((HKV1.out.trans HKV5.out).mono (fun q hq => by cases hq)))
              have HKw2 : Hid (Keeps w V2 [tb]) := hid (HKwV.out.trans ((HKV1.out.trans HKV5.out).mono (fun q hq => by cases hq)))
              have hszV5 := HKV5.out.size
              have HB8V : Hid (V2.heap[V.heap.size]? = some (.cells #[.int .i64 (r : Int)] 3 (0, 0))) := hid ((HKV5.out.block _ hszV1 (by simp)).trans HB8.out)
              have HVV2 : Hid (TbV V2 tb adT N.nT capT gN nN capN kb R2 E) := hid ((HVV.out.keeps HKV1.out (by simp)).keeps HKV5.out (by simp))
              have HMV2 : Hid (Marked w Ds V2) := hid ((HMV.out.keeps HKV1.out (fun q hq => by cases hq)).keeps HKV5.out (fun q hq => by cases hq))
              have HTV2 : Hid (TabAt 1 Lib.deBruijn32tab V2) := hid (fun j hj => (HKw2.out.cell (by show 1 < w.heap.size; omega) (by simp; omega)).trans (HT.out j hj))
              have hszw2 : w.heap.size + 2 < V2.heap.size := by omega
              have hszW2 : W.heap.size + 1 < V2.heap.size := by omega
              clear HKV1 HKV5 HB8 HVV HMV HVr
              refine wpIn_rangeFunc_ownG (F := Fence.wide) rfl (by omega) (gf := 181) (lb := #[.pointer (some ⟨w5.heap.size, 0, none⟩)]) rfl trivial (enters_of Tryz.func181 (by kernel_rfl) rfl)
                (set_stops 3 (by omega) w5.heap.size n₀ ss hss21 h0 V2 hV2s HTV2.out bS) belowK_t (belowK_b (by omega)) (Below.refl _ _) (fun _ => rfl)
                (fun (pre : List (TI ss)) V' => ∃ R3, TbV V' tb adT N.nT capT gN nN capN kb R3 E ∧ Keeps V2 V' [tb] ∧ (∀ t, t < 21 → MidI (spkP k pg n) r (pre.map (·.1)) (R3 n) t) ∧ ∀ m, m ≠ n → R3 m = R m)
                (fun c (pre : List (TI ss)) V' => c = .exit 0 ∧ ∃ (R3 : Nat → Nat → Int) (pre0 : List Nat) (x : Nat), TbV V' tb adT N.nT capT gN nN capN kb R3 E ∧ Keeps V2 V' [tb, w.heap.size + 1, w.heap.size + 2] ∧ V'.heap[w.heap.size + 1]? = some (.cells #[.string nm.1, .int .i64 (R3 n x), .int .i64 (r : Int), .string (wordT tws N.nT x)] 27 (0, 0)) ∧ V'.heap[w.heap.size + 2]? = some (.cells #[.bool true] 4 (0, 0)) ∧ pre.map (·.1) = pre0 ++ [x] ∧ x ∈ bitsOf ss ∧ (∀ t, t < 21 → MidI (spkP k pg n) r pre0 (R3 n) t) ∧ R3 n x ≠ -1 ∧ ∀ m, m ≠ n → R3 m = R m)
                ?own ?ownx ⟨R2, HVV2.out, Keeps.refl _ _, fun t ht => mid_start (HRowV.out t ht), HOth.out⟩
                (fun x => { tmps := #[.pointer (some ⟨tb, 0, none⟩), .pointer (some ⟨w.heap.size, 0, none⟩), .pointer (some ⟨w.heap.size + 1, 0, none⟩), .pointer (some ⟨w.heap.size + 2, 0, none⟩), .int .i64 n, .pointer (some ⟨W.heap.size, 0, none⟩), .pointer (some ⟨W.heap.size + 1, 0, none⟩), u 7, .pointer (some ⟨V.heap.size, 0, none⟩), .int .i64 (x.1 : Int), u 10, u 11, u 12, u 13, u 14, .slice (some ⟨gN, 0, none⟩) nN capN, .int .i64 nN, .int .i64 n, u 18, u 19, u 20, u 21, u 22, u 23, u 24, u 25, u 26, u 27, u 28, u 29, u 30, u 31, u 32, u 33, u 34, u 35, .slice (some ⟨gR, 0, none⟩) nL capR, .int .i64 nL, .int .i64 r, .bool true, .int .i64 r, .pointer (some ⟨tb, 0, none⟩), .pointer (some ⟨tb, 0, none⟩), .pointer (some ⟨tb, 0, none⟩), .int .i64 n, .int .i64 r, .int .u32 ss, .func (.func 181) #[] #[.pointer (some ⟨w5.heap.size, 0, none⟩)], .int .i64 (x.1 : Int), u 49, u 50, u 51, u 52, u 53, u 54, u 55, u 56, u 57, u 58, u 59, u 60, u 61, u 62, u 63, u 64, u 65, u 66, u 67, u 68, u 69, u 70, u 71, u 72, u 73, u 74, u 75, u 76, u 77, u 78, u 79], defers := [] }) ?assign ?body ?done ?stop
              case assign =>
                intro l x V' K hK
                simp only [encT]
                gi_wp2
                exact hK
              case own =>
                rintro pre A B row ⟨R3, h1, h2, h3, h4⟩ hg hrw
                have hk : Keeps A B row.toList := (Keeps.refl A row.toList).grown hg (fun q e => .inl (by rw [e]; simp))
                exact ⟨R3, h1.keeps hk (fun hm => by obtain ⟨o, ho, hc⟩ := (hrw tb (by simpa using hm)).2; obtain ⟨c, e, f, hx⟩ := h1.kind; rw [hx] at ho; cases ho; cases hc), h2.grown hg (fun q e => .inr (hrw q e).1), h3, h4⟩
              case ownx =>
                rintro c pre A B row ⟨rfl, R3, pre0, x, h1, h2, h3, h4, h5⟩ hg hrw
                have hk : Keeps A B row.toList := (Keeps.refl A row.toList).grown hg (fun q e => .inl (by rw [e]; simp))
                have hno : ∀ (q : Nat) (cs : Array Value) (e : Nat) (f : Nat × Nat), A.heap[q]? = some (.cells cs e f) → q ∉ row.toList := fun q cs e f hq hm => by obtain ⟨o, ho, hc⟩ := (hrw q (by simpa using hm)).2; rw [hq] at ho; cases ho; cases hc
                refine ⟨rfl, R3, pre0, x, h1.keeps hk (fun hm => by obtain ⟨cs, e, f, hx⟩ := h1.kind; exact hno _ _ _ _ hx hm), h2.grown hg (fun q e => .inr (hrw q e).1), ?_, ?_, h5⟩
                · exact (hk.block _ (lt_of_block h3) (hno _ _ _ _ h3)).trans h3
                · exact (hk.block _ (lt_of_block h4) (hno _ _ _ _ h4)).trans h4
              case stop =>
                rintro D c pre V' hD ⟨rest, hrest⟩ ⟨rfl, R3, pre0, x, h1, h2, h3, h4, h5, h6, h7, h8, h9⟩ hd
                obtain ⟨hx21, _⟩ := bits_lt h6
                have hnd := bits_nodup ss
                rw [hrest, h5] at hnd
                have hxn : x ∉ pre0 := fun hm => (List.nodup_append.1 (List.nodup_append.1 hnd).1).2.2 x hm x (by simp) rfl
                obtain ⟨q, hq, hR, hbq⟩ := mid_clash (h7 x hx21) hxn h8
                rw [hR] at h3
                have HX : Hid (q < r ∧ (spkP k pg n q).testBit x = true) := hid ⟨hq, hbq⟩
                have HX6 : Hid (x ∈ bitsOf ss) := hid h6
                have HX9 : Hid _ := hid h9
                have HXV : Hid _ := hid h1
                have HXK : Hid (Keeps w V' [tb]) := hid (HKw2.out.trans' h2 (fun q hq => by simp only [List.mem_cons, List.not_mem_nil, or_false] at hq ⊢; omega))
                have HXM : Hid (Marked w (D :: Ds) V') := hid (HMV2.out.cons (HMV2.out.keeps h2 (fun q hq => by simp only [List.mem_cons, List.not_mem_nil, or_false] at hq; rcases hq with rfl | rfl | rfl; exact HVV2.out.kind; exact ⟨_, _, _, ((HKr.out.trans HKwr.out).block _ hl1 (by simp; omega)).trans HBX.out.2.1⟩; exact ⟨_, _, _, ((HKr.out.trans HKwr.out).block _ hsz (by simp; omega)).trans HBX.out.2.2⟩)) (by omega) hD hd)
                have hcb := h3
                have hfbx := h4
                clear hnd hrest hxn hq hbq hR h1 h2 h3 h4 h5 h6 h7 h8 h9 hd
                have g0 : V'.cell? ⟨w.heap.size + 1, 0, none⟩ = some (.string nm.1) := block_cell hcb
                have g1 : V'.cell? ⟨w.heap.size + 1, 1, none⟩ = some (.int .i64 (q : Int)) := block_cell hcb
                have g2 : V'.cell? ⟨w.heap.size + 1, 2, none⟩ = some (.int .i64 (r : Int)) := block_cell hcb
                have g3 : V'.cell? ⟨w.heap.size + 1, 3, none⟩ = some (.string (wordT tws N.nT x)) := block_cell hcb
                have g4 : V'.cell? ⟨w.heap.size + 2, 0, none⟩ = some (.bool true) := block_cell hfbx
                have q0 : V'.frozen? ⟨w.heap.size + 1, 0, none⟩ = false := block_free hcb
                have q1 : V'.frozen? ⟨w.heap.size + 1, 1, none⟩ = false := block_free hcb
                have q2 : V'.frozen? ⟨w.heap.size + 1, 2, none⟩ = false := block_free hcb
                have q3 : V'.frozen? ⟨w.heap.size + 1, 3, none⟩ = false := block_free hcb
                have q4 : V'.frozen? ⟨w.heap.size + 2, 0, none⟩ = false := block_free hfbx
                have hl5 : w.heap.size + 1 < V'.heap.size := lt_of_block hcb
                have hl6 : w.heap.size + 2 < V'.heap.size := lt_of_block hfbx
                have HCB : Hid (OutV V' (w.heap.size + 1) (w.heap.size + 2) (.string nm.1) (.int .i64 (q : Int)) (.int .i64 (r : Int)) (.string (wordT tws N.nT x)) (.bool true)) := hid (And.intro hcb hfbx)
                clear hcb hfbx
                gi_wp2
                refine wpIn_end ((wpIn_wide (n := 4)).2 ?_)
                refine wp_region_held_drew (S := fun w' => Hid (OutV w' (w.heap.size + 1) (w.heap.size + 2) (.string nm.1) (.int .i64 (q : Int)) (.int .i64 (r : Int)) (.string (wordT tws N.nT x)) (.bool true) ∧ Keeps V' w' [w.heap.size + 1, w.heap.size + 2]) ∧ (w'.cell? ⟨w.heap.size + 1, 0, none⟩ = some (.string nm.1) ∧ w'.cell? ⟨w.heap.size + 1, 1, none⟩ = some (.int .i64 (q : Int)) ∧ w'.cell? ⟨w.heap.size + 1, 2, none⟩ = some (.int .i64 (r : Int)) ∧ w'.cell? ⟨w.heap.size + 1, 3, none⟩ = some (.string (wordT tws N.nT x)) ∧ w'.cell? ⟨w.heap.size + 2, 0, none⟩ = some (.bool true))) (by kernel_rfl) ⟨hid ⟨HCB.out, (Keeps.refl _ _).drew⟩, g0, g1, g2, g3, g4⟩ (fun hHeld => ?_)
                refine tkA 0 ?vv28 rfl ?hy28 hHeld ?_
                case hy28 => (intro w hSw; (try dsimp only at hSw); first | (go_simp; done) | (go_simp; with_reducible rfl))
                try simp only [zA, zC, Act.put, zD, zE, zF]
                refine tkA 1 ?vv5 rfl ?hy5 hHeld ?_
                case hy5 => (intro w hSw; (try dsimp only at hSw); first | (go_simp; done) | (go_simp; with_reducible rfl))
                try simp only [zA, zB, zC, Act.put, zD, zE, zF]
                refine wpAnyH_ready (rs := [2]) (by kernel_rfl) (by simp) ?_
                refine AllReadyH.cons rfl (fun K hK => ?_) AllReadyH.nil
                try simp only [zA, zB, zC]
                go_simp
                refine hK.out _ _ ?_ (fun hHeld => ?_)
                · exact outV_keep (hHeld.1.out.1.same.1) ((((hHeld.1.out.2.setCell (by simp) _).setCell (by simp) _).setCell (by simp) _).setCell (by simp) _)
                clear hK K
                try simp only [zA, zB, zC, Act.put, zD, zE, zF]
                refine wpAnyH_ready (rs := [3]) (by kernel_rfl) (by simp) ?_
                refine AllReadyH.cons rfl (fun K hK => ?_) AllReadyH.nil
                try simp only [zA, zB, zC]
                go_simp
                refine hK.out _ _ ?_ (fun hHeld => ?_)
                · exact outV_keep (hHeld.1.out.1.same.2) (hHeld.1.out.2.setCell (by simp) _)
                clear hK K
                try simp only [Act.put, zD, zE, zF]
                refine wpAnyH_done (by kernel_rfl) ?_ _
                have HEnd : Hid _ := hid hHeld.1.out
                clear hHeld g0 g1 g2 g3 g4 q0 q1 q2 q3 q4
                refine onlyEnd_then (Q := fun _ _ _ => False) ?_
                gi_wp2
                obtain ⟨W3, hW3⟩ : ∃ W3, W3 = (((((V'.setCell ⟨w.heap.size + 1, 0, none⟩ (.string nm.1)).setCell ⟨w.heap.size + 1, 1, none⟩ (.int .i64 (q : Int))).setCell ⟨w.heap.size + 1, 2, none⟩ (.int .i64 (r : Int))).setCell ⟨w.heap.size + 1, 3, none⟩ (.string (wordT tws N.nT x))).setCell ⟨w.heap.size + 2, 0, none⟩ (.bool true)).drew := ⟨_, rfl⟩
                rw [← hW3]
                have hO : OutV W3 (w.heap.size + 1) (w.heap.size + 2) (.string nm.1) (.int .i64 (q : Int)) (.int .i64 (r : Int)) (.string (wordT tws N.nT x)) (.bool true) := by rw [hW3]; exact HCB.out.same.1.same.2
                have hK3 : Keeps V' W3 [w.heap.size + 1, w.heap.size + 2] := by rw [hW3]; exact ((((((Keeps.refl V' _).setCell (by simp) _).setCell (by simp) _).setCell (by simp) _).setCell (by simp) _).setCell (by simp) _).drew
                clear hW3
                refine leaves_marks w.heap.size (fun w' => Keeps w w' [tb] ∧ TbV w' tb adT N.nT capT gN nN capN kb R3 E ∧ OutV w' (w.heap.size + 1) (w.heap.size + 2) (.string nm.1) (.int .i64 (q : Int)) (.int .i64 (r : Int)) (.string (wordT tws N.nT x)) (.bool true)) ?_ ?_ (D :: Ds) _ ⟨?_, ?_, hO⟩ ?_ ?_
                · rintro w' D' ⟨h1, h2, h3⟩ hD' hd'
                  have hg' := grownBy_putObj' w' D' (.deferred none)
                  have hk' : Keeps w' (w'.putObj D' (.deferred none)) [D'] := (Keeps.refl w' [D']).grown hg' (fun q e => .inl (by cases e; simp))
                  have hno : ∀ (q : Nat) (cs : Array Value) (e : Nat) (f : Nat × Nat), w'.heap[q]? = some (.cells cs e f) → q ∉ [D'] := fun q cs e f hq hm => by have := List.mem_singleton.1 hm; subst this; rw [hd'] at hq; cases hq
                  exact ⟨h1.grown hg' (fun q e => by cases e; exact .inr hD'), h2.keeps hk' (fun hm => by obtain ⟨cs, e, f, hx⟩ := h2.kind; exact hno _ _ _ _ hx hm), (hk'.block _ (lt_of_block h3.1) (hno _ _ _ _ h3.1)).trans h3.1, (hk'.block _ (lt_of_block h3.2) (hno _ _ _ _ h3.2)).trans h3.2⟩
                · rintro w' ⟨h1, h2, h3⟩
                  have c4 : w'.cell? ⟨w.heap.size + 2, 0, none⟩ = some (.bool true) := block_cell h3.2
                  refine ⟨_, results_cells (p := 2) (q := 3) (ty := 27) (ty2 := 4) rfl _ _ (w.heap.size + 1) (w.heap.size + 2) _ _ _ _ (.bool true) rfl h3.1 Tryz.underlying27 rfl (by kernel_rfl) rfl (by go_simp), R3, h2, h1, .inl ⟨n, q, r, x, nm, rfl, HNM.out, HX.out.1, by rw [← HNL.out]; exact hltr, HBt.out n nm r HNM.out (by rw [← HNL.out]; exact hltr) x (by rw [HSS.out]; exact HX6.out), HX.out.2, by rw [HSS.out]; exact (bits_lt HX6.out).2, fun m hm nm2 hm2 t ht => by rw [HX9.out m (by omega)]; exact HD.out m hm nm2 hm2 t ht⟩⟩
                · exact HXK.out.trans' hK3 (fun q hq => by simp only [List.mem_cons, List.not_mem_nil, or_false] at hq ⊢; omega)
                · exact HXV.out.keeps hK3 (by simp only [List.mem_cons, List.not_mem_nil, or_false]; omega)
                · exact (HXM.out.keeps hK3 (fun q hq => by simp only [List.mem_cons, List.not_mem_nil, or_false] at hq; rcases hq with rfl | rfl; exact ⟨_, _, _, HCB.out.1⟩; exact ⟨_, _, _, HCB.out.2⟩)).1
                · exact (HXM.out.keeps hK3 (fun q hq => by simp only [List.mem_cons, List.not_mem_nil, or_false] at hq; rcases hq with rfl | rfl; exact ⟨_, _, _, HCB.out.1⟩; exact ⟨_, _, _, HCB.out.2⟩)).2
              case done =>
                rintro D ys V' hD hys ⟨R3, h1, h2, h3, h4⟩ hd
                rw [hys, ← HSS.out] at h3
                have hrow' : ∀ t, t < 21 → RowI (spkP k pg n) (r + 1) (R3 n) t := fun t ht => mid_done ht (h3 t ht)
                have HE1 : Hid _ := hid h1
                have HE2 : Hid (Keeps wr V' [tb]) := hid (HKwr.out.trans h2)
                have HE3 : Hid _ := hid hrow'
                have HE4 : Hid _ := hid h4
                have HE5 : Hid (Marked w (D :: Ds) V') := hid (HMV2.out.cons (HMV2.out.keeps h2 (fun q hq => by have := List.mem_singleton.1 hq; subst this; exact HVV2.out.kind)) (by omega) hD hd)
                clear h1 h2 h3 h4 hrow' hd
                gi_wp2
                refine ⟨nL - (r + 1), by omega, ofArr #[undef, undef, undef, undef, undef, undef, undef, _, _, _, _, _, _, _, _, undef, undef, undef, _, _, _, _, _, _, _, _, _, _, _, _, _, _, _, _, _, _, undef, undef, undef, _] #[_, _, _, _, _, _, _, _, _, _, _, _, _, _, _, _, _, _, _, _, _, _, _, _, _, _, _, _, _, _, _, _, _, _, _, _, _, _, _, _], D :: Ds, r + 1, R3, rfl, rfl, by omega, HE1.out, HE2.out, HE5.out, HE3.out, HE4.out⟩
              case body =>
                rintro l pre ⟨x, hx⟩ V' ⟨R3, h1, h2, h3, h4⟩ _
                simp only at hx ⊢
                obtain ⟨hx21, hxb⟩ := bits_lt hx
                have hx3 : (x : Int) < 21 := by omega
                have hmx : Tryz.prog.follows .mixedOrders = true := by kernel_rfl
                have hKr' : Keeps wr V' [tb] := HKwr.out.trans h2
                have hszV' := h2.size
                have c6 : V'.cell? ⟨W.heap.size + 1, 0, none⟩ = some (.pointer (some ⟨tb, 3 + n * 21, none⟩)) := block_cell ((hKr'.block _ hszw (by simp; omega)).trans HB56r.out.2)
                have cR := h1.row hn20 hx21
                have fR := h1.free (3 + n * 21 + x)
                have b8 := (h2.block V.heap.size (lt_of_block HB8V.out) (by simp; omega)).trans HB8V.out
                have c8 : V'.cell? ⟨V.heap.size, 0, none⟩ = some (.int .i64 (r : Int)) := block_cell b8
                have hl6 : W.heap.size + 1 < V'.heap.size := by omega
                have hl8V : V.heap.size < V'.heap.size := lt_of_block b8
                have HKV' : Hid (Keeps V2 V' [tb]) := hid h2
                have HTV' : Hid _ := hid h1
                have HMI : Hid _ := hid h3
                have HOt : Hid _ := hid h4
                have HXB : Hid (x ∈ bitsOf ss) := hid hx
                obtain ⟨z, hz⟩ : ∃ z, R3 n x = z := ⟨_, rfl⟩
                rw [hz] at cR
                have HZ : Hid (R3 n x = z) := hid hz
                clear h1 h2 h3 h4 hz hKr' b8 hxb
                by_cases hz1 : z = -1
                · subst hz1
                  gi_wp2
                  refine wpIn_region_round_last (S := fun w' => w'.cell? ⟨W.heap.size + 1, 0, none⟩ = some (.pointer (some ⟨tb, 3 + n * 21, none⟩)) ∧ w'.cell? ⟨V.heap.size, 0, none⟩ = some (.int .i64 (r : Int))) hmx (by kernel_rfl) (by rintro ⟨_, _, h⟩; exact h) (by kernel_rfl) ⟨c6, c8⟩ (fun hHeld => ?_)
                  simp only [cutLast, idle, lastOf]
                  refine tkA 0 ?vv29 rfl ?hy29 hHeld ?_
                  case hy29 => (intro w hSw; (try dsimp only at hSw); first | (go_simp; done) | (go_simp; with_reducible rfl))
                  try simp only [zA, zC, Act.put, zD, zE, zF]
                  refine tkA 1 ?vv6 rfl ?hy6 hHeld ?_
                  case hy6 => (intro w hSw; (try dsimp only at hSw); first | (go_simp; done) | (go_simp; with_reducible rfl))
                  try simp only [zA, zB, zC, Act.put, zD, zE, zF]
                  refine tkA 2 ?vv7 rfl ?hy7 hHeld ?_
                  case hy7 => (intro w hSw; (try dsimp only at hSw); first | (go_simp; done) | (go_simp; with_reducible rfl))
                  try simp only [zA, zB, zC, Act.put, zD, zE, zF]
                  refine tkA 3 ?vv8 rfl ?hy8 hHeld ?_
                  case hy8 => (intro w hSw; (try dsimp only at hSw); first | (go_simp; done) | (go_simp; with_reducible rfl))
                  try simp only [zA, zB, zC, Act.put, zD, zE, zF]
                  refine tkA 4 ?vv9 rfl ?hy9 hHeld ?_
                  case hy9 => (intro w hSw; (try dsimp only at hSw); first | (go_simp; done) | (go_simp; with_reducible rfl))
                  try simp only [zA, zB, zC, Act.put, zD, zE, zF]
                  refine tkA 5 ?vv25 rfl ?hy25 hHeld ?_
                  case hy25 => (intro w hSw; (try dsimp only at hSw); first | (go_simp; done) | (go_simp; with_reducible rfl))
                  try simp only [zA, zB, zC, Act.put]
                  refine wpAnyH_done (by kernel_rfl) ?_ _
                  clear hHeld
                  have HV4 : Hid _ := hid (HTV'.out.put hn20 hx21 (r : Int))
                  have hK4 : Keeps V' (V'.setCell ⟨tb, 3 + n * 21 + x, none⟩ (.int .i64 (r : Int))) [tb] := (Keeps.refl _ _).setCell (by simp) _
                  have HK4 : Hid _ := hid hK4
                  clear hK4
                  show wpList _ _ _ _ _ _
                  go_wp2
                  refine ⟨KeepsFrom.of_keeps (S := [tb]) HK4.out.drew (fun q h => by have := List.mem_singleton.1 h; omega), HK4.out.drew.below (by omega) (fun q h => by have := List.mem_singleton.1 h; omega), _, HV4.out.block rfl, HKV'.out.trans HK4.out.drew, ?_, ?_⟩
                  · intro t ht
                    have h5 := mid_step HMI.out hx21 (by rw [HSS.out]; exact (bits_lt HXB.out).2) HZ.out t ht
                    rw [List.map_append]
                    unfold updF
                    simp only [if_pos]
                    exact h5
                  · intro m hm
                    unfold updF
                    simp only [if_neg hm]
                    exact HOt.out m hm
                · have hne : (z == -1) = false := by simpa using hz1
                  have hszr := HKV'.out.size
                  have kwr : Keeps wr V' [tb] := HKwr.out.trans HKV'.out
                  have kww : Keeps w V' [tb] := HKw2.out.trans HKV'.out
                  have kWW : Keeps W V' [tb] := HKr.out.trans kwr
                  have cN : V'.cell? ⟨W.heap.size, 0, none⟩ = some (.string nm.1) := block_cell ((kwr.block _ (by omega) (by simp; omega)).trans HB56r.out.1)
                  have cB : V'.cell? ⟨w.heap.size, 0, none⟩ = some (.pointer (some ⟨tb, 0, none⟩)) := block_cell ((kWW.block _ hl0 (by simp; omega)).trans HBX.out.1)
                  have hcb := (kWW.block _ hl1 (by simp; omega)).trans HBX.out.2.1
                  have hfx := (kWW.block _ hsz (by simp; omega)).trans HBX.out.2.2
                  obtain ⟨cT0, cT1, _⟩ := HTV'.out.heads
                  have HPW : PGr V'.drew n₀ N tws pg adT capT gN capN := (H.out.gr.below (kww.below H.out.ln (fun q h => by have := List.mem_singleton.1 h; omega))).below ⟨rfl, rfl, rfl, Nat.le_refl _, fun _ _ => rfl⟩
                  have hxT : x ≤ N.nT := HBt.out n nm r HNM.out (by rw [← HNL.out]; exact hltr) x (by rw [HSS.out]; exact HXB.out)
                  have HCW := hid (word_any V'.drew n₀ N tws pg adT capT gN capN HPW (by show n₀ ≤ V'.heap.size; omega) x hxT)
                  rw [← HNN.out] at HCW
                  have HCF : Hid _ := hid (And.intro hcb hfx)
                  have hl0V' : w.heap.size < V'.heap.size := by omega
                  have hlWV' : W.heap.size < V'.heap.size := by omega
                  have htV' : tb < V'.heap.size := by omega
                  clear HPW hxT kwr kww kWW hcb hfx
                  gi_wp2
                  refine wpIn_region_round_last (S := fun w' => (w'.cell? ⟨W.heap.size, 0, none⟩ = some (.string nm.1) ∧ w'.cell? ⟨W.heap.size + 1, 0, none⟩ = some (.pointer (some ⟨tb, 3 + n * 21, none⟩)) ∧ w'.cell? ⟨tb, 3 + n * 21 + x, none⟩ = some (.int .i64 z) ∧ w'.cell? ⟨V.heap.size, 0, none⟩ = some (.int .i64 (r : Int)) ∧ w'.cell? ⟨w.heap.size, 0, none⟩ = some (.pointer (some ⟨tb, 0, none⟩)) ∧ w'.cell? ⟨tb, 0, none⟩ = some (.slice adT N.nT capT) ∧ w'.cell? ⟨tb, 1, none⟩ = some (.slice (some ⟨gN, 0, none⟩) nN capN)) ∧ Keeps V' w' []) hmx (by kernel_rfl) (by rintro ⟨_, _, h⟩; exact h) (by kernel_rfl) ⟨⟨cN, c6, cR, c8, cB, cT0, cT1⟩, (Keeps.refl _ _).drew⟩ (fun hHeld => ?_)
                  simp only [cutLast, idle, lastOf]
                  refine tkA 0 ?vv30 rfl ?hy30 hHeld ?_
                  case hy30 => (intro w hSw; (try dsimp only at hSw); first | (go_simp; done) | (go_simp; with_reducible rfl))
                  try simp only [zA, zC, Act.put, zD, zE, zF]
                  refine tkA 1 ?vv10 rfl ?hy10 hHeld ?_
                  case hy10 => (intro w hSw; (try dsimp only at hSw); first | (go_simp; done) | (go_simp; with_reducible rfl))
                  try simp only [zA, zB, zC, Act.put, zD, zE, zF]
                  refine tkA 2 ?vv11 rfl ?hy11 hHeld ?_
                  case hy11 => (intro w hSw; (try dsimp only at hSw); first | (go_simp; done) | (go_simp; with_reducible rfl))
                  try simp only [zA, zB, zC, Act.put, zD, zE, zF]
                  refine tkA 3 ?vv12 rfl ?hy12 hHeld ?_
                  case hy12 => (intro w hSw; (try dsimp only at hSw); first | (go_simp; done) | (go_simp; with_reducible rfl))
                  try simp only [zA, zB, zC, Act.put, zD, zE, zF]
                  refine tkA 4 ?vv13 rfl ?hy13 hHeld ?_
                  case hy13 => (intro w hSw; (try dsimp only at hSw); first | (go_simp; done) | (go_simp; with_reducible rfl))
                  try simp only [zA, zB, zC, Act.put, zD, zE, zF]
                  refine tkA 5 ?vv14 rfl ?hy14 hHeld ?_
                  case hy14 => (intro w hSw; (try dsimp only at hSw); first | (go_simp; done) | (go_simp; with_reducible rfl))
                  try simp only [zA, zB, zC, Act.put, zD, zE, zF]
                  refine tkA 6 ?vv15 rfl ?hy15 hHeld ?_
                  case hy15 => (intro w hSw; (try dsimp only at hSw); first | (go_simp; done) | (go_simp; with_reducible rfl))
                  try simp only [zA, zB, zC, Act.put, zD, zE, zF]
                  refine tkA 7 ?vv16 rfl ?hy16 hHeld ?_
                  case hy16 => (intro w hSw; (try dsimp only at hSw); first | (go_simp; done) | (go_simp; with_reducible rfl))
                  try simp only [zA, zB, zC, Act.put, zD, zE, zF]
                  refine tkA 8 ?vv17 rfl ?hy17 hHeld ?_
                  case hy17 => (intro w hSw; (try dsimp only at hSw); first | (go_simp; done) | (go_simp; with_reducible rfl))
                  try simp only [zA, zB, zC, Act.put, zD, zE, zF]
                  refine tkA 9 ?vv18 rfl ?hy18 hHeld ?_
                  case hy18 => (intro w hSw; (try dsimp only at hSw); first | (go_simp; done) | (go_simp; with_reducible rfl))
                  try simp only [zA, zB, zC, Act.put, zD, zE, zF]
                  refine tkA 10 ?vv19 rfl ?hy19 hHeld ?_
                  case hy19 => (intro w hSw; (try dsimp only at hSw); first | (go_simp; done) | (go_simp; with_reducible rfl))
                  try simp only [zA, zB, zC, Act.put, zD, zE, zF]
                  refine tkA 11 ?vv20 rfl ?hy20 hHeld ?_
                  case hy20 => (intro w hSw; (try dsimp only at hSw); first | (go_simp; done) | (go_simp; with_reducible rfl))
                  try simp only [zA, zB, zC, Act.put, zD, zE, zF]
                  refine tkA 12 ?vv21 rfl ?hy21 hHeld ?_
                  case hy21 => (intro w hSw; (try dsimp only at hSw); first | (go_simp; done) | (go_simp; with_reducible rfl))
                  try simp only [zA, zB, zC, Act.put, zD, zE, zF]
                  refine tkA 13 ?vv22 rfl ?hy22 hHeld ?_
                  case hy22 => (intro w hSw; (try dsimp only at hSw); first | (go_simp; done) | (go_simp; with_reducible rfl))
                  try simp only [zA, zB, zC, Act.put, zD, zE, zF]
                  refine wpAnyH_ready (rs := [14]) (by kernel_rfl) (by simp) ?_
                  refine AllReadyH.cons rfl (fun K hK => ?_) AllReadyH.nil
                  try simp only [zA, zB, zC]
                  go_simp; refine HCW.out.mono ?_; rintro e w6 ⟨rfl, hb6⟩; try dsimp only
                  refine hK.out _ _ ?_ (fun hHeld => ?_)
                  · exact ⟨⟨(hb6.cell (by exact hlWV')).trans hHeld.1.1, (hb6.cell (by exact hl6)).trans hHeld.1.2.1, (hb6.cell (by exact htV')).trans hHeld.1.2.2.1, (hb6.cell (by exact hl8V)).trans hHeld.1.2.2.2.1, (hb6.cell (by exact hl0V')).trans hHeld.1.2.2.2.2.1, (hb6.cell (by exact htV')).trans hHeld.1.2.2.2.2.2.1, (hb6.cell (by exact htV')).trans hHeld.1.2.2.2.2.2.2⟩, hHeld.2.trans (Keeps.of_below hb6 [])⟩
                  clear hK K
                  try simp only [zA, zB, zC, Act.put, zD, zE, zF]
                  refine tkA 15 ?vv23 rfl ?hy23 hHeld ?_
                  case hy23 => (intro w hSw; (try dsimp only at hSw); first | (go_simp; done) | (go_simp; with_reducible rfl))
                  try simp only [zA, zB, zC, Act.put, zD, zE, zF]
                  refine tkA 16 ?vv26 rfl ?hy26 hHeld ?_
                  case hy26 => (intro w hSw; (try dsimp only at hSw); first | (go_simp; done) | (go_simp; with_reducible rfl))
                  try simp only [zA, zB, zC, Act.put]
                  refine wpAnyH_done (by kernel_rfl) ?_ _
                  have HK6 : Hid _ := hid hHeld.2
                  have hs6 := hHeld.2.size
                  clear hHeld hb6 HCW
                  have hcb := (HK6.out.block _ (lt_of_block HCF.out.1) (by simp)).trans HCF.out.1
                  have hfx := (HK6.out.block _ (lt_of_block HCF.out.2) (by simp)).trans HCF.out.2
                  have g0 : w6.cell? ⟨w.heap.size + 1, 0, none⟩ = some (.string ⟨#[]⟩) := block_cell hcb
                  have g1 : w6.cell? ⟨w.heap.size + 1, 1, none⟩ = some (.int .i64 0) := block_cell hcb
                  have g2 : w6.cell? ⟨w.heap.size + 1, 2, none⟩ = some (.int .i64 0) := block_cell hcb
                  have g3 : w6.cell? ⟨w.heap.size + 1, 3, none⟩ = some (.string ⟨#[]⟩) := block_cell hcb
                  have g4 : w6.cell? ⟨w.heap.size + 2, 0, none⟩ = some (.bool false) := block_cell hfx
                  have q0 : w6.frozen? ⟨w.heap.size + 1, 0, none⟩ = false := block_free hcb
                  have q1 : w6.frozen? ⟨w.heap.size + 1, 1, none⟩ = false := block_free hcb
                  have q2 : w6.frozen? ⟨w.heap.size + 1, 2, none⟩ = false := block_free hcb
                  have q3 : w6.frozen? ⟨w.heap.size + 1, 3, none⟩ = false := block_free hcb
                  have q4 : w6.frozen? ⟨w.heap.size + 2, 0, none⟩ = false := block_free hfx
                  have hl5 : w.heap.size + 1 < w6.heap.size := lt_of_block hcb
                  have hl7 : w.heap.size + 2 < w6.heap.size := lt_of_block hfx
                  have HC6 : Hid (OutV w6 (w.heap.size + 1) (w.heap.size + 2) (.string ⟨#[]⟩) (.int .i64 0) (.int .i64 0) (.string ⟨#[]⟩) (.bool false)) := hid ⟨hcb, hfx⟩
                  clear hcb hfx
                  show wpList _ _ _ _ _ _
                  go_wp2
                  gi_wp2
                  have hO : OutV (((((w6.setCell ⟨w.heap.size + 1, 0, none⟩ (.string nm.1)).setCell ⟨w.heap.size + 1, 1, none⟩ (.int .i64 z)).setCell ⟨w.heap.size + 1, 2, none⟩ (.int .i64 (r : Int))).setCell ⟨w.heap.size + 1, 3, none⟩ (.string (wordT tws N.nT x))).setCell ⟨w.heap.size + 2, 0, none⟩ (.bool true)) (w.heap.size + 1) (w.heap.size + 2) (.string nm.1) (.int .i64 z) (.int .i64 (r : Int)) (.string (wordT tws N.nT x)) (.bool true) := outV_set HC6.out _ _ _ _ _
                  have hK7 : Keeps w6 (((((w6.setCell ⟨w.heap.size + 1, 0, none⟩ (.string nm.1)).setCell ⟨w.heap.size + 1, 1, none⟩ (.int .i64 z)).setCell ⟨w.heap.size + 1, 2, none⟩ (.int .i64 (r : Int))).setCell ⟨w.heap.size + 1, 3, none⟩ (.string (wordT tws N.nT x))).setCell ⟨w.heap.size + 2, 0, none⟩ (.bool true)) [w.heap.size + 1, w.heap.size + 2] := (((((Keeps.refl w6 _).setCell (by simp) _).setCell (by simp) _).setCell (by simp) _).setCell (by simp) _).setCell (by simp) _
                  have hK8 := (HK6.out.mono (T := [w.heap.size + 1, w.heap.size + 2]) (fun q hq => by cases hq)).trans hK7
                  refine ⟨KeepsFrom.of_keeps (S := [w.heap.size + 1, w.heap.size + 2]) hK8 (fun q h => by simp only [List.mem_cons, List.not_mem_nil, or_false] at h; omega), rfl, R3, pre.map (·.1), x, HTV'.out.keeps hK8 (by simp only [List.mem_cons, List.not_mem_nil, or_false]; omega), (HKV'.out.mono (fun q hq => by simp only [List.mem_cons, List.not_mem_nil, or_false] at hq ⊢; exact .inl hq)).trans (hK8.mono (fun q hq => List.mem_cons_of_mem _ hq)), ?_, hO.2, by simp, HXB.out, HMI.out, by rw [HZ.out]; exact hz1, HOt.out⟩
                  rw [HZ.out]
                  exact hO.1
            · have hrn : r = nL := by omega
              subst hrn
              have hKWV : Keeps W V [tb] := HKr.out.trans HVk.out
              have HE0 : Hid _ := hid ((hKWV.block _ hl0 (by simp; omega)).trans HBX.out.1)
              have HE1 : Hid _ := hid ((hKWV.block _ hl1 (by simp; omega)).trans HBX.out.2.1)
              have HE2 : Hid _ := hid ((hKWV.block _ hsz (by simp; omega)).trans HBX.out.2.2)
              have HE3 : Hid (Keeps w V [tb]) := hid (HW.out.trans hKWV)
              have HE4 : Hid (∀ m, m < n + 1 → ∀ nm' : Nm, pg[m]? = some nm' → ∀ t, t < 21 → RowI (spkP k pg m) nm'.2.length (R2 m) t) := hid (fun m hm nm' hm' t ht => by
                by_cases e : m = n
                · subst e
                  rw [HNM.out] at hm'
                  injection hm' with hm'
                  subst hm'
                  rw [← HNL.out]
                  exact HRowV.out t ht
                · rw [HOth.out m e]
                  exact HD.out m (by omega) nm' hm' t ht)
              clear hKWV
              gi_wp2
              refine ⟨nN - (n + 1), by omega, ofArr #[undef, undef, undef, undef, _, _, _, _, _, _, _, _, _, _, _, undef, undef, undef, _, _, _, _, _, _, _, _, _, _, _, _, _, _, _, _, _, _, _, _, _, _] #[_, _, _, _, _, _, _, _, _, _, _, _, _, _, _, _, _, _, _, _, _, _, _, _, _, _, _, _, _, _, _, _, _, _, _, _, _, _, _, _], Ds, n + 1, R2, rfl, rfl, by omega, HVV.out, HE3.out, HE0.out, HE1.out, HE2.out, HMV.out, HE4.out⟩
    · have hnn : n = nN := by omega
      subst hnn
      have HVW : Hid _ := hid hvW
      have HWK : Hid (Keeps w W [tb]) := hid hW
      have HM : Hid (Marked w Ds W) := hid hM
      have HD : Hid _ := hid hdone
      have hcb := bx1
      have hfbx := bx2
      clear hvW hW hM hdone bx0 bx1 bx2
      have g0 : W.cell? ⟨w.heap.size + 1, 0, none⟩ = some (.string ⟨#[]⟩) := block_cell hcb
      have g1 : W.cell? ⟨w.heap.size + 1, 1, none⟩ = some (.int .i64 0) := block_cell hcb
      have g2 : W.cell? ⟨w.heap.size + 1, 2, none⟩ = some (.int .i64 0) := block_cell hcb
      have g3 : W.cell? ⟨w.heap.size + 1, 3, none⟩ = some (.string ⟨#[]⟩) := block_cell hcb
      have g4 : W.cell? ⟨w.heap.size + 2, 0, none⟩ = some (.bool false) := block_cell hfbx
      have q0 : W.frozen? ⟨w.heap.size + 1, 0, none⟩ = false := block_free hcb
      have q1 : W.frozen? ⟨w.heap.size + 1, 1, none⟩ = false := block_free hcb
      have q2 : W.frozen? ⟨w.heap.size + 1, 2, none⟩ = false := block_free hcb
      have q3 : W.frozen? ⟨w.heap.size + 1, 3, none⟩ = false := block_free hcb
      have q4 : W.frozen? ⟨w.heap.size + 2, 0, none⟩ = false := block_free hfbx
      have hl5 : w.heap.size + 1 < W.heap.size := lt_of_block hcb
      have hl6 : w.heap.size + 2 < W.heap.size := lt_of_block hfbx
      have HCB : Hid (OutV W (w.heap.size + 1) (w.heap.size + 2) (.string ⟨#[]⟩) (.int .i64 0) (.int .i64 0) (.string ⟨#[]⟩) (.bool false)) := hid (And.intro hcb hfbx)
      clear hcb hfbx
      gi_wp2
      refine wpIn_end ((wpIn_wide (n := 4)).2 ?_)
      refine wp_region_held_drew (S := fun w' => Hid (OutV w' (w.heap.size + 1) (w.heap.size + 2) (.string ⟨#[]⟩) (.int .i64 0) (.int .i64 0) (.string ⟨#[]⟩) (.bool false) ∧ Keeps W w' [w.heap.size + 1, w.heap.size + 2]) ∧ (w'.cell? ⟨w.heap.size + 1, 0, none⟩ = some (.string ⟨#[]⟩) ∧ w'.cell? ⟨w.heap.size + 1, 1, none⟩ = some (.int .i64 0) ∧ w'.cell? ⟨w.heap.size + 1, 2, none⟩ = some (.int .i64 0) ∧ w'.cell? ⟨w.heap.size + 1, 3, none⟩ = some (.string ⟨#[]⟩) ∧ w'.cell? ⟨w.heap.size + 2, 0, none⟩ = some (.bool false))) (by kernel_rfl) ⟨hid ⟨HCB.out, (Keeps.refl _ _).drew⟩, g0, g1, g2, g3, g4⟩ (fun hHeld => ?_)
      refine tkA 0 ?vv31 rfl ?hy31 hHeld ?_
      case hy31 => (intro w hSw; (try dsimp only at hSw); first | (go_simp; done) | (go_simp; with_reducible rfl))
      try simp only [zA, zC, Act.put, zD, zE, zF]
      refine tkA 1 ?vv24 rfl ?hy24 hHeld ?_
      case hy24 => (intro w hSw; (try dsimp only at hSw); first | (go_simp; done) | (go_simp; with_reducible rfl))
      try simp only [zA, zB, zC, Act.put, zD, zE, zF]
      refine wpAnyH_ready (rs := [2]) (by kernel_rfl) (by simp) ?_
      refine AllReadyH.cons rfl (fun K hK => ?_) AllReadyH.nil
      try simp only [zA, zB, zC]
      go_simp
      refine hK.out _ _ ?_ (fun hHeld => ?_)
      · exact outV_keep (hHeld.1.out.1.same.1) ((((hHeld.1.out.2.setCell (by simp) _).setCell (by simp) _).setCell (by simp) _).setCell (by simp) _)
      clear hK K
      try simp only [zA, zB, zC, Act.put, zD, zE, zF]
      refine wpAnyH_ready (rs := [3]) (by kernel_rfl) (by simp) ?_
      refine AllReadyH.cons rfl (fun K hK => ?_) AllReadyH.nil
      try simp only [zA, zB, zC]
      go_simp
      refine hK.out _ _ ?_ (fun hHeld => ?_)
      · exact outV_keep (hHeld.1.out.1.same.2) (hHeld.1.out.2.setCell (by simp) _)
      clear hK K
      try simp only [Act.put, zD, zE, zF]
      refine wpAnyH_done (by kernel_rfl) ?_ _
      have HEnd : Hid _ := hid hHeld.1.out
      clear hHeld g0 g1 g2 g3 g4 q0 q1 q2 q3 q4
      refine onlyEnd_then (Q := fun _ _ _ => False) ?_
      gi_wp2
      obtain ⟨W3, hW3⟩ : ∃ W3, W3 = (((((W.setCell ⟨w.heap.size + 1, 0, none⟩ (.string ⟨#[]⟩)).setCell ⟨w.heap.size + 1, 1, none⟩ (.int .i64 0)).setCell ⟨w.heap.size + 1, 2, none⟩ (.int .i64 0)).setCell ⟨w.heap.size + 1, 3, none⟩ (.string ⟨#[]⟩)).setCell ⟨w.heap.size + 2, 0, none⟩ (.bool false)).drew := ⟨_, rfl⟩
      rw [← hW3]
      have hO : OutV W3 (w.heap.size + 1) (w.heap.size + 2) (.string ⟨#[]⟩) (.int .i64 0) (.int .i64 0) (.string ⟨#[]⟩) (.bool false) := by rw [hW3]; exact HCB.out.same.1.same.2
      have hK3 : Keeps W W3 [w.heap.size + 1, w.heap.size + 2] := by rw [hW3]; exact ((((((Keeps.refl W _).setCell (by simp) _).setCell (by simp) _).setCell (by simp) _).setCell (by simp) _).setCell (by simp) _).drew
      clear hW3
      refine leaves_marks w.heap.size (fun w' => Keeps w w' [tb] ∧ TbV w' tb adT N.nT capT gN n capN kb R E ∧ OutV w' (w.heap.size + 1) (w.heap.size + 2) (.string ⟨#[]⟩) (.int .i64 0) (.int .i64 0) (.string ⟨#[]⟩) (.bool false)) ?_ ?_ (Ds) _ ⟨?_, ?_, hO⟩ ?_ ?_
      · rintro w' D' ⟨h1, h2, h3⟩ hD' hd'
        have hg' := grownBy_putObj' w' D' (.deferred none)
        have hk' : Keeps w' (w'.putObj D' (.deferred none)) [D'] := (Keeps.refl w' [D']).grown hg' (fun q e => .inl (by cases e; simp))
        have hno : ∀ (q : Nat) (cs : Array Value) (e : Nat) (f : Nat × Nat), w'.heap[q]? = some (.cells cs e f) → q ∉ [D'] := fun q cs e f hq hm => by have := List.mem_singleton.1 hm; subst this; rw [hd'] at hq; cases hq
        exact ⟨h1.grown hg' (fun q e => by cases e; exact .inr hD'), h2.keeps hk' (fun hm => by obtain ⟨cs, e, f, hx⟩ := h2.kind; exact hno _ _ _ _ hx hm), (hk'.block _ (lt_of_block h3.1) (hno _ _ _ _ h3.1)).trans h3.1, (hk'.block _ (lt_of_block h3.2) (hno _ _ _ _ h3.2)).trans h3.2⟩
      · rintro w' ⟨h1, h2, h3⟩
        have c4 : w'.cell? ⟨w.heap.size + 2, 0, none⟩ = some (.bool false) := block_cell h3.2
        refine ⟨_, results_cells (p := 2) (q := 3) (ty := 27) (ty2 := 4) rfl _ _ (w.heap.size + 1) (w.heap.size + 2) _ _ _ _ (.bool false) rfl h3.1 Tryz.underlying27 rfl (by kernel_rfl) rfl (by go_simp), R, h2, h1, .inr ⟨rfl, fun m nm2 hm2 t ht => HD.out m (by rw [HNN.out, ← H.out.gr.pgl]; exact (List.getElem?_eq_some_iff.1 hm2).1) nm2 hm2 t ht⟩⟩
      · exact HWK.out.trans' hK3 (fun q hq => by simp only [List.mem_cons, List.not_mem_nil, or_false] at hq ⊢; omega)
      · exact HVW.out.keeps hK3 (by simp only [List.mem_cons, List.not_mem_nil, or_false]; omega)
      · exact (HM.out.keeps hK3 (fun q hq => by simp only [List.mem_cons, List.not_mem_nil, or_false] at hq; rcases hq with rfl | rfl; exact ⟨_, _, _, HCB.out.1⟩; exact ⟨_, _, _, HCB.out.2⟩)).1
      · exact (HM.out.keeps hK3 (fun q hq => by simp only [List.mem_cons, List.not_mem_nil, or_false] at hq; rcases hq with rfl | rfl; exact ⟨_, _, _, HCB.out.1⟩; exact ⟨_, _, _, HCB.out.2⟩)).2

end Go.Proofs.YtjjggdcnpndgjaaGreatDoor
