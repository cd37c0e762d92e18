/- What settle leans on: Rules, slices.Clone and slices.Equal of the facts. -/
import Derived.Test.YtjjggdcnpndgjaaGreatDoorJPiter
import Derived.Laws.StructEq
import Derived.Deep.QuietTactic
import Derived.BigQuiet
import Derived.Lib.SliceRun
namespace Go.Proofs.YtjjggdcnpndgjaaGreatDoor
open Go.RowKit Go.Shelf

theorem rules_in (F : Fence) (n : Nat) (hF : F.fn 130) (hro : F.round = none) (adT : Option Addr) (nT capT gN nN capN : Nat) (w : World) :
    CallsIn F n Tryz.prog 130 #[.agg #[.slice adT nT capT, .slice (some ⟨gN, 0, none⟩) nN capN]] w fun e w' => e = .returned (.func (.func 183) #[] #[.pointer (some ⟨w.heap.size, 0, none⟩)]) ∧
      w' = w.alloc (.cells #[.slice adT nT capT, .slice (some ⟨gN, 0, none⟩) nN capN] 135) := by
  refine callsIn_of_wp Tryz.func130 rfl hF ?_ hro
  simp only [Tryz.ntmps130, List.size_toArray, List.length_cons, List.length_nil, Nat.reduceAdd, Nat.reduceSub, Array.replicate_succ, Array.replicate_zero, List.push_toArray, List.append_toArray, List.nil_append, List.cons_append]
  gi_wp2
  go_ret
  exact ⟨rfl, rfl⟩

theorem rules_stops (F : Fence) (n : Nat) (hF : F.fn 183) (hro : F.round = none) (hn : 1 ≤ n) (Bn n₀ : Nat) (N : NG) (tws : List ByteArray) (pg : List Nm) (adT : Option Addr) (capT gN capN : Nat) (Wb w : World)
    (hP : PGr Wb n₀ N tws pg adT capT gN capN) (hbW : Below n₀ Wb w) (hn₀ : n₀ ≤ Wb.heap.size) (hB : Bn < w.heap.size) (hBn : w.cell? ⟨Bn, 1, none⟩ = some (.slice (some ⟨gN, 0, none⟩) N.nN capN)) :
    SeqStopsK F n Tryz.prog 183 #[.pointer (some ⟨Bn, 0, none⟩)] (encR (N := N) (Wb := Wb) (n₀ := n₀)) (Below n₀) (fun ys => ys.map (fun x => x.1.1) = N.rules) (fun _ => True) N.rules.length w := fun l J Jx W hW hJ _ hY h0 => by
  have hb : Below n₀ Wb W := hbW.trans (hW.mono (Nat.le_trans hn₀ hbW.size))
  refine (rules1_in F n hF hro hn l Bn n₀ N tws pg adT capT gN capN Wb hP J Jx W hJ hb hn₀ hY ((hW.cell (p := ⟨Bn, 1, none⟩) hB).trans hBn) h0).mono ?_
  rintro e W' ⟨h1, h2⟩
  exact ⟨h1, h2⟩

theorem Tryz.info216 : (Tryz.prog.info? 216).map (fun i => (i.zero, i.size, i.bytes)) = some (some (.agg #[.int .i64 0, .bool false, .int .u32 0, .int .u32 0]), 4, 24) := by kernel_rfl

theorem faCells_len (k : List Fa) : (faCells k).length = k.length * 4 := by
  unfold faCells
  induction k with
  | nil => rfl
  | cons a r ih => rw [List.flatMap_cons, List.length_append, ih]; simp; omega

theorem faCells_one {k : List Fa} {u : Value} (h : u ∈ faCells k) : u.oneCell' = true := by
  unfold faCells at h
  rw [List.mem_flatMap] at h
  obtain ⟨a, _, h⟩ := h
  simp at h
  rcases h with rfl | rfl | rfl | rfl <;> rfl

set_option maxHeartbeats 1000000 in
set_option maxRecDepth 100000 in
theorem clone_any (w : World) (kb n : Nat) (k : List Fa) (hK : KnV w kb n k) (hn : n ≤ 20) (h0 : 0 < n) :
    Calls Tryz.prog 204 #[.slice (some ⟨kb, 0, none⟩) n n] w fun e w' => ∃ g cap, e = .returned (.slice (some ⟨g, 0, none⟩) n cap) ∧ w.heap.size ≤ g ∧ n ≤ cap ∧ (∀ j, j < n * 4 → w'.cell? ⟨g, j, none⟩ = (faCells k)[j]?) ∧ g < w'.heap.size ∧ Below w.heap.size w w' := by
  obtain ⟨i0, hi, hz0, hz1, hz2⟩ := info_parts Tryz.info216
  have qT : ∀ (w : World) (a : Option Addr) (n c n' c' : Nat), (binOp .eql 136 (.slice a n c) (.slice none n' c')).run Tryz.prog w = .ok (.bool a.isNone) w := fun w a n c n' c' => Lib.run_eql_slice_nil w _ _ a n c n' c' Tryz.underlying136
  have HK : Hid (KnV w kb n k) := hid hK
  clear hK
  go_enter Tryz.func204, Tryz.ntmps204
  have hkl := HK.out.lt
  have hown0 : (w.alloc (.cells #[] 216)).ownsRow w.heap.size 216 4 (.slice (some ⟨w.heap.size, 0, none⟩) 0 0) 0 [] := World.ownsRow_made w #[] 0 (Nat.le_refl _) (by unfold maxLen; omega) rfl
  have hnews : ∀ (j : Nat) (u : Value), (faCells k)[j]? = some u → (w.alloc (.cells #[] 216)).cell? ((⟨kb, 0, none⟩ : Addr).add j) = some u := fun j u hu => by
    have hj := (List.getElem?_eq_some_iff.1 hu).1
    rw [faCells_len, HK.out.1] at hj
    have h1 := HK.out.2.cellAt j hj
    rw [hu] at h1
    have h2 : (⟨kb, 0, none⟩ : Addr).add j = ⟨kb, j, none⟩ := by simp [Addr.add]; exact fun e => e.symm
    rw [h2]
    exact (((Below.refl w.heap.size w).alloc (Nat.le_refl _) _).cell (by exact hkl)).trans h1
  have HNews : Hid _ := hid hnews
  have HOwn0 : Hid _ := hid hown0
  clear hnews hown0
  go_wp2_with (first
    | (at_builtin; refine wpList_append_own _ rfl _ _ 136 rfl w.heap.size 216 i0 (.agg #[.int .i64 0, .bool false, .int .u32 0, .int .u32 0]) 4 24 Tryz.underlying136 hi hz0 hz1 hz2 rfl (by decide) _ _ _ rfl HOwn0.out ⟨kb, 0, none⟩ n n (faCells k) rfl (by rw [faCells_len, HK.out.1]) HNews.out (fun u hu => faCells_one hu) (by unfold maxLen; omega) (by omega) (by simp) ?_; intro v' w1 hown' hgrow _))
  rw [Nat.zero_add] at hown'
  obtain ⟨g, cap, hv, hg1, hg2, hg3⟩ := owned_shape hown' h0
  subst hv
  have hcells : ∀ j, j < n * 4 → w1.cell? ⟨g, j, none⟩ = (faCells k)[j]? := fun j hj => hown'.cellAt j hj
  have HC : Hid _ := hid hcells
  have HB : Hid (Below w.heap.size w w1) := hid (((Below.refl w.heap.size w).alloc (Nat.le_refl _) _).grown hgrow (by simp) (fun q hq => (HOwn0.out.lt q hq).1))
  clear hcells hown' hgrow
  go_wp2
  go_ret
  exact ⟨g, cap, rfl, hg1, hg3, HC.out, hg2, HB.out⟩

theorem neq_fact (a b : Int) (c d : Bool) (e f g h : Int) (w : World) : (binOp .neq 216 (.agg #[.int .i64 a, .bool c, .int .u32 e, .int .u32 g]) (.agg #[.int .i64 b, .bool d, .int .u32 f, .int .u32 h])).run Tryz.prog w = .ok (.bool (!(a == b && (c == d && (e == f && g == h))))) w := by
  have hS : Tryz.prog.underlying 216 = some (.struct (Tryz.prog.fieldsOf 216)) := by kernel_rfl
  have hp : Tryz.prog.stoodInHeld 216 = false := by kernel_rfl
  have u3 := Tryz.underlying3
  have u4 := Tryz.underlying4
  have u5 := Tryz.underlying214
  have a3 := Tryz.isAgg3
  have z3 := Tryz.sizeOf3
  have a4 := Tryz.isAgg4
  have z4 := Tryz.sizeOf4
  have a5 := Tryz.isAgg214
  have z5 := Tryz.sizeOf214
  rw [run_neq_struct, show (10000 : Nat) = 9999 + 1 from rfl, run_equalIn_agg w 9999 216 _ _ hS hp]
  simp only [Program.fieldsOf, Tryz.underlying216]
  go_simp
  by_cases h1 : a = b <;> by_cases h2 : c = d <;> by_cases h3 : e = f <;> by_cases h4 : g = h <;> simp [h1, h2, h3, h4]

theorem fa_cells {k : List Fa} {j : Nat} {a : Fa} (ha : k[j]? = some a) : (faCells k)[j * 4]? = some (.int .i64 a.least) ∧ (faCells k)[j * 4 + 1]? = some (.bool a.reached) ∧ (faCells k)[j * 4 + 2]? = some (.int .u32 a.first) ∧ (faCells k)[j * 4 + 3]? = some (.int .u32 a.follow) := by
  have h4 := fun j' hj => flat4 (fun a : Fa => [Value.int .i64 a.least, .bool a.reached, .int .u32 a.first, .int .u32 a.follow]) (fun _ => rfl) k j a j' ha hj
  exact ⟨h4 0 (by omega), h4 1 (by omega), h4 2 (by omega), h4 3 (by omega)⟩

set_option maxHeartbeats 1000000 in
set_option maxRecDepth 100000 in
theorem equal_any (w : World) (g1 g2 n c1 c2 : Nat) (k1 k2 : List Fa) (h1 : k1.length = n) (h2 : k2.length = n) (hn : n ≤ 20) (hk1 : ∀ j, j < n * 4 → w.cell? ⟨g1, j, none⟩ = (faCells k1)[j]?) (hk2 : ∀ j, j < n * 4 → w.cell? ⟨g2, j, none⟩ = (faCells k2)[j]?) :
    Calls Tryz.prog 205 #[.slice (some ⟨g1, 0, none⟩) n c1, .slice (some ⟨g2, 0, none⟩) n c2] w fun e w' => e = .returned (.bool (decide (k1 = k2))) ∧ ∃ q, w' = w.drewN q := by
  have HK1 : Hid _ := hid hk1
  have HK2 : Hid _ := hid hk2
  have HL : Hid (k1.length = n ∧ k2.length = n) := hid ⟨h1, h2⟩
  clear hk1 hk2 h1 h2
  have hneq := fun (a b : Int) (c d : Bool) (e f g h : Int) (w : World) => neq_fact a b c d e f g h w
  go_enter Tryz.func205, Tryz.ntmps205
  go_wp2
  go_loopw [13] (fun i wr => ∃ j q : Nat, j ≤ n ∧ i = .int .i64 j ∧ wr = w.drewN q ∧ Hid (∀ m, m < j → k1[m]? = k2[m]?)) (fun i _ => n - (intOf i).toNat)
  case atStart => exact ⟨0, 0, Nat.zero_le _, rfl, rfl, fun j hj => by omega⟩
  case round =>
    obtain ⟨j, q, hj, rfl, rfl, hno⟩ := hrel
    by_cases hlt : j < n
    · obtain ⟨a, ha⟩ : ∃ a, k1[j]? = some a := ⟨_, List.getElem?_eq_getElem (by rw [HL.out.1]; exact hlt)⟩
      obtain ⟨b, hb⟩ : ∃ b, k2[j]? = some b := ⟨_, List.getElem?_eq_getElem (by rw [HL.out.2]; exact hlt)⟩
      obtain ⟨a0, a1, a2, a3⟩ := fa_cells ha
      obtain ⟨b0, b1, b2, b3⟩ := fa_cells hb
      have p0 := (HK1.out (j * 4) (by omega)).trans a0
      have p1 := (HK1.out (j * 4 + 1) (by omega)).trans a1
      have p2 := (HK1.out (j * 4 + 2) (by omega)).trans a2
      have p3 := (HK1.out (j * 4 + 3) (by omega)).trans a3
      have r0 := (HK2.out (j * 4) (by omega)).trans b0
      have r1 := (HK2.out (j * 4 + 1) (by omega)).trans b1
      have r2 := (HK2.out (j * 4 + 2) (by omega)).trans b2
      have r3 := (HK2.out (j * 4 + 3) (by omega)).trans b3
      have HA : Hid (k1[j]? = some a ∧ k2[j]? = some b) := hid ⟨ha, hb⟩
      clear a0 a1 a2 a3 b0 b1 b2 b3 ha hb
      cases he : ((a.least : Int) == (b.least : Int) && (a.reached == b.reached && ((a.first : Int) == (b.first : Int) && (a.follow : Int) == (b.follow : Int))))
      · have HE : Hid (decide (k1 = k2) = false) := hid (decide_eq_false fun e => by
          have h3 := HA.out.1
          rw [e, HA.out.2] at h3
          injection h3 with h3
          rw [h3] at he
          simp at he)
        go_wp2
        go_quiet (fail)
        go_wp2
        go_ret
        exact ⟨ret_bool HE.out, _, by first | rfl | exact World.drewN_drewN ..⟩
      · have HE : Hid (∀ m, m < j + 1 → k1[m]? = k2[m]?) := hid (upto_next hno.out (by
          rw [HA.out.1, HA.out.2]
          simp only [Bool.and_eq_true, beq_iff_eq] at he
          obtain ⟨e1, e2, e3, e4⟩ := he
          congr 1
          cases a; cases b
          simp only at e1 e2 e3 e4
          simp only [Fa.mk.injEq]
          exact ⟨by omega, e2, by omega, by omega⟩))
        go_wp2
        go_quiet (fail)
        go_wp2
        go_roundw
        case rel => exact ⟨j + 1, _, by omega, by go_num, by first | rfl | exact World.drewN_drewN .., HE⟩
        case measure => simp [intOf]; omega
    · have HE : Hid (decide (k1 = k2) = true) := hid (decide_eq_true (by
        apply List.ext_getElem?
        intro m
        by_cases hm : m < n
        · exact hno.out m (by omega)
        · rw [List.getElem?_eq_none (by rw [HL.out.1]; omega), List.getElem?_eq_none (by rw [HL.out.2]; omega)]))
      go_wp2
      go_ret
      exact ⟨ret_bool HE.out, _, rfl⟩

end Go.Proofs.YtjjggdcnpndgjaaGreatDoor
