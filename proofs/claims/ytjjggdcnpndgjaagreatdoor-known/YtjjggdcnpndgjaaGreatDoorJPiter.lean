/- (Grammar).Rules: the iterator over all rules, each with its name's number. -/
import Derived.Test.YtjjggdcnpndgjaaGreatDoorJPg
namespace Go.Proofs.YtjjggdcnpndgjaaGreatDoor
open Go.RowKit Go.Shelf

attribute [local go_sem] Oper.semAt_some

/-- What the iterator hands over: a rule of the grammar, and its parts as a slice. -/
abbrev RI (N : NG) (Wb : World) (n₀ : Nat) := { x : (Nat × List Pt) × Value // x.1 ∈ N.rules ∧ PartsV Wb n₀ x.2 x.1.2 }

def encR {N : NG} {Wb : World} {n₀ : Nat} (x : RI N Wb n₀) : Array Value := #[.int .i64 (x.1.1.1 : Int), x.1.2]

/-- The rules of the first k names. -/
def rulesTo (pg : List Nm) (k : Nat) : List (Nat × List Pt) := (pg.zipIdx.take k).flatMap fun x => x.1.2.map fun ps => (x.2, ps)

theorem rulesTo_succ {pg : List Nm} {k : Nat} {nm : Nm} (h : pg[k]? = some nm) : rulesTo pg (k + 1) = rulesTo pg k ++ nm.2.map fun ps => (k, ps) := by
  have hk := (List.getElem?_eq_some_iff.1 h).1
  have e : pg.zipIdx[k]? = some (nm, k) := by rw [List.getElem?_zipIdx, h]; simp
  unfold rulesTo
  rw [List.take_succ_eq_append_getElem (by simpa using hk), List.flatMap_append]
  rw [List.getElem?_eq_getElem (by simpa using hk)] at e
  injection e with e
  rw [e]
  simp

theorem rulesTo_end (pg : List Nm) {k : Nat} (h : pg.length ≤ k) : rulesTo pg k = pg.zipIdx.flatMap fun x => x.1.2.map fun ps => (x.2, ps) := by
  unfold rulesTo; rw [List.take_of_length_le (by simpa using h)]

theorem rulesTo_prefix (pg : List Nm) {k : Nat} {nm : Nm} (h : pg[k]? = some nm) (r : Nat) : ∃ rest, (pg.zipIdx.flatMap fun x => x.1.2.map fun ps => (x.2, ps)) = (rulesTo pg k ++ (nm.2.take r).map fun ps => (k, ps)) ++ ((nm.2.drop r).map fun ps => (k, ps)) ++ rest := by
  have hk := (List.getElem?_eq_some_iff.1 h).1
  have e : pg.zipIdx[k]? = some (nm, k) := by rw [List.getElem?_zipIdx, h]; simp
  obtain ⟨hk2, e2⟩ := List.getElem?_eq_some_iff.1 e
  refine ⟨(pg.zipIdx.drop (k + 1)).flatMap fun x => x.1.2.map fun ps => (x.2, ps), ?_⟩
  conv => lhs; rw [← List.take_append_drop k pg.zipIdx, List.drop_eq_getElem_cons hk2, e2]
  rw [List.flatMap_append, List.flatMap_cons]
  have e3 : nm.2.map (fun ps => (k, ps)) = (nm.2.take r).map (fun ps => (k, ps)) ++ (nm.2.drop r).map (fun ps => (k, ps)) := by rw [← List.map_append, List.take_append_drop]
  unfold rulesTo
  simp only [e3, List.append_assoc]

set_option maxRecDepth 100000 in
set_option maxHeartbeats 2000000 in
theorem rules1_in (F : Fence) (n : Nat) (hF : F.fn 183) (hro : F.round = none) (hn : 1 ≤ n) (l Bn n₀ : Nat) (N : NG) (tws : List ByteArray) (pg : List Nm) (adT : Option Addr) (capT gN capN : Nat) (Wb : World)
    (hP : PGr Wb n₀ N tws pg adT capT gN capN) (J Jx : List (RI N Wb n₀) → World → Prop) (W : World) (hJ : AbidesFrom W.heap.size J) (hbW : Below n₀ Wb W) (hn₀ : n₀ ≤ Wb.heap.size)
    (hY : ∀ pre x W, J pre W → pre.length < N.rules.length → YieldAt F (n - 1) Tryz.prog l (encR x) W fun e W' =>
      (e = .returned (.bool true) ∧ J (pre ++ [x]) W' ∧ Below n₀ W W') ∨ (e = .returned (.bool false) ∧ Jx (pre ++ [x]) W'))
    (hBn : W.cell? ⟨Bn, 1, none⟩ = some (.slice (some ⟨gN, 0, none⟩) N.nN capN)) (h0 : J [] W) :
    CallsIn F n Tryz.prog 183 #[.func (.yield l) #[] #[], .pointer (some ⟨Bn, 0, none⟩)] W fun e W' => (∃ v, e = .returned v) ∧
      ((∃ ys : List (RI N Wb n₀), ys.map (fun x => x.1.1) = N.rules ∧ J ys W') ∨ (∃ pre : List (RI N Wb n₀), True ∧ Jx pre W')) := by
  obtain ⟨nN, hn1⟩ : ∃ n, n = N.nN := ⟨_, rfl⟩
  have hnle := hP.leN
  have lN := hP.lN
  have hgN := hP.hgN
  rw [← hn1] at hBn hnle lN
  have H1 : Hid (nN = N.nN) := hid hn1
  have HP : Hid (PGr Wb n₀ N tws pg adT capT gN capN) := hid hP
  have HJ : Hid _ := hid hJ
  have HY : Hid _ := hid hY
  have HB0 : Hid (Below n₀ Wb W) := hid hbW
  have HJ0 : Hid (J [] W) := hid h0
  clear hn1 hP hJ hY hbW h0
  refine callsIn_of_wp Tryz.func183 rfl hF ?_ hro
  simp only [Tryz.ntmps183, List.size_toArray, List.length_cons, List.length_nil, Nat.reduceAdd, Nat.reduceSub, Array.replicate_succ, Array.replicate_zero, List.push_toArray, List.append_toArray, List.nil_append, List.cons_append]
  gi_wp2
  gi_loopw [10] (fun p wr => ∃ (i : Nat) (pre : List (RI N Wb n₀)), i ≤ nN ∧ p = .int .i64 i ∧ Hid (pre.map (fun x => x.1.1) = rulesTo pg i) ∧ Hid (J pre wr) ∧ Hid (Below n₀ Wb wr)) (fun p _ => nN - (intOf p).toNat)
  case atStart => exact ⟨0, [], Nat.zero_le _, rfl, hid rfl, HJ0, HB0⟩
  case round =>
    clear HJ0 HB0 hBn
    obtain ⟨i, pre, hi, rfl, hpre, hJs, hbr⟩ := hrel
    by_cases hlt : i < nN
    · obtain ⟨nm, hnm⟩ : ∃ nm, pg[i]? = some nm := ⟨_, List.getElem?_eq_getElem (by rw [HP.out.pgl, ← H1.out]; exact hlt)⟩
      obtain ⟨c0, v, c1, g, cap, hv, hg, hcap, hrs⟩ := HP.out.names i nm hnm
      subst hv
      have c0 := (hbr.out.cell (p := ⟨gN, i * 2, none⟩) hgN).trans c0
      have c1 := (hbr.out.cell (p := ⟨gN, i * 2 + 1, none⟩) hgN).trans c1
      obtain ⟨nR, hnR⟩ : ∃ m, m = nm.2.length := ⟨_, rfl⟩
      have HNR : Hid (nR = nm.2.length) := hid hnR
      have HNm : Hid (pg[i]? = some nm) := hid hnm
      have HRs : Hid _ := hid hrs
      have hnR60 : nR ≤ 60 := by
        obtain ⟨rest, hr⟩ := rulesTo_prefix pg hnm nR
        have h1 := congrArg List.length hr
        rw [← HP.out.rules, hnR, List.take_length] at h1
        have h2 := HP.out.leR
        simp only [List.length_append, List.length_map] at h1
        omega
      rw [← hnR] at c1 hcap
      have HJ1 : Hid (J pre (wr.alloc (.cells #[.string nm.1, .slice (some ⟨g, 0, none⟩) nR cap] 219))) := hid (HJ.out pre wr _ none hJs.out (World.grownBy_alloc wr _ none) (fun r e => by cases e))
      have HB1 : Hid (Below n₀ Wb (wr.alloc (.cells #[.string nm.1, .slice (some ⟨g, 0, none⟩) nR cap] 219))) := hid (hbr.out.alloc (Nat.le_trans hn₀ hbr.out.size) _)
      clear hnm hnR hrs hJs hbr
      gi_wp2
      gi_loopw [18] (fun p wr => ∃ (r : Nat) (pre : List (RI N Wb n₀)), r ≤ nR ∧ p = .int .i64 r ∧ Hid (pre.map (fun x => x.1.1) = rulesTo pg i ++ (nm.2.take r).map fun ps => (i, ps)) ∧ Hid (J pre wr) ∧ Hid (Below n₀ Wb wr)) (fun p _ => nR - (intOf p).toNat)
      case atStart => exact ⟨0, pre, Nat.zero_le _, rfl, hid (by rw [hpre.out]; simp), HJ1, HB1⟩
      case round =>
        clear HJ1 HB1 c0 c1
        obtain ⟨r, pre, hr, rfl, hpre, hJs, hbr⟩ := hrel
        by_cases hlr : r < nR
        · obtain ⟨ps, hps⟩ : ∃ ps, nm.2[r]? = some ps := ⟨_, List.getElem?_eq_getElem (by rw [← HNR.out]; exact hlr)⟩
          obtain ⟨p, hp1, hp2⟩ := HRs.out r ps hps
          have cp := (hbr.out.cell (p := ⟨g, r, none⟩) hg).trans hp1
          have hmem : (i, ps) ∈ N.rules := by
            rw [HP.out.rules, List.mem_flatMap]
            refine ⟨(nm, i), ?_, ?_⟩
            · have e : pg.zipIdx[i]? = some (nm, i) := by rw [List.getElem?_zipIdx, HNm.out]; simp
              exact List.mem_of_getElem? e
            · exact List.mem_map.2 ⟨ps, List.mem_of_getElem? hps, rfl⟩
          have hlen : pre.length < N.rules.length := by
            obtain ⟨rest, hrr⟩ := rulesTo_prefix pg HNm.out r
            have h1 := congrArg List.length hrr
            have h2 := congrArg List.length hpre.out
            rw [← HP.out.rules] at h1
            simp only [List.length_append, List.length_map, List.length_drop] at h1 h2
            have h3 := HNR.out
            omega
          obtain ⟨x, hx⟩ : ∃ x : RI N Wb n₀, x.1 = ((i, ps), p) := ⟨⟨((i, ps), p), hmem, hp2⟩, rfl⟩
          obtain ⟨fn, tmps, assign, body, hy, hR⟩ := HY.out pre x wr hJs.out hlen
          have HPre : Hid ((pre ++ [x]).map (fun x => x.1.1) = rulesTo pg i ++ (nm.2.take (r + 1)).map fun ps => (i, ps)) := hid (by
            obtain ⟨hr2, e⟩ := List.getElem?_eq_some_iff.1 hps
            rw [List.map_append, hpre.out, List.take_succ_eq_append_getElem hr2, e]
            simp [hx])
          have hy : (Instr.yield l #[.int .i64 (i : Int), p]).run Tryz.prog wr = .ok (.round l fn tmps assign body) wr := by
            have h1 := hy
            unfold encR at h1
            rw [hx] at h1
            exact h1
          have HR : Hid _ := hid hR
          clear hR hx hlen hmem hps hp1 hpre
          gi_wp2
          refine HR.out.mono ?_
          rintro e W3 (⟨rfl, hJ3, hk3⟩ | ⟨rfl, hJx3⟩)
          · have HJ3 : Hid _ := hid hJ3
            have HB3 : Hid _ := hid (hbr.out.trans hk3)
            clear hJ3 hk3
            gi_wp2
            go_roundw
            case rel => exact ⟨r + 1, pre ++ [x], by omega, by go_num, HPre, HJ3, HB3⟩
            case measure => simp [intOf]; omega
          · gi_wp2
            refine bodyPost_ret (results_none rfl _ _ _) rfl ?_
            exact ⟨⟨_, rfl⟩, .inr ⟨pre ++ [x], trivial, hJx3⟩⟩
        · have HPre : Hid (pre.map (fun x => x.1.1) = rulesTo pg (i + 1)) := hid (by
            rw [hpre.out, rulesTo_succ HNm.out, List.take_of_length_le (by have := HNR.out; omega)])
          gi_wp2
          go_roundw
          case rel => exact ⟨i + 1, pre, by omega, by go_num, HPre, hJs, hbr⟩
          case measure => simp [intOf]; omega
    · have HPre : Hid (pre.map (fun x => x.1.1) = N.rules) := hid (by
        rw [hpre.out, HP.out.rules, rulesTo_end pg (by rw [HP.out.pgl]; have := H1.out; omega)])
      gi_wp2
      go_end0
      exact ⟨⟨_, rfl⟩, .inl ⟨pre, HPre.out, hJs.out⟩⟩

end Go.Proofs.YtjjggdcnpndgjaaGreatDoor
