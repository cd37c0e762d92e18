/- (Set).All$1: the iterator over a set. -/
import Derived.Test.YtjjggdcnpndgjaaGreatDoorJPset3
namespace Go.Proofs.YtjjggdcnpndgjaaGreatDoor
open Go.RowKit Go.Shelf

attribute [local go_sem] Oper.semAt_some

/-- A number of the set. -/
abbrev TI (s : Nat) := { t : Nat // t ∈ bitsOf s }

def encT {s : Nat} (t : TI s) : Array Value := #[.int .i64 (t.1 : Int)]

set_option maxRecDepth 100000 in
set_option maxHeartbeats 400000 in
theorem set1_in (n : Nat) (hn : 1 ≤ n) (l Bn n₀ s : Nat) (hs : s < 2 ^ 21) (hn0 : 1 < n₀) (J Jx : List (TI s) → World → Prop) (W : World) (hJ : AbidesFrom W.heap.size J) (hT : TabAt 1 Lib.deBruijn32tab W)
    (hY : ∀ pre x W, J pre W → pre.length < (bitsOf s).length → YieldAt Fence.wide (n - 1) Tryz.prog l (encT x) W fun e W' =>
      (e = .returned (.bool true) ∧ J (pre ++ [x]) W' ∧ Below n₀ W W') ∨ (e = .returned (.bool false) ∧ Jx (pre ++ [x]) W'))
    (hBn : W.cell? ⟨Bn, 0, none⟩ = some (.int .u32 s)) (h0 : J [] W) :
    CallsIn Fence.wide n Tryz.prog 181 #[.func (.yield l) #[] #[], .pointer (some ⟨Bn, 0, none⟩)] W fun e W' => (∃ v, e = .returned v) ∧
      ((∃ ys : List (TI s), ys.map (·.1) = bitsOf s ∧ J ys W') ∨ (∃ pre : List (TI s), (∃ rest, bitsOf s = pre.map (·.1) ++ rest) ∧ Jx pre W')) := by
  have HJ : Hid _ := hid hJ
  have HY : Hid _ := hid hY
  have HT : Hid _ := hid hT
  have HJ0 : Hid (J [] W) := hid h0
  have HS : Hid (s < 2 ^ 21) := hid hs
  clear hJ hY hT h0 hs
  refine callsIn_of_wp Tryz.func181 rfl trivial ?_ rfl
  simp only [Tryz.ntmps181, List.size_toArray, List.length_cons, List.length_nil, Nat.reduceAdd, Nat.reduceSub, Array.replicate_succ, Array.replicate_zero, List.push_toArray, List.append_toArray, List.nil_append, List.cons_append]
  gi_wp2
  gi_loopg [3] (s) (fun g p wr => ∃ (x : Nat) (pre : List (TI s)), x = g ∧ p = .int .u32 x ∧ Hid (x < 2 ^ 21) ∧ Hid (bitsOf s = pre.map (·.1) ++ bitsOf x) ∧ Hid (J pre wr) ∧ Hid (TabAt 1 Lib.deBruijn32tab wr))
  case atStart => exact ⟨s, [], rfl, rfl, HS, rfl, HJ0, HT⟩
  case round =>
    obtain ⟨x, pre, rfl, rfl, hx, hpre, hJs, hTw⟩ := hrel
    by_cases hz : x = 0
    · subst hz
      have HE : Hid (pre.map (·.1) = bitsOf s) := hid (by have h1 := hpre.out; rw [bitsOf_zero, List.append_nil] at h1; exact h1.symm)
      gi_wp2
      go_end0
      exact ⟨⟨_, rfl⟩, .inl ⟨pre, HE.out, hJs.out⟩⟩
    · obtain ⟨hb1, hb2⟩ := bitsOf_next hz hx.out
      have hlen : pre.length < (bitsOf s).length := by rw [hpre.out, hb1]; simp
      have hmem : Lib.ctz 32 x ∈ bitsOf s := by rw [hpre.out, hb1]; simp
      have CT := (callsIn_wide (n := n - 1)).2 (tz_any x hz (by have := hx.out; omega) wr hTw.out)
      have hxx := hx.out
      obtain ⟨t, ht⟩ : ∃ t, Lib.ctz 32 x = t := ⟨_, rfl⟩
      rw [ht] at hb1 hb2 CT hmem
      obtain ⟨fn, tmps, assign, body, hy, hR⟩ := HY.out pre ⟨t, hmem⟩ wr hJs.out hlen
      have hy : (Instr.yield l #[.int .i64 (t : Int)]).run Tryz.prog wr = .ok (.round l fn tmps assign body) wr := hy
      have HPre : Hid (bitsOf s = (pre ++ [(⟨t, hmem⟩ : TI s)]).map (·.1) ++ bitsOf (x &&& (x - 1))) := hid (hpre.out.trans (by rw [hb1]; simp))
      have hand : bits .and .u32 (x : Int) ((x : Int) - 1) = ((x &&& (x - 1) : Nat) : Int) := by
        rw [show (x : Int) - 1 = ((x - 1 : Nat) : Int) from by omega]
        exact bits_and_u32_nat x (x - 1) (by omega) (by omega)
      have hxz : ((x : Int) == 0) = false := by simp; omega
      have HR : Hid _ := hid hR
      have HX2 : Hid (x &&& (x - 1) < 2 ^ 21 ∧ x &&& (x - 1) < x) := hid ⟨and_lt hxx, by have : x &&& (x - 1) ≤ x - 1 := Nat.and_le_right; omega⟩
      clear hR hlen hb1 ht
      gi_wp2_with (refine ⟨trivial, ?_⟩; gi_at_call 182; refine CT.mono ?_; rintro e w2 ⟨rfl, rfl⟩; clear CT)
      refine HR.out.mono ?_
      rintro e W3 (⟨rfl, hJ3, hk3⟩ | ⟨rfl, hJx3⟩)
      · have HJ3 : Hid _ := hid hJ3
        have HT3 : Hid _ := hid (TabAt.below hTw.out hk3 hn0)
        clear hJ3 hk3
        gi_wp2
        gi_roundg (x &&& (x - 1))
        case measure => exact HX2.out.2
        case rel => exact ⟨_, pre ++ [⟨t, hmem⟩], rfl, by go_num, HX2.out.1, HPre, HJ3, HT3⟩
      · gi_wp2
        refine bodyPost_ret (results_none rfl _ _ _) rfl ?_
        exact ⟨⟨_, rfl⟩, .inr ⟨pre ++ [⟨t, hmem⟩], ⟨_, HPre.out⟩, hJx3⟩⟩

theorem set_stops (n : Nat) (hn : 1 ≤ n) (Bn n₀ s : Nat) (hs : s < 2 ^ 21) (hn0 : 1 < n₀) (w : World) (hB : Bn < w.heap.size) (hT : TabAt 1 Lib.deBruijn32tab w) (hBn : w.cell? ⟨Bn, 0, none⟩ = some (.int .u32 s)) :
    SeqStopsK Fence.wide n Tryz.prog 181 #[.pointer (some ⟨Bn, 0, none⟩)] (encT (s := s)) (Below n₀) (fun ys => ys.map (·.1) = bitsOf s) (fun pre => ∃ rest, bitsOf s = pre.map (·.1) ++ rest) (bitsOf s).length w := fun l J Jx W hW hJ _ hY h0 => by
  refine (set1_in n hn l Bn n₀ s hs hn0 J Jx W hJ (TabAt.below hT hW (World.block_lt_of_cell? _ _ (hT 0 (by decide)))) hY ((hW.cell (p := ⟨Bn, 0, none⟩) hB).trans hBn) h0).mono ?_
  rintro e W' ⟨h1, h2⟩
  exact ⟨h1, h2⟩

end Go.Proofs.YtjjggdcnpndgjaaGreatDoor
