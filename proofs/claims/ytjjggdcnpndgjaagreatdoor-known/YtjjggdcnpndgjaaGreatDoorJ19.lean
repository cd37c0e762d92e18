/- Pure: words joined by blanks, lines joined by line feeds, and how the reference cuts them again. darnkeep: at, letter, name, number, digits: what small words are made of. darnkeep.digits. Pure: the grammars that darnkeep puts together, their lines, and what the reference's words for a line say of them. Pure: the lines of such a grammar are lines, of the shapes that they should be. Pure: the text of such a grammar is one: no line gives what was given, nothing is too many, nothing unknown. Pure: the text of such a grammar is one for the reference. Pure: the made grammar by numbers; it has no waste, no name is nullable, what begins a name, what it least costs, that the END may follow the start. Pure: what the lines of the made grammar's text give by numbers is the made grammar itself. Pure: what each name least costs, worked out in as many rounds as there are names and one more. Pure: the made grammar's text, as it is put together from left to right. -/
import Derived.Test.YtjjggdcnpndgjaaGreatDoorJ5
import Derived.Test.YtjjggdcnpndgjaaGreatDoorProg
import Derived.Test.YtjjggdcnpndgjaaGreatDoorJ1
import Derived.Laws.IdiomStrings
import Derived.Test.YtjjggdcnpndgjaaGreatDoorJ15
import Derived.Test.YtjjggdcnpndgjaaGreatDoorJ6
import Derived.Test.YtjjggdcnpndgjaaGreatDoorJ9
namespace Go.Proofs.YtjjggdcnpndgjaaGreatDoor
open Go.RowKit

def bytesOf (s : ByteArray) : List UInt8 := s.data.toList

/-- Words with one blank between each two. -/
def joinW : List (List UInt8) → List UInt8
  | [] => []
  | [w] => w
  | w :: v :: r => w ++ 32 :: joinW (v :: r)

theorem ba_ext {a b : ByteArray} (h : a.data.toList = b.data.toList) : a = b := by
  apply ByteArray.ext
  exact Array.toList_inj.1 h

theorem wst_nosp : ∀ (l : List UInt8) (d : List ByteArray) (c : ByteArray), (∀ b ∈ l, b ≠ 32) → l.foldl wstep (d, c) = (d, ⟨(c.data.toList ++ l).toArray⟩)
  | [], d, c, _ => by simp
  | b :: l, d, c, h => by
    rw [List.foldl_cons]
    have hb : b ≠ 32 := h b (by simp)
    have e : wstep (d, c) b = (d, c ++ ⟨#[b]⟩) := by unfold wstep; rw [if_neg hb]
    rw [e, wst_nosp l d _ (fun x hx => h x (by simp [hx]))]
    congr 1
    apply ba_ext
    have e2 : (c ++ (⟨#[b]⟩ : ByteArray)).data.toList = c.data.toList ++ [b] := by simp
    rw [e2]
    simp

theorem wst_join : ∀ (ws : List (List UInt8)) (d : List ByteArray), ws ≠ [] → (∀ w ∈ ws, ∀ b ∈ w, b ≠ 32) →
    ((joinW ws).foldl wstep (d, ByteArray.empty)).1 ++ [((joinW ws).foldl wstep (d, ByteArray.empty)).2] = d ++ ws.map fun w => ⟨w.toArray⟩
  | [], d, h, _ => absurd rfl h
  | [w], d, _, h => by
    show (w.foldl wstep (d, ByteArray.empty)).1 ++ [(w.foldl wstep (d, ByteArray.empty)).2] = _
    rw [wst_nosp w d _ (h w (by simp))]
    simp
  | w :: v :: r, d, _, h => by
    have hw := wst_nosp w d ByteArray.empty (h w (by simp))
    have e0 : ByteArray.empty.data.toList ++ w = w := by simp
    rw [e0] at hw
    have e : (joinW (w :: v :: r)).foldl wstep (d, ByteArray.empty) = (joinW (v :: r)).foldl wstep (d ++ [⟨w.toArray⟩], ByteArray.empty) := by
      show (w ++ 32 :: joinW (v :: r)).foldl wstep _ = _
      rw [List.foldl_append, hw, List.foldl_cons]
      congr 1
    rw [e, wst_join (v :: r) _ (by simp) (fun x hx => h x (by simp [hx]))]
    simp

/-- A line's words come back. -/
theorem words_join (ws : List (List UInt8)) (h0 : ws ≠ []) (h : ∀ w ∈ ws, ∀ b ∈ w, b ≠ 32) : wordsB ⟨(joinW ws).toArray⟩ = ws.map fun w => ⟨w.toArray⟩ := by
  have := wst_join ws [] h0 h
  unfold wordsB wst
  simpa using this

/-- Lines, each ended. -/
def joinL (ls : List (List UInt8)) : List UInt8 := ls.flatMap fun l => l ++ [10]

theorem findIdx_first {l r : List UInt8} (h : ∀ b ∈ l, b ≠ 10) : (l ++ 10 :: r).findIdx? (· == 10) = some l.length := by
  rw [List.findIdx?_eq_some_iff_getElem]
  refine ⟨by simp, by simp, fun j hj => ?_⟩
  rw [List.getElem_append_left hj]
  have := h _ (List.getElem_mem hj)
  simpa using this

/-- The line that begins at a place. -/
theorem lineB_at {s : ByteArray} {a : Nat} {l r : List UInt8} (hd : s.data.toList.drop a = l ++ 10 :: r) (h : ∀ b ∈ l, b ≠ 10) : lineB s a = (⟨l.toArray⟩, ((a + l.length + 1 : Nat) : Int)) := by
  unfold lineB
  rw [hd, findIdx_first h]
  simp only
  congr 1
  apply ba_ext
  have : (s.extract a (a + l.length)).data.toList = (s.data.toList.drop a).take l.length := by
    simp [ByteArray.data_extract]
  rw [this, hd]
  simp

def offL : List (List UInt8) → Nat → List Nat
  | [], _ => []
  | l :: r, a => a :: offL r (a + l.length + 1)

/-- A text of such lines, cut again. -/
theorem scan_lines (s : ByteArray) : ∀ (ls : List (List UInt8)) (a : Nat), s.data.toList.drop a = joinL ls → a ≤ s.size → (∀ l ∈ ls, (∀ b ∈ l, b ≠ 10) ∧ isLineB (wordsB ⟨l.toArray⟩) = true) →
    scanA s a = ((offL ls a).zip (ls.map fun l => wordsB ⟨l.toArray⟩), s.size)
  | [], a, hd, ha, _ => by
    have hl : s.data.toList.length = s.size := by simp
    have h0 : ¬ a < s.size := by
      intro h
      have := congrArg List.length hd
      simp [joinL] at this
      omega
    rw [scanA_end h0]
    show (_, a) = (_, s.size)
    rw [show a = s.size by omega]; rfl
  | l :: ls, a, hd, ha, h => by
    have hl : s.data.toList.length = s.size := by simp
    have hc : joinL (l :: ls) = l ++ 10 :: joinL ls := by unfold joinL; simp
    rw [hc] at hd
    have hlen := congrArg List.length hd
    simp only [List.length_drop, hl, List.length_append, List.length_cons] at hlen
    obtain ⟨h1, h2⟩ := h l (by simp)
    have hln := lineB_at hd h1
    have hd2 : s.data.toList.drop (a + l.length + 1) = joinL ls := by
      have : s.data.toList.drop (a + l.length + 1) = (s.data.toList.drop a).drop (l.length + 1) := by rw [List.drop_drop]; rfl
      rw [this, hd]
      simp [List.drop_append]
    have ih := scan_lines s ls (a + l.length + 1) hd2 (by omega) (fun x hx => h x (by simp [hx]))
    rw [scanA_line (by omega) (by rw [hln]; simp; omega) (by rw [hln]; exact h2), hln]
    simp only [Int.toNat_natCast]
    rw [ih]
    simp [offL]

end Go.Proofs.YtjjggdcnpndgjaaGreatDoor

namespace Go.Proofs.YtjjggdcnpndgjaaGreatDoor
open Go.RowKit

def letB (i : Nat) : ByteArray := ⟨#[UInt8.ofNat (97 + i)]⟩
def namB (i : Nat) : ByteArray := ⟨#[UInt8.ofNat (65 + i)]⟩

theorem letter_any (i : Nat) (hi : i < 6) (w : World) : Calls Tryz.prog 31 #[.int .i64 i] w fun e w' => e = .returned (.string (letB i)) ∧ w = w' := by
  have h : i = 0 ∨ i = 1 ∨ i = 2 ∨ i = 3 ∨ i = 4 ∨ i = 5 := by omega
  rcases h with rfl | rfl | rfl | rfl | rfl | rfl
  all_goals
    go_enter Tryz.func31, Tryz.ntmps31
    go_wp2
    go_ret
    exact ⟨rfl, rfl⟩

theorem kname_any (i : Nat) (hi : i < 4) (w : World) : Calls Tryz.prog 33 #[.int .i64 i] w fun e w' => e = .returned (.string (namB i)) ∧ w = w' := by
  have h : i = 0 ∨ i = 1 ∨ i = 2 ∨ i = 3 := by omega
  rcases h with rfl | rfl | rfl | rfl
  all_goals
    go_enter Tryz.func33, Tryz.ntmps33
    go_wp2
    go_ret
    exact ⟨rfl, rfl⟩

theorem number_any (i : Nat) (hi : i < 6) (w : World) : Calls Tryz.prog 45 #[.string (letB i)] w fun e w' => e = .returned (.int .i64 i) ∧ w = w' := by
  have h : i = 0 ∨ i = 1 ∨ i = 2 ∨ i = 3 ∨ i = 4 ∨ i = 5 := by omega
  rcases h with rfl | rfl | rfl | rfl | rfl | rfl
  all_goals
    go_enter Tryz.func45, Tryz.ntmps45
    go_wp2
    go_ret
    exact ⟨rfl, rfl⟩

/-- A number that an int holds. -/
def I64 (c : Int) : Prop := -9223372036854775808 ≤ c ∧ c ≤ 9223372036854775807

theorem I64.neg {c : Int} (h : I64 c) (h0 : c < 0) : wrap64 (-wrap64 (c + 1)) = -(c + 1) := by
  unfold I64 at h
  unfold wrap64
  omega

theorem pick_any (c : Int) (n : Nat) (hn : 0 < n) (hc : I64 c) (w : World) : Calls Tryz.prog 44 #[.int .i64 c, .int .i64 n] w fun e w' => (∃ r : Nat, r < n ∧ e = .returned (.int .i64 r)) ∧ w = w' := by
  by_cases h0 : c < 0
  · have HK : Hid (wrap64 (-wrap64 (c + 1)) = -(c + 1)) := hid (hc.neg h0)
    clear hc
    go_enter Tryz.func44, Tryz.ntmps44
    go_wp2
    go_ret
    refine ⟨⟨((-(c + 1)) % n).toNat, ?_, ?_⟩, rfl⟩
    · have h1 : (-(c + 1)) % (n : Int) < n := Int.emod_lt_of_pos _ (by omega)
      have h2 : 0 ≤ (-(c + 1)) % (n : Int) := Int.emod_nonneg _ (by omega)
      omega
    · have h2 : 0 ≤ (-(c + 1)) % (n : Int) := Int.emod_nonneg _ (by omega)
      rw [Int.toNat_of_nonneg h2, ← Int.tmod_eq_emod_of_nonneg (by omega), ← HK.out]
      rfl
  · clear hc
    go_enter Tryz.func44, Tryz.ntmps44
    go_wp2
    go_ret
    refine ⟨⟨(c % n).toNat, ?_, ?_⟩, rfl⟩
    · have h1 : c % (n : Int) < n := Int.emod_lt_of_pos _ (by omega)
      have h2 : 0 ≤ c % (n : Int) := Int.emod_nonneg _ (by omega)
      omega
    · have h2 : 0 ≤ c % (n : Int) := Int.emod_nonneg _ (by omega)
      rw [Int.toNat_of_nonneg h2]
      rfl

/-- Raw numbers, as they come in. -/
def RawV (w : World) (v : Value) : Prop := ∃ ad n cap, v = .slice ad n cap ∧ n ≤ cap ∧ n ≤ 140737488355328 ∧ (0 < n → ∃ g off, ad = some ⟨g, off, none⟩ ∧ g < w.heap.size ∧ ∀ j, j < n → ∃ z, w.cell? ⟨g, off + j, none⟩ = some (.int .i64 z) ∧ I64 z)

theorem RawV.below {w w' : World} {v : Value} (h : RawV w v) (hb : Below w.heap.size w w') : RawV w' v := by
  obtain ⟨ad, n, cap, h1, h2, h3, h4⟩ := h
  refine ⟨ad, n, cap, h1, h2, h3, fun h0 => ?_⟩
  obtain ⟨g, off, h5, h6, h7⟩ := h4 h0
  refine ⟨g, off, h5, Nat.lt_of_lt_of_le h6 hb.size, fun j hj => ?_⟩
  obtain ⟨z, h8, h9⟩ := h7 j hj
  exact ⟨z, (hb.cell (by exact h6)).trans h8, h9⟩

theorem at_any (v : Value) (i : Nat) (hi : i ≤ 100000) (w : World) (hv : RawV w v) : Calls Tryz.prog 66 #[v, .int .i64 i] w fun e w' => (∃ z, e = .returned (.int .i64 z) ∧ I64 z) ∧ w = w' := by
  obtain ⟨ad, n, cap, rfl, hnc, hn, hc⟩ := hv
  by_cases hlt : i < n
  · obtain ⟨g, off, rfl, hg, hcell⟩ := hc (by omega)
    obtain ⟨z, hz, hI⟩ := hcell i hlt
    have HI : Hid _ := hid hI
    clear hc hcell hI hn
    go_enter Tryz.func66, Tryz.ntmps66
    go_wp2
    go_ret
    exact ⟨⟨z, rfl, HI.out⟩, rfl⟩
  · clear hc hn
    go_enter Tryz.func66, Tryz.ntmps66
    go_wp2
    go_ret
    exact ⟨⟨0, rfl, by unfold I64; omega⟩, rfl⟩

end Go.Proofs.YtjjggdcnpndgjaaGreatDoor

namespace Go.Proofs.YtjjggdcnpndgjaaGreatDoor
open Go.RowKit

def digB (n : Nat) : ByteArray := ⟨#[UInt8.ofNat (48 + n)]⟩

theorem conv_one (w : World) (b : UInt8) : (convert 221 9 (.slice (some ⟨w.heap.size, 0, none⟩) 1 1)).run Tryz.prog (w.alloc (.cells #[.int .u8 (b.toNat : Int)] 5)) = .ok (.string ⟨#[b]⟩) (w.alloc (.cells #[.int .u8 (b.toNat : Int)] 5)) :=
  run_convert_bytes_back (P := Tryz.prog) (w.alloc (.cells #[.int .u8 (b.toNat : Int)] 5)) 221 9 5 ⟨w.heap.size, 0, none⟩ 1 [b] Tryz.underlying221 Tryz.underlying5 Tryz.underlying9 (fun j hj => by
    have h0 : j = 0 := by simpa using hj
    subst h0
    have hb : (w.alloc (.cells #[.int .u8 (b.toNat : Int)] 5)).heap[w.heap.size]? = some (.cells #[.int .u8 (b.toNat : Int)] 5 (0, 0)) := heap_alloc_new w _
    have hadd : (⟨w.heap.size, 0, none⟩ : Addr).add 0 = ⟨w.heap.size, 0, none⟩ := by unfold Addr.add; split <;> simp_all
    rw [hadd, block_cell hb]; rfl)

set_option maxRecDepth 100000 in
theorem digits_any (n : Nat) (hn : n < 10) (w : World) : Calls Tryz.prog 70 #[.int .i64 n] w fun e w' => e = .returned (.string (digB n)) ∧ Below w.heap.size w w' := by
  have h : n = 0 ∨ n = 1 ∨ n = 2 ∨ n = 3 ∨ n = 4 ∨ n = 5 ∨ n = 6 ∨ n = 7 ∨ n = 8 ∨ n = 9 := by omega
  rcases h with rfl | rfl | rfl | rfl | rfl | rfl | rfl | rfl | rfl | rfl
  · have hcv : (convert 221 9 (.slice (some ⟨w.heap.size, 0, none⟩) 1 1)).run Tryz.prog (w.alloc (.cells #[.int .u8 48] 5)) = .ok (.string ⟨#[48]⟩) (w.alloc (.cells #[.int .u8 48] 5)) := conv_one w 48
    go_enter Tryz.func70, Tryz.ntmps70
    go_wp2
    go_ret
    exact ⟨rfl, (Below.refl _ _).alloc (Nat.le_refl _) _⟩
  · have hcv : (convert 221 9 (.slice (some ⟨w.heap.size, 0, none⟩) 1 1)).run Tryz.prog (w.alloc (.cells #[.int .u8 49] 5)) = .ok (.string ⟨#[49]⟩) (w.alloc (.cells #[.int .u8 49] 5)) := conv_one w 49
    go_enter Tryz.func70, Tryz.ntmps70
    go_wp2
    go_ret
    exact ⟨rfl, (Below.refl _ _).alloc (Nat.le_refl _) _⟩
  · have hcv : (convert 221 9 (.slice (some ⟨w.heap.size, 0, none⟩) 1 1)).run Tryz.prog (w.alloc (.cells #[.int .u8 50] 5)) = .ok (.string ⟨#[50]⟩) (w.alloc (.cells #[.int .u8 50] 5)) := conv_one w 50
    go_enter Tryz.func70, Tryz.ntmps70
    go_wp2
    go_ret
    exact ⟨rfl, (Below.refl _ _).alloc (Nat.le_refl _) _⟩
  · have hcv : (convert 221 9 (.slice (some ⟨w.heap.size, 0, none⟩) 1 1)).run Tryz.prog (w.alloc (.cells #[.int .u8 51] 5)) = .ok (.string ⟨#[51]⟩) (w.alloc (.cells #[.int .u8 51] 5)) := conv_one w 51
    go_enter Tryz.func70, Tryz.ntmps70
    go_wp2
    go_ret
    exact ⟨rfl, (Below.refl _ _).alloc (Nat.le_refl _) _⟩
  · have hcv : (convert 221 9 (.slice (some ⟨w.heap.size, 0, none⟩) 1 1)).run Tryz.prog (w.alloc (.cells #[.int .u8 52] 5)) = .ok (.string ⟨#[52]⟩) (w.alloc (.cells #[.int .u8 52] 5)) := conv_one w 52
    go_enter Tryz.func70, Tryz.ntmps70
    go_wp2
    go_ret
    exact ⟨rfl, (Below.refl _ _).alloc (Nat.le_refl _) _⟩
  · have hcv : (convert 221 9 (.slice (some ⟨w.heap.size, 0, none⟩) 1 1)).run Tryz.prog (w.alloc (.cells #[.int .u8 53] 5)) = .ok (.string ⟨#[53]⟩) (w.alloc (.cells #[.int .u8 53] 5)) := conv_one w 53
    go_enter Tryz.func70, Tryz.ntmps70
    go_wp2
    go_ret
    exact ⟨rfl, (Below.refl _ _).alloc (Nat.le_refl _) _⟩
  · have hcv : (convert 221 9 (.slice (some ⟨w.heap.size, 0, none⟩) 1 1)).run Tryz.prog (w.alloc (.cells #[.int .u8 54] 5)) = .ok (.string ⟨#[54]⟩) (w.alloc (.cells #[.int .u8 54] 5)) := conv_one w 54
    go_enter Tryz.func70, Tryz.ntmps70
    go_wp2
    go_ret
    exact ⟨rfl, (Below.refl _ _).alloc (Nat.le_refl _) _⟩
  · have hcv : (convert 221 9 (.slice (some ⟨w.heap.size, 0, none⟩) 1 1)).run Tryz.prog (w.alloc (.cells #[.int .u8 55] 5)) = .ok (.string ⟨#[55]⟩) (w.alloc (.cells #[.int .u8 55] 5)) := conv_one w 55
    go_enter Tryz.func70, Tryz.ntmps70
    go_wp2
    go_ret
    exact ⟨rfl, (Below.refl _ _).alloc (Nat.le_refl _) _⟩
  · have hcv : (convert 221 9 (.slice (some ⟨w.heap.size, 0, none⟩) 1 1)).run Tryz.prog (w.alloc (.cells #[.int .u8 56] 5)) = .ok (.string ⟨#[56]⟩) (w.alloc (.cells #[.int .u8 56] 5)) := conv_one w 56
    go_enter Tryz.func70, Tryz.ntmps70
    go_wp2
    go_ret
    exact ⟨rfl, (Below.refl _ _).alloc (Nat.le_refl _) _⟩
  · have hcv : (convert 221 9 (.slice (some ⟨w.heap.size, 0, none⟩) 1 1)).run Tryz.prog (w.alloc (.cells #[.int .u8 57] 5)) = .ok (.string ⟨#[57]⟩) (w.alloc (.cells #[.int .u8 57] 5)) := conv_one w 57
    go_enter Tryz.func70, Tryz.ntmps70
    go_wp2
    go_ret
    exact ⟨rfl, (Below.refl _ _).alloc (Nat.le_refl _) _⟩

end Go.Proofs.YtjjggdcnpndgjaaGreatDoor

namespace Go.Proofs.YtjjggdcnpndgjaaGreatDoor
open Go.RowKit

structure Mk where
  puts : List Nat
  drops : List Nat
  swaps : List (List Nat)
  rules : List (List (List Pt))

def partOk (T n : Nat) : Pt → Prop
  | .tok t => t < T
  | .nam k => k < n

structure Mk.Good (m : Mk) : Prop where
  t2 : 2 ≤ m.puts.length
  t6 : m.puts.length ≤ 6
  dl : m.drops.length = m.puts.length
  sl : m.swaps.length = m.puts.length
  srow : ∀ r ∈ m.swaps, r.length = m.puts.length
  p1 : ∀ x ∈ m.puts, 1 ≤ x ∧ x ≤ 9
  d1 : ∀ x ∈ m.drops, 1 ≤ x ∧ x ≤ 9
  s1 : ∀ r ∈ m.swaps, ∀ x ∈ r, x ≤ 9
  sdiag : ∀ (i : Nat) r, m.swaps[i]? = some r → r.getD i 0 = 0
  n1 : 1 ≤ m.rules.length
  n4 : m.rules.length ≤ 4
  c1 : ∀ rs ∈ m.rules, 1 ≤ rs.length ∧ rs.length ≤ m.puts.length
  head : ∀ rs ∈ m.rules, ∀ (k : Nat) r, rs[k]? = some r → r.head? = some (.tok k) ∧ r.length ≤ 5
  part : ∀ rs ∈ m.rules, ∀ r ∈ rs, ∀ p ∈ r, partOk m.puts.length m.rules.length p
  last : ∀ rs ∈ m.rules, ∀ r, rs.getLast? = some r → ∀ p ∈ r, ∃ t, p = .tok t
  reach : ∀ (n : Nat) rs, m.rules[n]? = some rs → n + 1 < m.rules.length → ∃ r, rs[0]? = some r ∧ .nam (n + 1) ∈ r

def wB : Pt → List UInt8
  | .tok t => [UInt8.ofNat (97 + t)]
  | .nam n => [UInt8.ofNat (65 + n)]
def ba (l : List UInt8) : ByteArray := ⟨l.toArray⟩
def bars : List (List (List UInt8)) → List (List UInt8)
  | [] => []
  | [r] => r
  | r :: q :: t => r ++ [124] :: bars (q :: t)

def tokLine (i p d : Nat) : List (List UInt8) := [[116, 111, 107, 101, 110], wB (.tok i), [UInt8.ofNat (48 + p)], [UInt8.ofNat (48 + d)]]
def swpLine (i j c : Nat) : List (List UInt8) := [[115, 119, 97, 112], wB (.tok i), wB (.tok j), [UInt8.ofNat (48 + c)]]
def rulLine (n : Nat) (rs : List (List Pt)) : List (List UInt8) := [114, 117, 108, 101] :: wB (.nam n) :: [61] :: bars (rs.map fun r => r.map wB)

def swpOf (m : Mk) (i j : Nat) : Nat := (m.swaps.getD i []).getD j 0
def tokLines (m : Mk) (i : Nat) : List (List (List UInt8)) := tokLine i (m.puts.getD i 0) (m.drops.getD i 0) :: (List.range m.puts.length).flatMap fun j => if 0 < swpOf m i j then [swpLine i j (swpOf m i j)] else []
def linesM (m : Mk) : List (List (List UInt8)) := (List.range m.puts.length).flatMap (tokLines m) ++ m.rules.zipIdx.map fun x => rulLine x.2 x.1
/-- The text. -/
def textM (m : Mk) : ByteArray := ba (joinL ((linesM m).map joinW))

theorem let_tok : ∀ i, i < 6 → tokB (letB i) = true := by decide +kernel
theorem nam_name : ∀ i, i < 4 → nameB (namB i) = true := by decide +kernel
theorem dig_num : ∀ i, i < 10 → 1 ≤ i → numB (digB i) = true := by decide +kernel
theorem dig_val : ∀ i, i < 10 → valD (digB i).data.toList = i := by decide +kernel
theorem let_ne : ∀ i, i < 6 → ∀ j, j < 6 → ((letB i).toList == (letB j).toList) = decide (i = j) := by decide +kernel
theorem nam_ne : ∀ i, i < 4 → ∀ j, j < 4 → ((namB i).toList == (namB j).toList) = decide (i = j) := by decide +kernel
theorem let_nam : ∀ i, i < 6 → ∀ j, j < 4 → ((letB i).toList == (namB j).toList) = false := by decide +kernel
theorem let_bar : ∀ i, i < 6 → barB (letB i) = false := by decide +kernel
theorem nam_bar : ∀ i, i < 4 → barB (namB i) = false := by decide +kernel
theorem let_sp : ∀ i, i < 6 → UInt8.ofNat (97 + i) ≠ 32 ∧ UInt8.ofNat (97 + i) ≠ 10 := by decide +kernel
theorem nam_sp : ∀ i, i < 4 → UInt8.ofNat (65 + i) ≠ 32 ∧ UInt8.ofNat (65 + i) ≠ 10 := by decide +kernel
theorem dig_sp : ∀ i, i < 10 → UInt8.ofNat (48 + i) ≠ 32 ∧ UInt8.ofNat (48 + i) ≠ 10 := by decide +kernel

end Go.Proofs.YtjjggdcnpndgjaaGreatDoor

namespace Go.Proofs.YtjjggdcnpndgjaaGreatDoor
open Go.RowKit

def wordP : Pt → ByteArray
  | .tok t => letB t
  | .nam n => namB n
theorem ba_wB (p : Pt) : ba (wB p) = wordP p := by cases p <;> rfl

theorem Mk.Good.rl {m : Mk} (h : m.Good) {n : Nat} {rs : List (List Pt)} (hn : m.rules[n]? = some rs) : n < 4 ∧ rs ∈ m.rules := by
  have h1 := (List.getElem?_eq_some_iff.1 hn).1
  have := h.n4
  exact ⟨by omega, List.mem_of_getElem? hn⟩

theorem part_lt {m : Mk} (h : m.Good) {rs : List (List Pt)} (hr : rs ∈ m.rules) {r : List Pt} (hr2 : r ∈ rs) {p : Pt} (hp : p ∈ r) : partOk 6 4 p := by
  have h1 := h.part rs hr r hr2 p hp
  have h2 := h.t6
  have h3 := h.n4
  cases p <;> simp only [partOk] at h1 ⊢ <;> omega

theorem getD_of {α : Type} {l : List α} {i : Nat} {d x : α} (h : l[i]? = some x) : l.getD i d = x := by rw [List.getD_eq_getElem?_getD, h]; rfl
theorem getD_no {α : Type} {l : List α} {i : Nat} {d : α} (h : l[i]? = none) : l.getD i d = d := by rw [List.getD_eq_getElem?_getD, h]; rfl

theorem swpOf_le {m : Mk} (h : m.Good) (i j : Nat) : swpOf m i j ≤ 9 := by
  unfold swpOf
  cases hi : m.swaps[i]? with
  | none => rw [getD_no hi]; simp
  | some r =>
    rw [getD_of hi]
    cases hj : r[j]? with
    | none => rw [getD_no hj]; omega
    | some x => rw [getD_of hj]; exact h.s1 r (List.mem_of_getElem? hi) x (List.mem_of_getElem? hj)

theorem swpOf_diag {m : Mk} (h : m.Good) (i : Nat) : swpOf m i i = 0 := by
  unfold swpOf
  cases hi : m.swaps[i]? with
  | none => rw [getD_no hi]; simp
  | some r => rw [getD_of hi]; exact h.sdiag i r hi

theorem getD_in {l : List Nat} {lo hi : Nat} (h : ∀ x ∈ l, lo ≤ x ∧ x ≤ hi) {i : Nat} (hi' : i < l.length) : lo ≤ l.getD i 0 ∧ l.getD i 0 ≤ hi := by
  rw [List.getD_eq_getElem?_getD, List.getElem?_eq_getElem hi']
  exact h _ (List.getElem_mem hi')

/-- What lines there are. -/
theorem mem_lines {m : Mk} (h : m.Good) {ws : List (List UInt8)} (hw : ws ∈ linesM m) :
    (∃ i, i < m.puts.length ∧ ws = tokLine i (m.puts.getD i 0) (m.drops.getD i 0)) ∨ (∃ i j, i < m.puts.length ∧ j < m.puts.length ∧ i ≠ j ∧ 0 < swpOf m i j ∧ ws = swpLine i j (swpOf m i j)) ∨ (∃ (n : Nat) (rs : List (List Pt)), m.rules[n]? = some rs ∧ ws = rulLine n rs) := by
  unfold linesM at hw
  rw [List.mem_append] at hw
  rcases hw with hw | hw
  · rw [List.mem_flatMap] at hw
    obtain ⟨i, hi, hw⟩ := hw
    have hi := List.mem_range.1 hi
    unfold tokLines at hw
    rcases List.mem_cons.1 hw with rfl | hw
    · exact .inl ⟨i, hi, rfl⟩
    · rw [List.mem_flatMap] at hw
      obtain ⟨j, hj, hw⟩ := hw
      have hj := List.mem_range.1 hj
      split at hw
      · rename_i h0
        refine .inr (.inl ⟨i, j, hi, hj, fun e => ?_, h0, by simpa using hw⟩)
        subst e
        rw [swpOf_diag h] at h0
        omega
      · cases hw
  · rw [List.mem_map] at hw
    obtain ⟨⟨rs, n⟩, hx, rfl⟩ := hw
    exact .inr (.inr ⟨n, rs, List.mem_zipIdx_iff_getElem?.1 hx, rfl⟩)

theorem mem_bars {w : List UInt8} : ∀ {L : List (List (List UInt8))}, w ∈ bars L → w = [124] ∨ ∃ r ∈ L, w ∈ r
  | [], h => by cases h
  | [r], h => .inr ⟨r, by simp, h⟩
  | r :: q :: t, h => by
    unfold bars at h
    rw [List.mem_append, List.mem_cons] at h
    rcases h with h | h | h
    · exact .inr ⟨r, by simp, h⟩
    · exact .inl h
    · rcases mem_bars (L := q :: t) h with h1 | ⟨x, hx, h1⟩
      · exact .inl h1
      · exact .inr ⟨x, by simp [hx], h1⟩

/-- No blank and no line feed stands in a word. -/
theorem word_clean {m : Mk} (h : m.Good) {ws : List (List UInt8)} (hw : ws ∈ linesM m) : ∀ w ∈ ws, ∀ b ∈ w, b ≠ 32 ∧ b ≠ 10 := by
  have ht6 := h.t6
  have key : ∀ w ∈ ws, w = [116, 111, 107, 101, 110] ∨ w = [115, 119, 97, 112] ∨ w = [114, 117, 108, 101] ∨ w = [61] ∨ w = [124] ∨ (∃ i, i < 6 ∧ w = [UInt8.ofNat (97 + i)]) ∨ (∃ i, i < 4 ∧ w = [UInt8.ofNat (65 + i)]) ∨ (∃ i, i < 10 ∧ w = [UInt8.ofNat (48 + i)]) := by
    intro w hm
    rcases mem_lines h hw with ⟨i, hi, rfl⟩ | ⟨i, j, hi, hj, _, _, rfl⟩ | ⟨n, rs, hn, rfl⟩
    · have hp := getD_in h.p1 hi
      have hd := getD_in h.d1 (i := i) (by rw [h.dl]; exact hi)
      simp only [tokLine, List.mem_cons, List.not_mem_nil, or_false] at hm
      rcases hm with rfl | rfl | rfl | rfl
      · exact .inl rfl
      · exact .inr (.inr (.inr (.inr (.inr (.inl ⟨i, by omega, rfl⟩)))))
      · exact .inr (.inr (.inr (.inr (.inr (.inr (.inr ⟨_, by omega, rfl⟩))))))
      · exact .inr (.inr (.inr (.inr (.inr (.inr (.inr ⟨_, by omega, rfl⟩))))))
    · have hc := swpOf_le h i j
      simp only [swpLine, List.mem_cons, List.not_mem_nil, or_false] at hm
      rcases hm with rfl | rfl | rfl | rfl
      · exact .inr (.inl rfl)
      · exact .inr (.inr (.inr (.inr (.inr (.inl ⟨i, by omega, rfl⟩)))))
      · exact .inr (.inr (.inr (.inr (.inr (.inl ⟨j, by omega, rfl⟩)))))
      · exact .inr (.inr (.inr (.inr (.inr (.inr (.inr ⟨_, by omega, rfl⟩))))))
    · obtain ⟨hn4, hmem⟩ := h.rl hn
      simp only [rulLine, List.mem_cons] at hm
      rcases hm with rfl | rfl | rfl | hm
      · exact .inr (.inr (.inl rfl))
      · exact .inr (.inr (.inr (.inr (.inr (.inr (.inl ⟨n, hn4, rfl⟩))))))
      · exact .inr (.inr (.inr (.inl rfl)))
      · rcases mem_bars hm with rfl | ⟨r, hr, hwr⟩
        · exact .inr (.inr (.inr (.inr (.inl rfl))))
        · rw [List.mem_map] at hr
          obtain ⟨q, hq, rfl⟩ := hr
          rw [List.mem_map] at hwr
          obtain ⟨p, hp, rfl⟩ := hwr
          have := part_lt h hmem hq hp
          cases p with
          | tok t => exact .inr (.inr (.inr (.inr (.inr (.inl ⟨t, this, rfl⟩)))))
          | nam k => exact .inr (.inr (.inr (.inr (.inr (.inr (.inl ⟨k, this, rfl⟩))))))
  intro w hm b hb
  rcases key w hm with rfl | rfl | rfl | rfl | rfl | ⟨i, hi, rfl⟩ | ⟨i, hi, rfl⟩ | ⟨i, hi, rfl⟩
  · revert b; decide
  · revert b; decide
  · revert b; decide
  · revert b; decide
  · revert b; decide
  · obtain rfl := List.mem_singleton.1 hb
    exact let_sp i hi
  · obtain rfl := List.mem_singleton.1 hb
    exact nam_sp i hi
  · obtain rfl := List.mem_singleton.1 hb
    exact dig_sp i hi

theorem joinW_mem {b : UInt8} : ∀ {ws : List (List UInt8)}, b ∈ joinW ws → b = 32 ∨ ∃ w ∈ ws, b ∈ w
  | [], h => by cases h
  | [w], h => .inr ⟨w, by simp, h⟩
  | w :: v :: r, h => by
    unfold joinW at h
    rw [List.mem_append, List.mem_cons] at h
    rcases h with h | h | h
    · exact .inr ⟨w, by simp, h⟩
    · exact .inl h
    · rcases joinW_mem (ws := v :: r) h with h1 | ⟨x, hx, h1⟩
      · exact .inl h1
      · exact .inr ⟨x, by simp [hx], h1⟩

theorem line_clean {m : Mk} (h : m.Good) {ws : List (List UInt8)} (hw : ws ∈ linesM m) : (∀ b ∈ joinW ws, b ≠ 10) ∧ wordsB (ba (joinW ws)) = ws.map ba := by
  have hc := word_clean h hw
  refine ⟨fun b hb => ?_, ?_⟩
  · rcases joinW_mem hb with rfl | ⟨w, hm, h1⟩
    · decide
    · exact (hc w hm b h1).2
  · refine words_join ws ?_ (fun w hm b hb => (hc w hm b hb).1)
    rcases mem_lines h hw with ⟨i, _, rfl⟩ | ⟨i, j, _, _, _, _, rfl⟩ | ⟨n, rs, _, rfl⟩ <;> simp [tokLine, swpLine, rulLine]

theorem kw_tok : (ba [116, 111, 107, 101, 110]).toList = [116, 111, 107, 101, 110] := by decide +kernel
theorem kw_swp : (ba [115, 119, 97, 112]).toList = [115, 119, 97, 112] := by decide +kernel
theorem kw_rul : (ba [114, 117, 108, 101]).toList = [114, 117, 108, 101] := by decide +kernel
theorem kw_eq : (ba [61]).toList = [61] := by decide +kernel
theorem kw_bar : barB (ba [124]) = true := by decide +kernel

/-- A line's words, of each kind. -/
theorem tokLine_ba (i p d : Nat) : (tokLine i p d).map ba = [ba [116, 111, 107, 101, 110], letB i, digB p, digB d] := rfl
theorem swpLine_ba (i j c : Nat) : (swpLine i j c).map ba = [ba [115, 119, 97, 112], letB i, letB j, digB c] := rfl
theorem rulLine_ba (n : Nat) (rs : List (List Pt)) : (rulLine n rs).map ba = ba [114, 117, 108, 101] :: namB n :: ba [61] :: (bars (rs.map fun r => r.map wB)).map ba := rfl

theorem tok_line {i p d : Nat} (hi : i < 6) (hp : 1 ≤ p ∧ p ≤ 9) (hd : 1 ≤ d ∧ d ≤ 9) : isLineB [ba [116, 111, 107, 101, 110], letB i, digB p, digB d] = true ∧ shapeOf [ba [116, 111, 107, 101, 110], letB i, digB p, digB d] = 0 := by
  have h0 : (nth [ba [116, 111, 107, 101, 110], letB i, digB p, digB d] 0).toList = [116, 111, 107, 101, 110] := kw_tok
  refine ⟨?_, ?_⟩
  · unfold isLineB
    rw [if_neg (by simp), h0, if_pos (by decide)]
    unfold tokLineB
    show (true && (tokB (letB i) && (numB (digB p) && numB (digB d)))) = true
    rw [let_tok i hi, dig_num p (by omega) hp.1, dig_num d (by omega) hd.1]; rfl
  · unfold shapeOf
    rw [h0, if_pos (by decide)]

theorem swp_line {i j c : Nat} (hi : i < 6) (hj : j < 6) (hc : 1 ≤ c ∧ c ≤ 9) : isLineB [ba [115, 119, 97, 112], letB i, letB j, digB c] = true ∧ shapeOf [ba [115, 119, 97, 112], letB i, letB j, digB c] = 1 := by
  have h0 : (nth [ba [115, 119, 97, 112], letB i, letB j, digB c] 0).toList = [115, 119, 97, 112] := kw_swp
  refine ⟨?_, ?_⟩
  · unfold isLineB
    rw [if_neg (by simp), h0, if_neg (by decide), if_pos (by decide)]
    unfold swapLineB
    show (true && (tokB (letB i) && (tokB (letB j) && numB (digB c)))) = true
    rw [let_tok i hi, let_tok j hj, dig_num c (by omega) hc.1]; rfl
  · unfold shapeOf
    rw [h0, if_neg (by decide), if_pos (by decide)]

theorem rul_line {m : Mk} (h : m.Good) {n : Nat} {rs : List (List Pt)} (hn : m.rules[n]? = some rs) : isLineB ((rulLine n rs).map ba) = true ∧ shapeOf ((rulLine n rs).map ba) = 2 := by
  obtain ⟨hn4, hmem⟩ := h.rl hn
  rw [rulLine_ba]
  generalize hq : (bars (rs.map fun r => r.map wB)).map ba = q
  have h0 : (nth (ba [114, 117, 108, 101] :: namB n :: ba [61] :: q) 0).toList = [114, 117, 108, 101] := kw_rul
  refine ⟨?_, ?_⟩
  · unfold isLineB
    rw [if_neg (by simp), h0, if_neg (by decide), if_neg (by decide), if_pos (by decide)]
    unfold ruleLineB headB
    have h2 : (nth (ba [114, 117, 108, 101] :: namB n :: ba [61] :: q) 2).toList = [61] := kw_eq
    have h1 : nth (ba [114, 117, 108, 101] :: namB n :: ba [61] :: q) 1 = namB n := rfl
    rw [h2, h1, nam_name n hn4, decide_eq_true (by simp)]
    show ((true && (true && true)) && q.all partB) = true
    simp only [Bool.and_self, Bool.true_and, List.all_eq_true]
    intro x hx
    rw [← hq, List.mem_map] at hx
    obtain ⟨w, hw, rfl⟩ := hx
    unfold partB
    rcases mem_bars hw with rfl | ⟨r, hr, hwr⟩
    · rw [kw_bar]; rfl
    · rw [List.mem_map] at hr
      obtain ⟨y, hy, rfl⟩ := hr
      rw [List.mem_map] at hwr
      obtain ⟨p, hp, rfl⟩ := hwr
      rw [ba_wB]
      have := part_lt h hmem hy hp
      cases p with
      | tok t => show (barB (letB t) || (tokB (letB t) || nameB (letB t))) = true; rw [let_tok t this]; simp
      | nam k => show (barB (namB k) || (tokB (namB k) || nameB (namB k))) = true; rw [nam_name k this]; simp
  · unfold shapeOf
    rw [h0, if_neg (by decide), if_neg (by decide)]

theorem line_is {m : Mk} (h : m.Good) {ws : List (List UInt8)} (hw : ws ∈ linesM m) : isLineB (ws.map ba) = true ∧ ¬ (ws.map ba).length = 1 := by
  have ht6 := h.t6
  rcases mem_lines h hw with ⟨i, hi, rfl⟩ | ⟨i, j, hi, hj, _, h0, rfl⟩ | ⟨n, rs, hn, rfl⟩
  · rw [tokLine_ba]
    exact ⟨(tok_line (by omega) (getD_in h.p1 hi) (getD_in h.d1 (by rw [h.dl]; exact hi))).1, by simp⟩
  · rw [swpLine_ba]
    exact ⟨(swp_line (by omega) (by omega) ⟨h0, swpOf_le h i j⟩).1, by simp⟩
  · exact ⟨(rul_line h hn).1, by rw [rulLine_ba]; simp⟩

/-- The text, cut into its lines. -/
theorem scan_text {m : Mk} (h : m.Good) : scanA (textM m) 0 = ((offL ((linesM m).map joinW) 0).zip ((linesM m).map fun ws => ws.map ba), (textM m).size) := by
  have h1 := scan_lines (textM m) ((linesM m).map joinW) 0 (by simp [textM, ba]) (Nat.zero_le _) (fun l hl => by
    obtain ⟨ws, hw, rfl⟩ := List.mem_map.1 hl
    refine ⟨(line_clean h hw).1, ?_⟩
    have := (line_clean h hw).2
    unfold ba at this
    rw [this]
    exact (line_is h hw).1)
  rw [h1, List.map_map]
  congr 2
  refine List.map_congr_left fun ws hw => ?_
  exact (line_clean h hw).2

/-- The rules of a rule line come back. -/
theorem pst_plain : ∀ (r : List ByteArray) (d : List (List ByteArray)) (c : List ByteArray), (∀ w ∈ r, barB w = false) → r.foldl pstep (d, c) = (d, c ++ r)
  | [], d, c, _ => by simp
  | w :: r, d, c, h => by
    rw [List.foldl_cons]
    have e : pstep (d, c) w = (d, c ++ [w]) := by unfold pstep; rw [if_neg (by rw [h w (by simp)]; decide)]
    rw [e, pst_plain r d _ (fun x hx => h x (by simp [hx]))]
    simp

theorem pst_bars : ∀ (L : List (List (List UInt8))) (d : List (List ByteArray)), L ≠ [] → (∀ r ∈ L, ∀ w ∈ r, barB (ba w) = false) →
    (((bars L).map ba).foldl pstep (d, [])).1 ++ [(((bars L).map ba).foldl pstep (d, [])).2] = d ++ L.map fun r => r.map ba
  | [], d, h, _ => absurd rfl h
  | [r], d, _, h => by
    show ((r.map ba).foldl pstep (d, [])).1 ++ [((r.map ba).foldl pstep (d, [])).2] = _
    rw [pst_plain (r.map ba) d [] (fun w hw => by obtain ⟨x, hx, rfl⟩ := List.mem_map.1 hw; exact h r (by simp) x hx)]
    simp
  | r :: q :: t, d, _, h => by
    have hr := pst_plain (r.map ba) d [] (fun w hw => by obtain ⟨x, hx, rfl⟩ := List.mem_map.1 hw; exact h r (by simp) x hx)
    have e : ((bars (r :: q :: t)).map ba).foldl pstep (d, []) = ((bars (q :: t)).map ba).foldl pstep (d ++ [r.map ba], []) := by
      show ((r ++ [124] :: bars (q :: t)).map ba).foldl pstep _ = _
      rw [List.map_append, List.map_cons, List.foldl_append, hr, List.foldl_cons]
      congr 1
      unfold pstep
      rw [if_pos kw_bar]
      simp
    rw [e, pst_bars (q :: t) _ (by simp) (fun x hx => h x (by simp [hx]))]
    simp

theorem rules_line {m : Mk} (h : m.Good) {n : Nat} {rs : List (List Pt)} (hn : m.rules[n]? = some rs) : rulesL ((rulLine n rs).map ba) = rs.map fun r => r.map wordP := by
  obtain ⟨hn4, hmem⟩ := h.rl hn
  have hc := (h.c1 rs hmem).1
  unfold rulesL pst
  rw [rulLine_ba]
  have := pst_bars (rs.map fun r => r.map wB) [] (by intro e; have := congrArg List.length e; simp at this; rw [this] at hc; simp at hc) (fun r hr w hw => by
    rw [List.mem_map] at hr
    obtain ⟨y, hy, rfl⟩ := hr
    rw [List.mem_map] at hw
    obtain ⟨p, hp, rfl⟩ := hw
    rw [ba_wB]
    have := part_lt h hmem hy hp
    cases p with
    | tok t => exact let_bar t this
    | nam k => exact nam_bar k this)
  show (((bars (rs.map fun r => r.map wB)).map ba).foldl pstep ([], [])).1 ++ [(((bars (rs.map fun r => r.map wB)).map ba).foldl pstep ([], [])).2] = _
  rw [this, List.nil_append, List.map_map]
  refine List.map_congr_left fun r _ => ?_
  show (r.map wB).map ba = _
  rw [List.map_map]
  exact List.map_congr_left fun p _ => ba_wB p

end Go.Proofs.YtjjggdcnpndgjaaGreatDoor

namespace Go.Proofs.YtjjggdcnpndgjaaGreatDoor
open Go.RowKit

theorem flatMap_one {α β : Type} {f : α → List β} {g : α → β} : ∀ {l : List α}, (∀ a ∈ l, f a = [g a]) → l.flatMap f = l.map g
  | [], _ => rfl
  | a :: l, h => by rw [List.flatMap_cons, h a (by simp), flatMap_one (fun b hb => h b (by simp [hb]))]; rfl

theorem empty_is : ByteArray.empty.toList.isEmpty = true := by decide +kernel

def wordsM (m : Mk) : List (List ByteArray) := (linesM m).map fun ws => ws.map ba
def tokWd (m : Mk) (i : Nat) : List ByteArray := (tokLine i (m.puts.getD i 0) (m.drops.getD i 0)).map ba
def swpWd (m : Mk) (i : Nat) : List (List ByteArray) := (List.range m.puts.length).flatMap fun j => if 0 < swpOf m i j then [(swpLine i j (swpOf m i j)).map ba] else []
def rulWd (x : List (List Pt) × Nat) : List ByteArray := (rulLine x.2 x.1).map ba

theorem wordsM_eq (m : Mk) : wordsM m = ((List.range m.puts.length).flatMap fun i => tokWd m i :: swpWd m i) ++ m.rules.zipIdx.map rulWd := by
  unfold wordsM linesM
  rw [List.map_append, List.map_flatMap, List.map_map]
  congr 1
  congr 1
  funext i
  unfold tokLines
  rw [List.map_cons, List.map_flatMap]
  congr 1
  unfold swpWd
  congr 1
  funext j
  split <;> rfl

theorem progL_zip : ∀ (L : List (List ByteArray)) (o : List Nat), (∀ ws ∈ L, ¬ ws.length = 1) → progL (o.zip L) = (o.zip L).map fun x => (x.1, shapeOf x.2, x.2)
  | [], o, _ => by simp [progL]
  | ws :: L, [], _ => by simp [progL]
  | ws :: L, a :: o, h => by
    rw [List.zip_cons_cons, progL_cons (by exact h ws (by simp)), progL_zip L o (fun x hx => h x (by simp [hx]))]
    rfl

theorem zip_words {β : Type} (g : Nat → List ByteArray → β) : ∀ (L : List (List ByteArray)) (o : List Nat), o.length = L.length → ((o.zip L).map fun x => (x.1, shapeOf x.2, x.2)).map (fun x : Ln => g x.2.1 x.2.2) = L.map fun ws => g (shapeOf ws) ws
  | [], o, h => by simp
  | ws :: L, [], h => by simp at h
  | ws :: L, a :: o, h => by
    rw [List.zip_cons_cons, List.map_cons, List.map_cons, List.map_cons, zip_words g L o (by simpa using h)]

theorem zip_filter {β : Type} (k : Nat) (g : List ByteArray → β) : ∀ (L : List (List ByteArray)) (o : List Nat), o.length = L.length → (((o.zip L).map fun x => (x.1, shapeOf x.2, x.2)).filter fun x : Ln => x.2.1 == k).map (fun x : Ln => g x.2.2) = (L.filter fun ws => shapeOf ws == k).map g
  | [], o, h => by simp
  | ws :: L, [], h => by simp at h
  | ws :: L, a :: o, h => by
    have ih := zip_filter k g L o (by simpa using h)
    rw [List.zip_cons_cons, List.map_cons, List.filter_cons, List.filter_cons]
    by_cases hk : shapeOf ws == k
    · rw [if_pos hk, if_pos hk, List.map_cons, List.map_cons, ih]
    · rw [if_neg hk, if_neg hk, ih]

theorem offL_len : ∀ (ls : List (List UInt8)) (a : Nat), (offL ls a).length = ls.length
  | [], _ => rfl
  | l :: r, a => by unfold offL; rw [List.length_cons, List.length_cons, offL_len r]

/-- The program's lines. -/
def pM (m : Mk) : List Ln := progL (scanA (textM m) 0).1

theorem pM_eq {m : Mk} (h : m.Good) : pM m = ((offL ((linesM m).map joinW) 0).zip (wordsM m)).map fun x => (x.1, shapeOf x.2, x.2) := by
  unfold pM
  rw [scan_text h]
  exact progL_zip _ _ (fun ws hw => by
    obtain ⟨x, hx, rfl⟩ := List.mem_map.1 hw
    exact (line_is h hx).2)

theorem off_words (m : Mk) : (offL ((linesM m).map joinW) 0).length = (wordsM m).length := by
  rw [offL_len]; unfold wordsM; simp

theorem pM_map {β : Type} {m : Mk} (h : m.Good) (g : Nat → List ByteArray → β) : (pM m).map (fun x => g x.2.1 x.2.2) = (wordsM m).map fun ws => g (shapeOf ws) ws := by
  rw [pM_eq h]; exact zip_words g _ _ (off_words m)
theorem pM_filter {β : Type} {m : Mk} (h : m.Good) (k : Nat) (g : List ByteArray → β) : ((pM m).filter fun x => x.2.1 == k).map (fun x => g x.2.2) = ((wordsM m).filter fun ws => shapeOf ws == k).map g := by
  rw [pM_eq h]; exact zip_filter k g _ _ (off_words m)

theorem tokWd_shape {m : Mk} (h : m.Good) {i : Nat} (hi : i < m.puts.length) : shapeOf (tokWd m i) = 0 := by
  have := h.t6
  exact (tok_line (by omega) (getD_in h.p1 hi) (getD_in h.d1 (by rw [h.dl]; exact hi))).2
theorem swpWd_shape {m : Mk} (h : m.Good) {i : Nat} (hi : i < m.puts.length) : ∀ ws ∈ swpWd m i, shapeOf ws = 1 ∧ ∃ j c, j < m.puts.length ∧ i ≠ j ∧ ws = [ba [115, 119, 97, 112], letB i, letB j, digB c] := by
  intro ws hw
  unfold swpWd at hw
  rw [List.mem_flatMap] at hw
  obtain ⟨j, hj, hw⟩ := hw
  have hj := List.mem_range.1 hj
  have := h.t6
  split at hw
  · rename_i h0
    obtain rfl := List.mem_singleton.1 hw
    rw [swpLine_ba]
    exact ⟨(swp_line (by omega) (by omega) ⟨h0, swpOf_le h i j⟩).2, j, _, hj, fun e => by subst e; rw [swpOf_diag h] at h0; omega, rfl⟩
  · cases hw
theorem rulWd_shape {m : Mk} (h : m.Good) {x : List (List Pt) × Nat} (hx : x ∈ m.rules.zipIdx) : shapeOf (rulWd x) = 2 := (rul_line h (List.mem_zipIdx_iff_getElem?.1 hx)).2

theorem filter_all {α : Type} {p : α → Bool} {l : List α} (h : ∀ a ∈ l, p a = true) : l.filter p = l := List.filter_eq_self.2 h
theorem filter_nil {α : Type} {p : α → Bool} {l : List α} (h : ∀ a ∈ l, p a = false) : l.filter p = [] := by
  rw [List.filter_eq_nil_iff]; intro a ha; rw [h a ha]; simp

theorem words_tok {m : Mk} (h : m.Good) : ((wordsM m).filter fun ws => shapeOf ws == 0) = (List.range m.puts.length).map (tokWd m) := by
  rw [wordsM_eq, List.filter_append, List.filter_flatMap]
  have e2 : ((m.rules.zipIdx.map rulWd).filter fun ws => shapeOf ws == 0) = [] := filter_nil fun ws hw => by
    obtain ⟨x, hx, rfl⟩ := List.mem_map.1 hw
    rw [rulWd_shape h hx]; rfl
  rw [e2, List.append_nil]
  have e1 : ∀ i ∈ List.range m.puts.length, ((tokWd m i :: swpWd m i).filter fun ws => shapeOf ws == 0) = [tokWd m i] := fun i hi => by
    have hi := List.mem_range.1 hi
    rw [List.filter_cons_of_pos (by rw [tokWd_shape h hi]; rfl), filter_nil (fun ws hw => by rw [(swpWd_shape h hi ws hw).1]; rfl)]
  exact flatMap_one e1

theorem words_rul {m : Mk} (h : m.Good) : ((wordsM m).filter fun ws => shapeOf ws == 2) = m.rules.zipIdx.map rulWd := by
  rw [wordsM_eq, List.filter_append, List.filter_flatMap]
  have e1 : ((List.range m.puts.length).flatMap fun i => (tokWd m i :: swpWd m i).filter fun ws => shapeOf ws == 2) = [] := by
    rw [List.flatMap_eq_nil_iff]
    intro i hi
    have hi := List.mem_range.1 hi
    exact filter_nil fun ws hw => by
      rcases List.mem_cons.1 hw with rfl | hw
      · rw [tokWd_shape h hi]; rfl
      · rw [(swpWd_shape h hi ws hw).1]; rfl
  rw [e1, List.nil_append]
  exact filter_all fun ws hw => by
    obtain ⟨x, hx, rfl⟩ := List.mem_map.1 hw
    rw [rulWd_shape h hx]; rfl

theorem tokLs_words {β : Type} {m : Mk} (h : m.Good) (g : List ByteArray → β) : (tokLs (pM m)).map (fun x => g x.2.2) = (List.range m.puts.length).map fun i => g (tokWd m i) := by
  unfold tokLs
  rw [pM_filter h 0 g, words_tok h, List.map_map]; rfl
theorem namLs_words {β : Type} {m : Mk} (h : m.Good) (g : List ByteArray → β) : (namLs (pM m)).map (fun x => g x.2.2) = m.rules.zipIdx.map fun x => g (rulWd x) := by
  unfold namLs
  rw [pM_filter h 2 g, words_rul h, List.map_map]; rfl

/-- What all lines give. -/
theorem given_words {m : Mk} (h : m.Good) : givenB (pM m) = (List.range m.puts.length).map letB ++ (List.range m.rules.length).map namB := by
  have hne : ∀ {i : Nat}, i < 6 → (letB i).toList.isEmpty = false := fun hi => made_ne (let_tok _ hi)
  have hnn : ∀ {i : Nat}, i < 4 → (namB i).toList.isEmpty = false := fun hi => made_ne (nam_name _ hi)
  have ht6 := h.t6
  have hn4 := h.n4
  unfold givenB
  rw [pM_map h givesB, wordsM_eq, List.map_append, List.filter_append, List.map_flatMap, List.filter_flatMap, List.map_map]
  congr 1
  · have e1 : ∀ i ∈ List.range m.puts.length, (((tokWd m i :: swpWd m i).map fun ws => givesB (shapeOf ws) ws).filter fun s => !s.toList.isEmpty) = [letB i] := fun i hi => by
      have hi := List.mem_range.1 hi
      rw [List.map_cons, tokWd_shape h hi]
      have e : givesB 0 (tokWd m i) = letB i := rfl
      rw [e, List.filter_cons_of_pos (by rw [hne (by omega)]; rfl)]
      congr 1
      refine filter_nil fun s hs => ?_
      obtain ⟨ws, hw, rfl⟩ := List.mem_map.1 hs
      rw [(swpWd_shape h hi ws hw).1]
      show (!ByteArray.empty.toList.isEmpty) = false
      rw [empty_is]; rfl
    exact flatMap_one e1
  · have e2 : (m.rules.zipIdx.map ((fun ws => givesB (shapeOf ws) ws) ∘ rulWd)) = (List.range m.rules.length).map namB := by
      apply List.ext_getElem?
      intro i
      rw [List.getElem?_map, List.getElem?_map]
      by_cases hi : i < m.rules.length
      · rw [List.getElem?_zipIdx, List.getElem?_eq_getElem hi, List.getElem?_range hi]
        simp only [Option.map_some, Function.comp_apply, Nat.zero_add]
        congr 1
        rw [rulWd_shape h (List.mem_zipIdx_iff_getElem?.2 (List.getElem?_eq_getElem hi))]
        rfl
      · rw [List.getElem?_eq_none (by simp; omega), List.getElem?_eq_none (by simp; omega)]; rfl
    rw [e2]
    exact filter_all fun s hs => by
      obtain ⟨i, hi, rfl⟩ := List.mem_map.1 hs
      rw [hnn (by have := List.mem_range.1 hi; omega)]; rfl

end Go.Proofs.YtjjggdcnpndgjaaGreatDoor

namespace Go.Proofs.YtjjggdcnpndgjaaGreatDoor
open Go.RowKit

theorem twice_none : ∀ (P : List Ln) (ws : List ByteArray), (ws ++ givenB P).Pairwise (fun a b => (a.toList == b.toList) = false) → twiceB P ws = none
  | [], _, _ => rfl
  | x :: P, ws, h => by
    rw [givenB_cons] at h
    rw [twiceB]
    cases he : (givesB x.2.1 x.2.2).toList.isEmpty with
    | true =>
      rw [he, if_pos rfl, List.nil_append] at h
      rw [if_pos rfl]
      exact twice_none P ws h
    | false =>
      rw [he, if_neg (by decide)] at h
      have hc : ¬ 0 < cnt ws (givesB x.2.1 x.2.2) := by
        rw [cnt_pos, List.any_eq_true]
        rintro ⟨a, ha, hab⟩
        have := (List.pairwise_append.1 h).2.2 a ha (givesB x.2.1 x.2.2) (by simp)
        rw [hab] at this
        cases this
      rw [if_neg (by decide), if_neg hc]
      exact twice_none P _ (by rw [List.append_assoc]; exact h)

theorem many_of : ∀ (P : List Ln) (t n r : Nat), t + (tokLs P).length ≤ 20 → n + (namLs P).length ≤ 20 → r + ((namLs P).flatMap fun x => rulesL x.2.2).length ≤ 60 → (∀ x ∈ namLs P, longB (rulesL x.2.2) ≤ 8) → manyB P t n r = none
  | [], _, _, _, _, _, _, _ => rfl
  | x :: P, t, n, r, h1, h2, h3, h4 => by
    rw [manyB]
    by_cases h0 : x.2.1 = 0
    · have h02 : ¬ x.2.1 = 2 := by omega
      have e1 : tokLs (x :: P) = x :: tokLs P := by unfold tokLs; rw [List.filter_cons_of_pos (by simp [h0])]
      have e2 : namLs (x :: P) = namLs P := by unfold namLs; rw [List.filter_cons_of_neg (by simp [h0])]
      rw [e1, List.length_cons] at h1
      rw [e2] at h2 h3 h4
      simp only [if_pos h0, if_neg h02]
      rw [if_neg (by omega)]
      exact many_of P _ _ _ (by omega) h2 h3 h4
    · have e1 : tokLs (x :: P) = tokLs P := by unfold tokLs; rw [List.filter_cons_of_neg (by simp [h0])]
      rw [e1] at h1
      by_cases h02 : x.2.1 = 2
      · have e2 : namLs (x :: P) = x :: namLs P := by unfold namLs; rw [List.filter_cons_of_pos (by simp [h02])]
        rw [e2] at h2 h3 h4
        rw [List.length_cons] at h2
        rw [List.flatMap_cons, List.length_append] at h3
        have h5 := h4 x (by simp)
        simp only [if_neg h0, if_pos h02]
        rw [if_neg (by omega)]
        exact many_of P _ _ _ h1 (by omega) (by omega) (fun y hy => h4 y (by simp [hy]))
      · have e2 : namLs (x :: P) = namLs P := by unfold namLs; rw [List.filter_cons_of_neg (by simp [h02])]
        rw [e2] at h2 h3 h4
        simp only [if_neg h0, if_neg h02]
        rw [if_neg (by omega)]
        exact many_of P _ _ _ h1 h2 h3 h4

theorem unk_of : ∀ {P : List Ln} {ws : List ByteArray}, (∀ x ∈ P, lineUnk ws x = false) → unkL ws P = none
  | [], _, _ => rfl
  | x :: P, ws, h => by
    rw [unkL, h x (by simp), if_neg (by decide)]
    exact unk_of fun y hy => h y (by simp [hy])

theorem long_of {rs : List (List ByteArray)} {b : Nat} (h : ∀ r ∈ rs, r.length ≤ b) : longB rs ≤ b := by
  have key : ∀ (rs : List (List ByteArray)) (m : Nat), m ≤ b → (∀ r ∈ rs, r.length ≤ b) → rs.foldl (fun m r => max m r.length) m ≤ b := by
    intro rs
    induction rs with
    | nil => intro m hm _; exact hm
    | cons a rs ih =>
      intro m hm hr
      rw [List.foldl_cons]
      have := hr a (by simp)
      exact ih _ (by omega) (fun x hx => hr x (by simp [hx]))
  exact key rs 0 (by omega) h

theorem flat_len_le {α β : Type} {f : α → List β} {b : Nat} : ∀ {l : List α}, (∀ a ∈ l, (f a).length ≤ b) → (l.flatMap f).length ≤ l.length * b
  | [], _ => by simp
  | a :: l, h => by
    rw [List.flatMap_cons, List.length_append, List.length_cons, Nat.succ_mul]
    have h1 := h a (by simp)
    have h2 := flat_len_le (l := l) (fun x hx => h x (by simp [hx]))
    omega

theorem namLs_mem {m : Mk} (h : m.Good) {x : Ln} (hx : x ∈ namLs (pM m)) : ∃ (n : Nat) (rs : List (List Pt)), m.rules[n]? = some rs ∧ x.2.2 = (rulLine n rs).map ba := by
  have h1 := namLs_words h (fun ws => ws)
  have h2 : x.2.2 ∈ (namLs (pM m)).map (fun x => x.2.2) := List.mem_map.2 ⟨x, hx, rfl⟩
  rw [h1] at h2
  obtain ⟨⟨rs, n⟩, hy, e⟩ := List.mem_map.1 h2
  exact ⟨n, rs, List.mem_zipIdx_iff_getElem?.1 hy, e.symm⟩

theorem tokLs_len {m : Mk} (h : m.Good) : (tokLs (pM m)).length = m.puts.length := by
  have := congrArg List.length (tokLs_words h (fun ws => ws))
  simpa using this
theorem namLs_len {m : Mk} (h : m.Good) : (namLs (pM m)).length = m.rules.length := by
  have := congrArg List.length (namLs_words h (fun ws => ws))
  simpa using this

theorem given_pair {m : Mk} (h : m.Good) : (givenB (pM m)).Pairwise (fun a b => (a.toList == b.toList) = false) := by
  have ht6 := h.t6
  have hn4 := h.n4
  rw [given_words h, List.pairwise_append]
  refine ⟨?_, ?_, ?_⟩
  · rw [List.pairwise_map]
    refine List.Pairwise.imp_of_mem (R := fun a b => a < b) ?_ List.pairwise_lt_range
    intro a b ha hb hlt
    have ha := List.mem_range.1 ha
    have hb := List.mem_range.1 hb
    rw [let_ne a (by omega) b (by omega), decide_eq_false (by omega)]
  · rw [List.pairwise_map]
    refine List.Pairwise.imp_of_mem (R := fun a b => a < b) ?_ List.pairwise_lt_range
    intro a b ha hb hlt
    have ha := List.mem_range.1 ha
    have hb := List.mem_range.1 hb
    rw [nam_ne a (by omega) b (by omega), decide_eq_false (by omega)]
  · intro a ha b hb
    obtain ⟨i, hi, rfl⟩ := List.mem_map.1 ha
    obtain ⟨j, hj, rfl⟩ := List.mem_map.1 hb
    have hi := List.mem_range.1 hi
    have hj := List.mem_range.1 hj
    exact let_nam i (by omega) j (by omega)

theorem known_let {m : Mk} (h : m.Good) {i : Nat} (hi : i < m.puts.length) : (cnt (givenB (pM m)) (letB i) == 0) = false := by
  have : 0 < cnt (givenB (pM m)) (letB i) := by
    rw [cnt_pos, List.any_eq_true]
    exact ⟨letB i, by rw [given_words h]; exact List.mem_append_left _ (List.mem_map.2 ⟨i, List.mem_range.2 hi, rfl⟩), by simp⟩
  rw [beq_eq_false_iff_ne]; omega
theorem known_nam {m : Mk} (h : m.Good) {i : Nat} (hi : i < m.rules.length) : (cnt (givenB (pM m)) (namB i) == 0) = false := by
  have : 0 < cnt (givenB (pM m)) (namB i) := by
    rw [cnt_pos, List.any_eq_true]
    exact ⟨namB i, by rw [given_words h]; exact List.mem_append_right _ (List.mem_map.2 ⟨i, List.mem_range.2 hi, rfl⟩), by simp⟩
  rw [beq_eq_false_iff_ne]; omega

theorem pM_mem {m : Mk} (h : m.Good) {x : Ln} (hx : x ∈ pM m) : ∃ ws ∈ linesM m, x.2.1 = shapeOf (ws.map ba) ∧ x.2.2 = ws.map ba := by
  rw [pM_eq h] at hx
  obtain ⟨⟨a, l⟩, hy, rfl⟩ := List.mem_map.1 hx
  have := (List.of_mem_zip hy).2
  obtain ⟨ws, hw, rfl⟩ := List.mem_map.1 this
  exact ⟨ws, hw, rfl, rfl⟩

theorem no_unk {m : Mk} (h : m.Good) : ∀ x ∈ pM m, lineUnk (givenB (pM m)) x = false := by
  intro x hx
  have ht6 := h.t6
  obtain ⟨ws, hw, e1, e2⟩ := pM_mem h hx
  unfold lineUnk
  rw [e1, e2]
  rcases mem_lines h hw with ⟨i, hi, rfl⟩ | ⟨i, j, hi, hj, hne, h0, rfl⟩ | ⟨n, rs, hn, rfl⟩
  · rw [tokLine_ba, (tok_line (by omega) (getD_in h.p1 hi) (getD_in h.d1 (by rw [h.dl]; exact hi))).2]
    rfl
  · rw [swpLine_ba, (swp_line (by omega) (by omega) ⟨h0, swpOf_le h i j⟩).2]
    have e : usesB 1 [ba [115, 119, 97, 112], letB i, letB j, digB (swpOf m i j)] = [letB i, letB j] := rfl
    have e3 : ((nth [ba [115, 119, 97, 112], letB i, letB j, digB (swpOf m i j)] 1).toList == (nth [ba [115, 119, 97, 112], letB i, letB j, digB (swpOf m i j)] 2).toList) = false := by
      show ((letB i).toList == (letB j).toList) = false
      rw [let_ne i (by omega) j (by omega), decide_eq_false hne]
    rw [e, e3]
    simp only [List.any_cons, List.any_nil, known_let h hi, known_let h hj]
    rfl
  · rw [(rul_line h hn).2]
    have e : usesB 2 ((rulLine n rs).map ba) = (rs.map fun r => r.map wordP).flatten := by
      unfold usesB
      rw [if_neg (by decide), if_pos rfl, rules_line h hn]
    rw [e]
    have e4 : ((2 : Nat) == 1) = false := rfl
    rw [e4, Bool.false_and, Bool.false_or, List.any_eq_false]
    intro u hu
    rw [List.mem_flatten] at hu
    obtain ⟨q, hq, huq⟩ := hu
    obtain ⟨r, hr, rfl⟩ := List.mem_map.1 hq
    obtain ⟨p, hp, rfl⟩ := List.mem_map.1 huq
    have hpo := h.part rs (h.rl hn).2 r hr p hp
    cases p with
    | tok t => show ¬ (cnt _ (letB t) == 0) = true; rw [known_let h hpo]; decide
    | nam k => show ¬ (cnt _ (namB k) == 0) = true; rw [known_nam h hpo]; decide

theorem bars_len : ∀ (L : List (List (List UInt8))) (b : Nat), (∀ r ∈ L, r.length ≤ b) → (bars L).length ≤ L.length * (b + 1)
  | [], b, _ => by simp [bars]
  | [r], b, h => by have := h r (by simp); simp only [bars, List.length_singleton]; omega
  | r :: q :: t, b, h => by
    have h1 := h r (by simp)
    have h2 := bars_len (q :: t) b (fun x hx => h x (by simp [hx]))
    unfold bars
    rw [List.length_append, List.length_cons, List.length_cons (a := r), Nat.succ_mul]
    omega

theorem joinW_len : ∀ (ws : List (List UInt8)) (b : Nat), (∀ w ∈ ws, w.length ≤ b) → (joinW ws).length ≤ ws.length * (b + 1)
  | [], b, _ => by simp [joinW]
  | [w], b, h => by have := h w (by simp); simp only [joinW, List.length_singleton]; omega
  | w :: v :: r, b, h => by
    have h1 := h w (by simp)
    have h2 := joinW_len (v :: r) b (fun x hx => h x (by simp [hx]))
    unfold joinW
    rw [List.length_append, List.length_cons, List.length_cons (a := w), Nat.succ_mul]
    omega

theorem joinW_one (ws : List (List UInt8)) (h : ∀ w ∈ ws, w.length = 1) : (joinW ws).length ≤ ws.length * 2 := joinW_len ws 1 (fun w hw => Nat.le_of_eq (h w hw))

theorem rulLine_len {m : Mk} (h : m.Good) {n : Nat} {rs : List (List Pt)} (hn : m.rules[n]? = some rs) : (joinW (rulLine n rs)).length ≤ 90 := by
  have hmem := (h.rl hn).2
  have hc := (h.c1 rs hmem).2
  have ht6 := h.t6
  have hb := bars_len (rs.map fun r => r.map wB) 5 (fun r hr => by
    obtain ⟨q, hq, rfl⟩ := List.mem_map.1 hr
    obtain ⟨k, hk, rfl⟩ := List.mem_iff_getElem.1 hq
    have := (h.head rs hmem k _ (List.getElem?_eq_getElem hk)).2
    simpa using this)
  have hb2 : (bars (rs.map fun r => r.map wB)).length ≤ 36 := by
    rw [List.length_map] at hb
    have : rs.length * (5 + 1) ≤ 6 * 6 := Nat.mul_le_mul (by omega) (by omega)
    omega
  have h1 : ∀ w ∈ wB (.nam n) :: [61] :: bars (rs.map fun r => r.map wB), w.length = 1 := by
    intro w hw
    rcases List.mem_cons.1 hw with rfl | hw
    · rfl
    · rcases List.mem_cons.1 hw with rfl | hw
      · rfl
      · rcases mem_bars hw with rfl | ⟨r, hr, hwr⟩
        · rfl
        · obtain ⟨q, _, rfl⟩ := List.mem_map.1 hr
          obtain ⟨p, _, rfl⟩ := List.mem_map.1 hwr
          cases p <;> rfl
  have h2 := joinW_one _ h1
  have e : joinW (rulLine n rs) = [114, 117, 108, 101] ++ 32 :: joinW (wB (.nam n) :: [61] :: bars (rs.map fun r => r.map wB)) := rfl
  rw [e, List.length_append, List.length_cons]
  simp only [List.length_cons] at h2 ⊢
  simp only [List.length_nil]
  omega

theorem text_small {m : Mk} (h : m.Good) : (textM m).size ≤ 4000 := by
  have ht6 := h.t6
  have hn4 := h.n4
  have e : (textM m).size = (joinL ((linesM m).map joinW)).length := by simp [textM, ba, ByteArray.size]
  rw [e]
  unfold joinL linesM
  rw [List.map_append, List.flatMap_append, List.length_append]
  have h1 : (((List.range m.puts.length).flatMap (tokLines m)).map joinW).flatMap (fun l => l ++ [10]) = (List.range m.puts.length).flatMap fun i => ((tokLines m i).map joinW).flatMap fun l => l ++ [10] := by
    rw [List.map_flatMap, List.flatMap_assoc]
  have h2 : ((List.range m.puts.length).flatMap fun i => ((tokLines m i).map joinW).flatMap fun l => l ++ [10]).length ≤ (List.range m.puts.length).length * 84 := flat_len_le fun i hi => by
    unfold tokLines
    rw [List.map_cons, List.flatMap_cons, List.length_append, List.map_flatMap, List.flatMap_assoc]
    have h3 : ((List.range m.puts.length).flatMap fun j => ((if 0 < swpOf m i j then [swpLine i j (swpOf m i j)] else []).map joinW).flatMap fun l => l ++ [10]).length ≤ (List.range m.puts.length).length * 11 := flat_len_le fun j hj => by
      split
      · simp [swpLine, joinW, wB]
      · simp
    have h4 : (joinW (tokLine i (m.puts.getD i 0) (m.drops.getD i 0)) ++ [10]).length = 12 := by simp [tokLine, joinW, wB]
    rw [List.length_range] at h3
    have : m.puts.length * 11 ≤ 66 := by omega
    omega
  have h5 : ((m.rules.zipIdx.map fun x => rulLine x.2 x.1).map joinW).flatMap (fun l => l ++ [10]) = m.rules.zipIdx.flatMap fun x => joinW (rulLine x.2 x.1) ++ [10] := by
    rw [List.map_map, List.flatMap_map]; rfl
  have h6 : (m.rules.zipIdx.flatMap fun x => joinW (rulLine x.2 x.1) ++ [10]).length ≤ m.rules.zipIdx.length * 91 := flat_len_le fun x hx => by
    have := rulLine_len h (List.mem_zipIdx_iff_getElem?.1 hx)
    rw [List.length_append, List.length_singleton]
    omega
  rw [h1, h5]
  rw [List.length_range] at h2
  rw [List.length_zipIdx] at h6
  have : m.puts.length * 84 ≤ 504 := by omega
  have : m.rules.length * 91 ≤ 364 := by omega
  omega

/-- The text is a grammar. -/
theorem read_text {m : Mk} (h : m.Good) : (readB (textM m)).1 = 0 := by
  have hp : progB (textM m) = (0, 0) := by
    have hs := text_small h
    unfold progB
    rw [if_neg (by omega), if_neg (by rw [scan_text h]; simp)]
    show (match twiceB (pM m) [] with
      | some a => (3, (a : Int))
      | none => match manyB (pM m) 0 0 0 with
        | some a => (4, (a : Int))
        | none => if (pM m).any (fun x => x.2.1 == 2) then (match unkL (givenB (pM m)) (pM m) with
            | some a => (5, (a : Int))
            | none => (0, 0))
          else (4, ((textM m).size : Int)) : Int × Int) = (0, 0)
    rw [twice_none (pM m) [] (given_pair h), many_of (pM m) 0 0 0 (by rw [tokLs_len h]; have := h.t6; omega) (by rw [namLs_len h]; have := h.n4; omega) ?_ ?_, unk_of (no_unk h)]
    · have : (pM m).any (fun x => x.2.1 == 2) = true := by
        rw [List.any_eq_true]
        have hl := namLs_len h
        have h1 := h.n1
        obtain ⟨x, hx⟩ := List.exists_mem_of_length_pos (show 0 < (namLs (pM m)).length by omega)
        exact ⟨x, (List.mem_filter.1 hx).1, (List.mem_filter.1 hx).2⟩
      simp [this]
    · have h1 : ((namLs (pM m)).flatMap fun x => rulesL x.2.2).length ≤ (namLs (pM m)).length * 6 := flat_len_le fun x hx => by
        obtain ⟨n, rs, hn, e⟩ := namLs_mem h hx
        rw [e, rules_line h hn, List.length_map]
        have := (h.c1 rs (h.rl hn).2).2
        have := h.t6
        omega
      rw [namLs_len h] at h1
      have := h.n4
      have : m.rules.length * 6 ≤ 24 := by omega
      omega
    · intro x hx
      obtain ⟨n, rs, hn, e⟩ := namLs_mem h hx
      rw [e, rules_line h hn]
      refine long_of fun r hr => ?_
      obtain ⟨q, hq, rfl⟩ := List.mem_map.1 hr
      obtain ⟨k, hk, rfl⟩ := List.mem_iff_getElem.1 hq
      have := (h.head rs (h.rl hn).2 k _ (List.getElem?_eq_getElem hk)).2
      rw [List.length_map]
      omega
  have := prog_same (textM m)
  rw [hp] at this
  injection this with h1 h2
  exact h1.symm

theorem gok_text {m : Mk} (h : m.Good) : GOk (pM m) (readB (textM m)).2.2 := gok_of _ (read_text h)

end Go.Proofs.YtjjggdcnpndgjaaGreatDoor

namespace Go.Proofs.YtjjggdcnpndgjaaGreatDoor
open Go.RowKit

def ngM (m : Mk) : NG where
  nT := m.puts.length
  nN := m.rules.length
  put := fun t => m.puts.getD t 0
  drop := fun t => m.drops.getD t 0
  swp := swpOf m
  rules := m.rules.zipIdx.flatMap fun x => x.1.map fun ps => (x.2, ps)

theorem mem_ngM {m : Mk} {r : Nat × List Pt} : r ∈ (ngM m).rules ↔ ∃ rs, m.rules[r.1]? = some rs ∧ r.2 ∈ rs := by
  show r ∈ m.rules.zipIdx.flatMap (fun x => x.1.map fun ps => (x.2, ps)) ↔ _
  rw [List.mem_flatMap]
  constructor
  · rintro ⟨⟨rs, n⟩, hx, hr⟩
    obtain ⟨ps, hps, rfl⟩ := List.mem_map.1 hr
    exact ⟨rs, List.mem_zipIdx_iff_getElem?.1 hx, hps⟩
  · rintro ⟨rs, h1, h2⟩
    exact ⟨(rs, r.1), List.mem_zipIdx_iff_getElem?.2 h1, List.mem_map.2 ⟨r.2, h2, rfl⟩⟩

theorem mk_mem {m : Mk} {n : Nat} {rs : List (List Pt)} (h : m.rules[n]? = some rs) : n < m.rules.length ∧ rs ∈ m.rules := by
  obtain ⟨h1, h2⟩ := List.getElem?_eq_some_iff.1 h
  exact ⟨h1, h2 ▸ List.getElem_mem h1⟩

theorem Mk.Good.beg {m : Mk} (h : m.Good) {rs : List (List Pt)} (hrs : rs ∈ m.rules) {r : List Pt} (hr : r ∈ rs) : ∃ k ps, k < rs.length ∧ r = .tok k :: ps ∧ r.length ≤ 5 := by
  obtain ⟨k, hk, rfl⟩ := List.mem_iff_getElem.1 hr
  obtain ⟨h1, h2⟩ := h.head rs hrs k _ (List.getElem?_eq_getElem hk)
  revert h1 h2
  generalize rs[k] = q
  intro h1 h2
  cases q with
  | nil => cases h1
  | cons a t => injection h1 with h1; subst h1; exact ⟨k, t, hk, rfl, h2⟩

theorem Mk.Good.put_at {m : Mk} (h : m.Good) {t : Nat} (ht : t < m.puts.length) : 1 ≤ m.puts.getD t 0 ∧ m.puts.getD t 0 ≤ 9 := by
  rw [List.getD_eq_getElem?_getD, List.getElem?_eq_getElem ht]
  exact h.p1 _ (List.getElem_mem ht)

theorem Mk.Good.drop_at {m : Mk} (h : m.Good) {t : Nat} (ht : t < m.puts.length) : 1 ≤ m.drops.getD t 0 ∧ m.drops.getD t 0 ≤ 9 := by
  rw [List.getD_eq_getElem?_getD, List.getElem?_eq_getElem (by rw [h.dl]; exact ht)]
  exact h.d1 _ (List.getElem_mem _)

theorem Mk.Good.swp_le {m : Mk} (h : m.Good) (i j : Nat) : swpOf m i j ≤ 9 := by
  unfold swpOf
  simp only [List.getD_eq_getElem?_getD]
  cases hi : m.swaps[i]? with
  | none => simp
  | some r =>
    simp only [Option.getD_some]
    cases hj : r[j]? with
    | none => simp
    | some x => exact h.s1 r (List.mem_of_getElem? hi) x (List.mem_of_getElem? hj)

theorem ngM_ok {m : Mk} (h : m.Good) : (ngM m).Ok where
  pos := h.n1
  lt := fun r hr => by
    obtain ⟨rs, h1, _⟩ := mem_ngM.1 hr
    exact (mk_mem h1).1
  pn := fun r hr n hn => by
    obtain ⟨rs, h1, h2⟩ := mem_ngM.1 hr
    exact h.part rs (mk_mem h1).2 r.2 h2 _ hn
  pt := fun r hr t ht => by
    obtain ⟨rs, h1, h2⟩ := mem_ngM.1 hr
    exact h.part rs (mk_mem h1).2 r.2 h2 _ ht
  put1 := fun t ht => (h.put_at ht).1
  put2 := fun t ht => by have := (h.put_at ht).2; show m.puts.getD t 0 ≤ 99; omega
  drop1 := fun t ht => (h.drop_at ht).1
  drop2 := fun t ht => by have := (h.drop_at ht).2; show m.drops.getD t 0 ≤ 99; omega
  swp2 := fun t u => by have := h.swp_le t u; show swpOf m t u ≤ 99; omega
  parts := fun r hr => by
    obtain ⟨rs, h1, h2⟩ := mem_ngM.1 hr
    obtain ⟨k, ps, _, _, h3⟩ := h.beg (mk_mem h1).2 h2
    omega

/-- A name's last rule. -/
theorem Mk.Good.lastR {m : Mk} (h : m.Good) {n : Nat} (hn : n < m.rules.length) : ∃ r, (n, r) ∈ (ngM m).rules ∧ (∀ p ∈ r, ∃ t, p = .tok t) ∧ r.length ≤ 5 := by
  obtain ⟨rs, hrs⟩ : ∃ rs, m.rules[n]? = some rs := ⟨_, List.getElem?_eq_getElem hn⟩
  have hm := (mk_mem hrs).2
  have h1 := h.c1 rs hm
  have hne : rs ≠ [] := by intro e; subst e; simp at h1
  have hl : rs.getLast? = some (rs.getLast hne) := List.getLast?_eq_some_getLast hne
  have hmem := List.getLast_mem hne
  obtain ⟨_, _, _, _, h3⟩ := h.beg hm hmem
  exact ⟨_, mem_ngM.2 ⟨rs, hrs, hmem⟩, h.last rs hm _ hl, h3⟩

theorem nul_none {m : Mk} (h : m.Good) (n : Nat) : bAt (closedN (ngM m) false) n = false := by
  have hl := (closedN_lfp (ngM m) (ngM_ok h) false).1
  have := hl.2 (fun _ => false) (fun r hr he => by
    obtain ⟨rs, h1, h2⟩ := mem_ngM.1 hr
    obtain ⟨k, ps, _, e, _⟩ := h.beg (mk_mem h1).2 h2
    rw [e] at he
    simp [eachB] at he) n
  cases hb : bAt (closedN (ngM m) false) n with
  | false => rfl
  | true => exact absurd (this hb) (by decide)

theorem end_all {m : Mk} (h : m.Good) {n : Nat} (hn : n < (ngM m).nN) : bAt (closedN (ngM m) true) n = true := by
  have hl := (closedN_lfp (ngM m) (ngM_ok h) true).1
  obtain ⟨r, hr, ht, _⟩ := h.lastR hn
  refine hl.1 (n, r) hr ?_
  unfold eachB
  rw [List.all_eq_true]
  intro p hp
  obtain ⟨t, rfl⟩ := ht p hp
  rfl

theorem found_all {m : Mk} (h : m.Good) : ∀ {n : Nat}, n < (ngM m).nN → bAt (foundN (ngM m)) n = true := by
  have hl := (foundN_lfp (ngM m) (ngM_ok h)).1.1
  intro n
  induction n with
  | zero => intro _; exact hl.1
  | succ n ih =>
    intro hn
    have hn' : n + 1 < m.rules.length := hn
    obtain ⟨rs, hrs⟩ : ∃ rs, m.rules[n]? = some rs := ⟨_, List.getElem?_eq_getElem (by omega)⟩
    obtain ⟨r, hr, hm⟩ := h.reach n rs hrs hn'
    have hin : r ∈ rs := by
      obtain ⟨h1, h2⟩ := List.getElem?_eq_some_iff.1 hr
      exact h2 ▸ List.getElem_mem h1
    exact hl.2 (n, r) (mem_ngM.2 ⟨rs, hrs, hin⟩) (ih (by show n < m.rules.length; omega)) (n + 1) hm

theorem sum_toks {m : Mk} (h : m.Good) (f : Nat → Nat) : ∀ r : List Pt, (∀ p ∈ r, ∃ t, p = .tok t) → (∀ p ∈ r, partOk m.puts.length m.rules.length p) → sumF (ngM m) f r ≤ r.length * 9
  | [], _, _ => Nat.le_refl _
  | .tok t :: r, h1, h2 => by
    have h3 : t < m.puts.length := h2 (.tok t) (by simp)
    have h4 := (h.put_at h3).2
    have ih := sum_toks h f r (fun p hp => h1 p (by simp [hp])) (fun p hp => h2 p (by simp [hp]))
    rw [List.length_cons, Nat.succ_mul]
    show m.puts.getD t 0 + sumF (ngM m) f r ≤ _
    omega
  | .nam n :: r, h1, _ => by
    obtain ⟨t, ht⟩ := h1 (.nam n) (by simp)
    cases ht

theorem least_small {m : Mk} (h : m.Good) {n : Nat} (hn : n < (ngM m).nN) : lAt (leastsN (ngM m)) n ≤ 45 := by
  have hl := (leastsN_gfp (ngM m) (ngM_ok h)).1
  obtain ⟨r, hr, ht, h5⟩ := h.lastR hn
  have h1 : lAt (leastsN (ngM m)) n ≤ sumF (ngM m) (lAt (leastsN (ngM m))) r := hl.2.1 (n, r) hr
  obtain ⟨rs, h2, h3⟩ := mem_ngM.1 hr
  have h4 := sum_toks h (lAt (leastsN (ngM m))) r ht (h.part rs (mk_mem h2).2 r h3)
  omega

theorem waste_none {m : Mk} (h : m.Good) (G : Gr) : wasteB G (ngM m) = (ByteArray.empty, 0) := by
  unfold wasteB
  rw [offAt_none (fun j hj => end_all h hj), offAt_none (fun j hj => found_all h hj), offAt_none (fun j hj => by
    have := least_small h hj
    exact decide_eq_true (by omega))]

theorem heads_are {m : Mk} (h : m.Good) {n : Nat} {rs : List (List Pt)} (hn : m.rules[n]? = some rs) (t : Nat) :
    bAt (mAt (headsN (ngM m) (bAt (closedN (ngM m) false))) n) t = decide (t < rs.length) := by
  have hl := (headsN_lfp (ngM m) (ngM_ok h) (bAt (closedN (ngM m) false))).2 t
  show col _ t n = _
  rw [Bool.eq_iff_iff, decide_eq_true_eq]
  constructor
  · intro hc
    have := hl.2 (fun i => decide (t < (m.rules.getD i []).length)) (fun r hr he => by
      obtain ⟨qs, h1, h2⟩ := mem_ngM.1 hr
      obtain ⟨k, ps, hk, e, _⟩ := h.beg (mk_mem h1).2 h2
      rw [e] at he
      have hkt : (k == t) = true := he
      rw [beq_iff_eq] at hkt
      subst hkt
      rw [decide_eq_true_eq, List.getD_eq_getElem?_getD, h1]
      exact hk) n hc
    rw [decide_eq_true_eq, List.getD_eq_getElem?_getD, hn] at this
    exact this
  · intro ht
    have hm := (mk_mem hn).2
    obtain ⟨h1, _⟩ := h.head rs hm t _ (List.getElem?_eq_getElem ht)
    refine hl.1 (n, rs[t]) (mem_ngM.2 ⟨rs, hn, List.getElem_mem ht⟩) ?_
    revert h1
    generalize rs[t] = q
    intro h1
    cases q with
    | nil => cases h1
    | cons a b => injection h1 with h1; subst h1; simp [begT]

theorem end_follows {m : Mk} (h : m.Good) (H : List (List Bool)) (hH : MOk (ngM m) H) (E : Nat → Bool) : bAt (mAt (tailsN (ngM m) H E) 0) m.puts.length = true := by
  have hl := (tailsN_lfp (ngM m) (ngM_ok h) H hH E).2 m.puts.length
  exact hl.1.1 rfl

end Go.Proofs.YtjjggdcnpndgjaaGreatDoor

namespace Go.Proofs.YtjjggdcnpndgjaaGreatDoor
open Go.RowKit

theorem fIdx_map {g : Nat → ByteArray} {k i : Nat} (hi : i < k) (h : ∀ j, j < k → ((g j).toList == (g i).toList) = decide (j = i)) : fIdx ((List.range k).map g) (g i) = some i := by
  unfold fIdx
  rw [List.findIdx?_eq_some_iff_getElem]
  refine ⟨by simpa using hi, ?_, ?_⟩
  · simp only [List.getElem_map, List.getElem_range]
    rw [h i hi]; simp
  · intro j hj
    simp only [List.getElem_map, List.getElem_range]
    rw [h j (by omega), decide_eq_false (by omega)]
    decide

theorem fIdx_no {g : Nat → ByteArray} {k : Nat} {s : ByteArray} (h : ∀ j, j < k → ((g j).toList == s.toList) = false) : fIdx ((List.range k).map g) s = none := by
  unfold fIdx
  rw [List.findIdx?_eq_none_iff]
  intro x hx
  obtain ⟨j, hj, rfl⟩ := List.mem_map.1 hx
  exact h j (List.mem_range.1 hj)

def grM (m : Mk) : Gr := (readB (textM m)).2.2

theorem zip_names (m : Mk) : (m.rules.zipIdx.map fun x => namB x.2) = (List.range m.rules.length).map namB := by
  apply List.ext_getElem?
  intro i
  rw [List.getElem?_map, List.getElem?_map]
  by_cases hi : i < m.rules.length
  · rw [List.getElem?_zipIdx, List.getElem?_eq_getElem hi, List.getElem?_range hi]
    simp
  · rw [List.getElem?_eq_none (by simp; omega), List.getElem?_eq_none (by simp; omega)]; rfl

theorem names_text {m : Mk} (h : m.Good) : (grM m).names = (List.range m.rules.length).map namB := by
  have e := (gok_text h).g.names
  have e2 := namLs_words h (fun ws => nth ws 1)
  rw [e2] at e
  exact e.trans (zip_names m)

theorem twsL_text {m : Mk} (h : m.Good) : twsL (pM m) = (List.range m.puts.length).map letB := by
  unfold twsL
  rw [tokLs_words h (fun ws => nth ws 1)]
  rfl

theorem tws_text {m : Mk} (h : m.Good) : tokWs (grM m).toks = (List.range m.puts.length).map letB := (gok_text h).tws.trans (twsL_text h)

theorem code_part {m : Mk} (h : m.Good) {p : Pt} (hp : partOk m.puts.length m.rules.length p) : ptC (codeL (pM m) (wordP p)) = p := by
  have ht6 := h.t6
  have hn4 := h.n4
  have hc := (gok_text h).g.code (wordP p)
  have en : (readB (textM m)).2.2.names = (List.range m.rules.length).map namB := names_text h
  have et : tokWs (readB (textM m)).2.2.toks = (List.range m.puts.length).map letB := tws_text h
  rw [en, et] at hc
  rw [hc]
  cases p with
  | tok t =>
    have hp : t < m.puts.length := hp
    have e1 : fIdx ((List.range m.rules.length).map namB) (wordP (.tok t)) = none := fIdx_no fun j hj => by
      have := let_nam t (by omega) j (by omega)
      show ((namB j).toList == (letB t).toList) = false
      rw [beq_eq_false_iff_ne] at this ⊢
      exact fun e => this e.symm
    have e2 : fIdx ((List.range m.puts.length).map letB) (wordP (.tok t)) = some t := fIdx_map hp fun j hj => let_ne j (by omega) t (by omega)
    rw [e1, e2]
    exact ptC_tok t
  | nam k =>
    have hp : k < m.rules.length := hp
    have e1 : fIdx ((List.range m.rules.length).map namB) (wordP (.nam k)) = some k := fIdx_map hp fun j hj => nam_ne j (by omega) k (by omega)
    rw [e1]
    exact ptC_nam k

theorem pgL_text {m : Mk} (h : m.Good) : pgL (codeL (pM m)) (pM m) = m.rules.zipIdx.map fun x => (namB x.2, x.1) := by
  unfold pgL
  have e := namLs_words h (fun ws => ((nth ws 1, (rulesL ws).map fun r => r.map fun w => ptC (codeL (pM m) w)) : Nm))
  have e0 : (namLs (pM m)).map (nmOf (codeL (pM m))) = (namLs (pM m)).map (fun x => ((nth x.2.2 1, (rulesL x.2.2).map fun r => r.map fun w => ptC (codeL (pM m) w)) : Nm)) := rfl
  rw [e0, e]
  refine List.map_congr_left fun x hx => ?_
  obtain ⟨rs, n⟩ := x
  have hn := List.mem_zipIdx_iff_getElem?.1 hx
  have hw : rulWd (rs, n) = (rulLine n rs).map ba := rfl
  rw [hw, rules_line h hn]
  show (namB n, _) = (namB n, rs)
  congr 1
  rw [List.map_map]
  have hid : ∀ r ∈ rs, ((fun r : List ByteArray => r.map fun w => ptC (codeL (pM m) w)) ∘ fun r : List Pt => r.map wordP) r = r := by
    intro r hr
    show (r.map wordP).map (fun w => ptC (codeL (pM m) w)) = r
    rw [List.map_map]
    have : ∀ p ∈ r, ((fun w => ptC (codeL (pM m) w)) ∘ wordP) p = p := fun p hp => code_part h (h.part rs (h.rl hn).2 r hr p hp)
    rw [List.map_congr_left this, List.map_id']
  rw [List.map_congr_left hid, List.map_id']

theorem zipIdx_pair {α β : Type} (g : Nat → β) : ∀ (l : List α) (k : Nat), ((l.zipIdx k).map fun x => (g x.2, x.1)).zipIdx k = (l.zipIdx k).map fun x => ((g x.2, x.1), x.2)
  | [], _ => rfl
  | a :: l, k => by
    rw [List.zipIdx_cons, List.map_cons, List.zipIdx_cons, List.map_cons, zipIdx_pair g l (k + 1)]

theorem code_let {m : Mk} (h : m.Good) {t : Nat} (hp : t < m.puts.length) : codeL (pM m) (letB t) = 2 * (t : Int) := by
  have ht6 := h.t6
  have hn4 := h.n4
  have hc := (gok_text h).g.code (letB t)
  have en : (readB (textM m)).2.2.names = (List.range m.rules.length).map namB := names_text h
  have et : tokWs (readB (textM m)).2.2.toks = (List.range m.puts.length).map letB := tws_text h
  rw [en, et] at hc
  have e1 : fIdx ((List.range m.rules.length).map namB) (letB t) = none := fIdx_no fun j hj => by
    have := let_nam t (by omega) j (by omega)
    rw [beq_eq_false_iff_ne] at this ⊢
    exact fun e => this e.symm
  have e2 : fIdx ((List.range m.puts.length).map letB) (letB t) = some t := fIdx_map hp fun j hj => let_ne j (by omega) t (by omega)
  rw [e1, e2] at hc
  exact hc

theorem swpOf_in {m : Mk} (h : m.Good) {t u : Nat} (h0 : swpOf m t u ≠ 0) : t < m.puts.length ∧ u < m.puts.length := by
  unfold swpOf at h0
  simp only [List.getD_eq_getElem?_getD] at h0
  cases hi : m.swaps[t]? with
  | none => rw [hi] at h0; simp at h0
  | some r =>
    rw [hi] at h0
    simp only [Option.getD_some] at h0
    have h1 := (List.getElem?_eq_some_iff.1 hi).1
    have h2 := h.srow r (List.mem_of_getElem? hi)
    cases hj : r[u]? with
    | none => rw [hj] at h0; simp at h0
    | some x =>
      have h3 := (List.getElem?_eq_some_iff.1 hj).1
      rw [h.sl] at h1
      omega

/-- What changing a token costs, by the text's lines. -/
theorem swp_text {m : Mk} (h : m.Good) (t u : Nat) : swpF (codeL (pM m)) (pM m) t u = swpOf m t u := by
  have ht6 := h.t6
  refine swpF_of (fun x hx h1 h2 h3 => ?_) (fun h0 => ?_)
  · have hm : (x.2.1, x.2.2) ∈ (pM m).map (fun x => (x.2.1, x.2.2)) := List.mem_map.2 ⟨x, hx, rfl⟩
    rw [pM_map h (fun a b => (a, b))] at hm
    obtain ⟨ws, hws, e⟩ := List.mem_map.1 hm
    unfold wordsM at hws
    obtain ⟨ls, hl, rfl⟩ := List.mem_map.1 hws
    injection e with e1 e2
    rw [h1] at e1
    rw [← e2] at h2 h3 ⊢
    rcases mem_lines h hl with ⟨i, hi, rfl⟩ | ⟨i, j, hi, hj, hne, h0, rfl⟩ | ⟨n, rs, hn, rfl⟩
    · have := tokWd_shape h hi
      unfold tokWd at this
      rw [this] at e1; cases e1
    · rw [swpLine_ba] at h2 h3 ⊢
      have h2 : codeL (pM m) (letB i) = 2 * (t : Int) := h2
      have h3 : codeL (pM m) (letB j) = 2 * (u : Int) := h3
      rw [code_let h hi] at h2
      rw [code_let h hj] at h3
      obtain rfl : i = t := by omega
      obtain rfl : j = u := by omega
      have hc := swpOf_le h i j
      show (valD (digB (swpOf m i j)).data.toList).toNat = _
      rw [dig_val _ (by omega)]
      rfl
    · have := (rul_line h hn).2
      rw [this] at e1; cases e1
  · obtain ⟨ht, hu⟩ := swpOf_in h h0
    have hl : swpLine t u (swpOf m t u) ∈ linesM m := by
      unfold linesM
      refine List.mem_append_left _ (List.mem_flatMap.2 ⟨t, List.mem_range.2 ht, ?_⟩)
      unfold tokLines
      refine List.mem_cons_of_mem _ (List.mem_flatMap.2 ⟨u, List.mem_range.2 hu, ?_⟩)
      rw [if_pos (by omega)]
      exact List.mem_singleton.2 rfl
    have hm : (1, (swpLine t u (swpOf m t u)).map ba) ∈ (wordsM m).map fun ws => (shapeOf ws, ws) := by
      refine List.mem_map.2 ⟨_, List.mem_map.2 ⟨_, hl, rfl⟩, ?_⟩
      rw [swpLine_ba, (swp_line (by omega) (by omega) ⟨by omega, swpOf_le h t u⟩).2]
    rw [← pM_map h (fun a b => (a, b))] at hm
    obtain ⟨x, hx, e⟩ := List.mem_map.1 hm
    injection e with e1 e2
    refine ⟨x, hx, e1, ?_, ?_⟩
    · rw [e2, swpLine_ba]; exact code_let h ht
    · rw [e2, swpLine_ba]; exact code_let h hu

theorem ngL_text {m : Mk} (h : m.Good) : ngL (pM m) = ngM m := by
  have ht6 := h.t6
  have e1 : (twsL (pM m)).length = m.puts.length := by rw [twsL_text h]; simp
  have e2 : (pgL (codeL (pM m)) (pM m)).length = m.rules.length := by rw [pgL_text h]; simp
  have e3 : (fun t => (((tokLs (pM m))[t]?.map fun x => valD (nth x.2.2 2).data.toList).getD 0).toNat) = fun t => m.puts.getD t 0 := by
    funext t
    have e := congrArg (fun l => l[t]?) (tokLs_words h (fun ws => valD (nth ws 2).data.toList))
    simp only [List.getElem?_map] at e
    rw [e]
    by_cases ht : t < m.puts.length
    · rw [List.getElem?_range ht, Option.map_some, Option.getD_some]
      have hv := h.put_at ht
      have : nth (tokWd m t) 2 = digB (m.puts.getD t 0) := rfl
      rw [this, dig_val _ (by omega)]
      rfl
    · rw [List.getElem?_eq_none (by simp; omega), List.getD_eq_getElem?_getD, List.getElem?_eq_none (by omega)]
      rfl
  have e4 : rulN (pgL (codeL (pM m)) (pM m)) = (ngM m).rules := by
    rw [pgL_text h]
    unfold rulN
    rw [zipIdx_pair namB m.rules 0, List.flatMap_map]
    rfl
  have e5 : (fun t => (((tokLs (pM m))[t]?.map fun x => valD (nth x.2.2 3).data.toList).getD 0).toNat) = fun t => m.drops.getD t 0 := by
    funext t
    have e := congrArg (fun l => l[t]?) (tokLs_words h (fun ws => valD (nth ws 3).data.toList))
    simp only [List.getElem?_map] at e
    rw [e]
    by_cases ht : t < m.puts.length
    · rw [List.getElem?_range ht, Option.map_some, Option.getD_some]
      have hv := h.drop_at ht
      have : nth (tokWd m t) 3 = digB (m.drops.getD t 0) := rfl
      rw [this, dig_val _ (by omega)]
      rfl
    · rw [List.getElem?_eq_none (by simp; omega), List.getD_eq_getElem?_getD, List.getElem?_eq_none (by rw [h.dl]; omega)]
      rfl
  have e6 : swpF (codeL (pM m)) (pM m) = swpOf m := by funext t u; exact swp_text h t u
  unfold ngL
  rw [e1, e2, e3, e4, e5, e6]
  rfl

theorem name_text {m : Mk} (h : m.Good) {n : Nat} (hn : n < m.rules.length) : nth (grM m).names n = namB n := by
  rw [names_text h]
  unfold nth
  rw [List.getD_eq_getElem?_getD, List.getElem?_map, List.getElem?_range hn]
  rfl

theorem first_text {m : Mk} (h : m.Good) {n : Nat} {rs : List (List Pt)} (hn : m.rules[n]? = some rs) (on : List Bool) (hon : ∀ t, bAt on t = decide (t < rs.length)) :
    listB (tokWs (grM m).toks) on = (List.range rs.length).map letB := by
  have hc := h.c1 rs (mk_mem hn).2
  rw [tws_text h]
  unfold listB
  have el : ((List.range m.puts.length).map letB).length = m.puts.length := by simp
  rw [el, hon, decide_eq_false (by omega), if_neg (by decide), List.append_nil]
  have ef : (List.range m.puts.length).filter (fun t => bAt on t) = List.range rs.length := by
    have e : (fun t => bAt on t) = fun t => decide (t < rs.length) := by funext t; exact hon t
    rw [e]
    obtain ⟨d, hd⟩ : ∃ d, m.puts.length = rs.length + d := ⟨m.puts.length - rs.length, by omega⟩
    rw [hd, List.range_add, List.filter_append, List.filter_eq_self.2 (fun a ha => by have := List.mem_range.1 ha; simpa using this), List.filter_eq_nil_iff.2 (fun a ha => by
      obtain ⟨b, _, rfl⟩ := List.mem_map.1 ha
      simp), List.append_nil]
  rw [ef]
  refine List.map_congr_left fun t ht => ?_
  have ht := List.mem_range.1 ht
  unfold nth
  rw [List.getD_eq_getElem?_getD, List.getElem?_map, List.getElem?_range (by omega)]
  rfl

theorem follow_text {m : Mk} (h : m.Good) (on : List Bool) (hon : bAt on m.puts.length = true) : ∃ l, listB (tokWs (grM m).toks) on = l ++ [ByteArray.empty] := by
  rw [tws_text h]
  unfold listB
  have el : ((List.range m.puts.length).map letB).length = m.puts.length := by simp
  rw [el, hon, if_pos rfl]
  exact ⟨_, rfl⟩

/-- What Facts tells of it. -/
theorem facts_text {m : Mk} (h : m.Good) {n : Nat} {rs : List (List Pt)} (hn : m.rules[n]? = some rs) :
    (factOf (grM m) (ngM m) n).name = namB n ∧ (factOf (grM m) (ngM m) n).nul = false ∧ (factOf (grM m) (ngM m) n).first = (List.range rs.length).map letB
      ∧ (factOf (grM m) (ngM m) n).least = lAt (leastsN (ngM m)) n ∧ (n = 0 → ∃ l, (factOf (grM m) (ngM m) n).follow = l ++ [ByteArray.empty]) := by
  refine ⟨name_text h (mk_mem hn).1, nul_none h n, first_text h hn _ (heads_are h hn), rfl, fun e => ?_⟩
  subst e
  exact follow_text h _ (end_follows h _ (headsN_lfp (ngM m) (ngM_ok h) _).1 _)

end Go.Proofs.YtjjggdcnpndgjaaGreatDoor

namespace Go.Proofs.YtjjggdcnpndgjaaGreatDoor
open Go.RowKit

def cStep (N : NG) (l : List Nat) (r : Nat × List Pt) : List Nat := if sumF N (lAt l) r.2 < lAt l r.1 then l.set r.1 (sumF N (lAt l) r.2) else l
def cRound (N : NG) (l : List Nat) : List Nat := N.rules.foldl (cStep N) l
/-- cheapest. -/
def cheapN (N : NG) : List Nat := iter (cRound N) (N.nN + 1) (List.replicate N.nN 1000)

theorem cStep_len (N : NG) (l : List Nat) (r : Nat × List Pt) : (cStep N l r).length = l.length := by unfold cStep; split <;> simp

theorem sumF_le {N : NG} {f g : Nat → Nat} : ∀ {ps : List Pt}, (∀ n, .nam n ∈ ps → f n ≤ g n) → sumF N f ps ≤ sumF N g ps
  | [], _ => Nat.le_refl _
  | .tok t :: ps, h => by
    have := sumF_le (N := N) (ps := ps) (fun n hn => h n (by simp [hn]))
    show N.put t + _ ≤ N.put t + _
    omega
  | .nam n :: ps, h => by
    have h1 := sumF_le (N := N) (ps := ps) (fun n hn => h n (by simp [hn]))
    have h2 := h n (by simp)
    show f n + _ ≤ g n + _
    omega

theorem sumF_eq {N : NG} {f g : Nat → Nat} {ps : List Pt} (h : ∀ n, .nam n ∈ ps → f n = g n) : sumF N f ps = sumF N g ps :=
  Nat.le_antisymm (sumF_le fun n hn => Nat.le_of_eq (h n hn)) (sumF_le fun n hn => Nat.le_of_eq (h n hn).symm)

theorem sumF_mem {N : NG} {f : Nat → Nat} : ∀ {ps : List Pt} {n : Nat}, .nam n ∈ ps → f n ≤ sumF N f ps
  | [], _, h => by cases h
  | .tok t :: ps, n, h => by
    have h' : Pt.nam n ∈ ps := by simpa using h
    have := sumF_mem (N := N) (f := f) h'
    show f n ≤ N.put t + _
    omega
  | .nam k :: ps, n, h => by
    show f n ≤ f k + _
    rcases List.mem_cons.1 h with e | h'
    · injection e with e; subst e; omega
    · have := sumF_mem (N := N) (f := f) h'
      omega

/-- Rounds never rise, and each rule's left is at most what its right was. -/
theorem cFold (N : NG) : ∀ (rs : List (Nat × List Pt)) (l : List Nat), (∀ r ∈ rs, r.1 < l.length) →
    (rs.foldl (cStep N) l).length = l.length ∧ (∀ n, lAt (rs.foldl (cStep N) l) n ≤ lAt l n) ∧ ∀ r ∈ rs, lAt (rs.foldl (cStep N) l) r.1 ≤ sumF N (lAt l) r.2
  | [], l, _ => ⟨rfl, fun _ => Nat.le_refl _, fun r hr => by cases hr⟩
  | a :: rs, l, h => by
    have hlen := cStep_len N l a
    have ih := cFold N rs (cStep N l a) (fun r hr => by rw [hlen]; exact h r (by simp [hr]))
    have ha := h a (by simp)
    have h1 : ∀ n, lAt (cStep N l a) n ≤ lAt l n := by
      intro n
      unfold cStep
      split
      · rename_i hlt
        rw [lAt_set]
        split
        · rename_i e; rw [← e.1]; omega
        · exact Nat.le_refl _
      · exact Nat.le_refl _
    have h2 : lAt (cStep N l a) a.1 ≤ sumF N (lAt l) a.2 := by
      unfold cStep
      split
      · rw [lAt_set, if_pos ⟨rfl, ha⟩]; exact Nat.le_refl _
      · omega
    rw [List.foldl_cons]
    refine ⟨ih.1.trans hlen, fun n => Nat.le_trans (ih.2.1 n) (h1 n), fun r hr => ?_⟩
    rcases List.mem_cons.1 hr with rfl | hr
    · exact Nat.le_trans (ih.2.1 _) h2
    · exact Nat.le_trans (ih.2.2 r hr) (sumF_mono h1 _)

theorem cFold_ge (N : NG) (L : Nat → Nat) (hL : ∀ r ∈ N.rules, L r.1 ≤ sumF N L r.2) : ∀ (rs : List (Nat × List Pt)) (l : List Nat), (∀ r ∈ rs, r ∈ N.rules) → (∀ n, L n ≤ lAt l n) → ∀ n, L n ≤ lAt (rs.foldl (cStep N) l) n
  | [], l, _, h => h
  | a :: rs, l, hm, h => by
    rw [List.foldl_cons]
    refine cFold_ge N L hL rs _ (fun r hr => hm r (by simp [hr])) fun n => ?_
    unfold cStep
    split
    · rw [lAt_set]
      split
      · rename_i e
        rw [← e.1]
        exact Nat.le_trans (hL a (hm a (by simp))) (sumF_mono h _)
      · exact h n
    · exact h n

/-- A greatest solution is what some rule costs. -/
theorem gfp_met {N : NG} {L : Nat → Nat} (h : Gfp N L) {n : Nat} (hn : L n ≤ 200) : ∃ r ∈ N.rules, r.1 = n ∧ L n = sumF N L r.2 := by
  apply Classical.byContradiction
  intro hno
  have hlt : ∀ r ∈ N.rules, r.1 = n → L n < sumF N L r.2 := by
    intro r hr e
    have h1 := h.2.1 r hr
    rw [e] at h1
    rcases Nat.lt_or_ge (L n) (sumF N L r.2) with h2 | h2
    · exact h2
    · exact absurd ⟨r, hr, e, Nat.le_antisymm h1 h2⟩ hno
  have hup : ∀ k, L k ≤ (fun k => if k = n then L n + 1 else L k) k := by
    intro k
    show L k ≤ if k = n then L n + 1 else L k
    split
    · rename_i e; subst e; omega
    · exact Nat.le_refl _
  have h2 := h.2.2 (fun k => if k = n then L n + 1 else L k) (fun k => by
    show (if k = n then L n + 1 else L k) ≤ 201
    split
    · omega
    · exact h.1 k) (fun r hr => by
    show (if r.1 = n then L n + 1 else L r.1) ≤ _
    have hs := sumF_mono (N := N) hup r.2
    split
    · rename_i e
      have := hlt r hr e
      omega
    · exact Nat.le_trans (h.2.1 r hr) hs) n
  simp only [if_true] at h2
  omega

theorem filter_lt {p q : Nat → Bool} : ∀ {l : List Nat}, (∀ x, p x = true → q x = true) → (∃ x ∈ l, q x = true ∧ p x = false) → (l.filter p).length < (l.filter q).length
  | [], _, h => by obtain ⟨_, hx, _⟩ := h; cases hx
  | a :: l, hpq, h => by
    have hle : ∀ l : List Nat, (l.filter p).length ≤ (l.filter q).length := by
      intro l
      induction l with
      | nil => exact Nat.le_refl _
      | cons b l ih =>
        rw [List.filter_cons, List.filter_cons]
        by_cases hb : p b = true
        · rw [if_pos hb, if_pos (hpq b hb), List.length_cons, List.length_cons]; omega
        · rw [if_neg hb]
          split
          · rw [List.length_cons]; omega
          · exact ih
    obtain ⟨x, hx, hq, hp⟩ := h
    rcases List.mem_cons.1 hx with rfl | hx
    · rw [List.filter_cons_of_pos hq, List.filter_cons_of_neg (by rw [hp]; decide), List.length_cons]
      have := hle l
      omega
    · have ih := filter_lt (l := l) hpq ⟨x, hx, hq, hp⟩
      rw [List.filter_cons, List.filter_cons]
      by_cases hb : p a = true
      · rw [if_pos hb, if_pos (hpq a hb), List.length_cons, List.length_cons]; omega
      · rw [if_neg hb]
        split
        · rw [List.length_cons]; omega
        · exact ih

/-- How many names cost less. -/
def rankL (N : NG) (L : Nat → Nat) (n : Nat) : Nat := ((List.range N.nN).filter fun k => decide (L k < L n)).length

theorem rank_lt {N : NG} {L : Nat → Nat} {k n : Nat} (hk : k < N.nN) (h : L k < L n) : rankL N L k < rankL N L n := by
  unfold rankL
  refine filter_lt (fun x hx => ?_) ⟨k, List.mem_range.2 hk, by simpa using h, by simp⟩
  simp only [decide_eq_true_eq] at hx ⊢
  omega

theorem rank_top {N : NG} {L : Nat → Nat} {n : Nat} (hn : n < N.nN) : rankL N L n < N.nN := by
  unfold rankL
  have h1 : ((List.range N.nN).filter fun k => decide (L k < L n)).length < ((List.range N.nN).filter fun _ => true).length := filter_lt (fun _ _ => rfl) ⟨n, List.mem_range.2 hn, rfl, by simp⟩
  have e : (List.range N.nN).filter (fun _ => true) = List.range N.nN := List.filter_eq_self.2 fun _ _ => rfl
  rw [e, List.length_range] at h1
  exact h1

theorem iter_succ' {σ : Type} (F : σ → σ) : ∀ (k : Nat) (s : σ), iter F (k + 1) s = F (iter F k s)
  | 0, _ => rfl
  | k + 1, s => by
    show iter F (k + 1) (F s) = F (iter F k (F s))
    exact iter_succ' F k (F s)

/-- Each rule begins with a token. -/
def Begun (N : NG) : Prop := ∀ r ∈ N.rules, ∃ t ps, r.2 = .tok t :: ps

theorem cheap_rounds {N : NG} (hN : N.Ok) (hB : Begun N) (hs : ∀ n, n < N.nN → lAt (leastsN N) n ≤ 200) : ∀ (j : Nat), (iter (cRound N) j (List.replicate N.nN 1000)).length = N.nN ∧ (∀ n, lAt (leastsN N) n ≤ lAt (iter (cRound N) j (List.replicate N.nN 1000)) n)
    ∧ ∀ n, n < N.nN → rankL N (lAt (leastsN N)) n < j → lAt (iter (cRound N) j (List.replicate N.nN 1000)) n = lAt (leastsN N) n
  | 0 => by
    have hg := (leastsN_gfp N hN).1
    refine ⟨by simp [iter], fun n => ?_, fun n _ h => by omega⟩
    show lAt (leastsN N) n ≤ lAt (List.replicate N.nN 1000) n
    have h1 := hg.1 n
    unfold lAt at h1 ⊢
    rw [List.getD_eq_getElem?_getD (l := List.replicate N.nN 1000), List.getElem?_replicate]
    split
    · show (leastsN N).getD n 201 ≤ 1000
      omega
    · exact h1
  | j + 1 => by
    have hg := (leastsN_gfp N hN).1
    obtain ⟨ih1, ih2, ih3⟩ := cheap_rounds hN hB hs j
    rw [iter_succ']
    generalize iter (cRound N) j (List.replicate N.nN 1000) = c at ih1 ih2 ih3
    have hf := cFold N N.rules c (fun r hr => by rw [ih1]; exact hN.lt r hr)
    have hge := cFold_ge N _ hg.2.1 N.rules c (fun r hr => hr) ih2
    refine ⟨hf.1.trans ih1, hge, fun n hn hr => ?_⟩
    obtain ⟨r, hrm, e, hL⟩ := gfp_met hg (hs n hn)
    refine Nat.le_antisymm ?_ (hge n)
    have h1 := hf.2.2 r hrm
    rw [e] at h1
    refine Nat.le_trans h1 ?_
    rw [hL]
    refine Nat.le_of_eq (sumF_eq fun k hk => ?_)
    have hkN := hN.pn r hrm k hk
    refine ih3 k hkN ?_
    have hlt : lAt (leastsN N) k < lAt (leastsN N) n := by
      obtain ⟨t, ps, ep⟩ := hB r hrm
      rw [ep] at hk hL
      have hk' : Pt.nam k ∈ ps := by simpa using hk
      have h2 := sumF_mem (N := N) (f := lAt (leastsN N)) hk'
      have h3 := hN.put1 t (hN.pt r hrm t (by rw [ep]; simp))
      have h4 : lAt (leastsN N) n = N.put t + sumF N (lAt (leastsN N)) ps := hL
      omega
    have := rank_lt hkN hlt
    omega

theorem cheap_least {N : NG} (hN : N.Ok) (hB : Begun N) (hs : ∀ n, n < N.nN → lAt (leastsN N) n ≤ 200) {n : Nat} (hn : n < N.nN) : lAt (cheapN N) n = lAt (leastsN N) n := by
  have := rank_top (L := lAt (leastsN N)) hn
  exact (cheap_rounds hN hB hs (N.nN + 1)).2.2 n hn (by omega)

theorem cheap_text {m : Mk} (h : m.Good) {n : Nat} (hn : n < m.rules.length) : lAt (cheapN (ngM m)) n = lAt (leastsN (ngM m)) n :=
  cheap_least (ngM_ok h) (fun r hr => by
    obtain ⟨rs, h1, h2⟩ := mem_ngM.1 hr
    obtain ⟨k, ps, _, e, _⟩ := h.beg (mk_mem h1).2 h2
    exact ⟨k, ps, e⟩) (fun n hn => by have := least_small h hn; omega) hn

end Go.Proofs.YtjjggdcnpndgjaaGreatDoor

namespace Go.Proofs.YtjjggdcnpndgjaaGreatDoor
open Go.RowKit

theorem joinW_cons : ∀ (w : List UInt8) (ws : List (List UInt8)), joinW (w :: ws) = w ++ ws.flatMap (fun v => 32 :: v)
  | w, [] => by simp [joinW]
  | w, v :: r => by
    have ih := joinW_cons v r
    show w ++ 32 :: joinW (v :: r) = _
    rw [ih, List.flatMap_cons]
    rfl

/-- One rule, with the bar ahead of it. -/
def pieceB (k : Nat) (r : List (List UInt8)) : List UInt8 := (if 0 < k then [32, 124] else []) ++ r.flatMap fun v => 32 :: v

theorem bars_more : ∀ (L : List (List (List UInt8))) (q : List (List UInt8)) (k : Nat), 0 < k → ((q :: L).zipIdx k).flatMap (fun x => pieceB x.2 x.1) = [32, 124] ++ (bars (q :: L)).flatMap fun v => 32 :: v
  | [], q, k, hk => by
    rw [List.zipIdx_cons, List.zipIdx_nil, List.flatMap_cons, List.flatMap_nil, List.append_nil]
    show pieceB k q = [32, 124] ++ q.flatMap fun v => 32 :: v
    unfold pieceB
    rw [if_pos hk]
  | r :: L, q, k, hk => by
    have ih := bars_more L r (k + 1) (by omega)
    rw [List.zipIdx_cons, List.flatMap_cons, ih]
    show pieceB k q ++ _ = [32, 124] ++ (q ++ [124] :: bars (r :: L)).flatMap fun v => 32 :: v
    rw [List.flatMap_append, List.flatMap_cons]
    unfold pieceB
    rw [if_pos hk]
    simp

theorem bars_flat (L : List (List (List UInt8))) : (bars L).flatMap (fun v => 32 :: v) = L.zipIdx.flatMap fun x => pieceB x.2 x.1 := by
  cases L with
  | nil => rfl
  | cons q L =>
    cases L with
    | nil => simp [bars, pieceB]
    | cons r L =>
      have h := bars_more L r 1 (by omega)
      rw [List.zipIdx_cons, List.flatMap_cons, show 0 + 1 = 1 from rfl, h]
      show (q ++ [124] :: bars (r :: L)).flatMap (fun v => 32 :: v) = _
      rw [List.flatMap_append, List.flatMap_cons]
      simp [pieceB]

def swpBy (m : Mk) (i j : Nat) : List UInt8 := if 0 < swpOf m i j then [115, 119, 97, 112, 32] ++ wB (.tok i) ++ [32] ++ wB (.tok j) ++ [32] ++ [UInt8.ofNat (48 + swpOf m i j)] ++ [10] else []
def tokHead (m : Mk) (i : Nat) : List UInt8 := [116, 111, 107, 101, 110, 32] ++ wB (.tok i) ++ [32] ++ [UInt8.ofNat (48 + m.puts.getD i 0)] ++ [32] ++ [UInt8.ofNat (48 + m.drops.getD i 0)] ++ [10]
def tokBy (m : Mk) (i : Nat) : List UInt8 := tokHead m i ++ (List.range m.puts.length).flatMap (swpBy m i)
def rulHead (n : Nat) : List UInt8 := [114, 117, 108, 101, 32] ++ wB (.nam n) ++ [32, 61]
def partsBy (r : List Pt) : List UInt8 := r.flatMap fun p => 32 :: wB p
def barBy (k : Nat) : List UInt8 := if 0 < k then [32, 124] else []
def rulBy (x : List (List Pt) × Nat) : List UInt8 := rulHead x.2 ++ x.1.zipIdx.flatMap (fun y => barBy y.2 ++ partsBy y.1) ++ [10]

theorem rulBy_join (n : Nat) (rs : List (List Pt)) : joinW (rulLine n rs) ++ [10] = rulBy (rs, n) := by
  unfold rulLine rulBy rulHead
  rw [joinW_cons, List.flatMap_cons, List.flatMap_cons, bars_flat, List.zipIdx_map, List.flatMap_map]
  have e : (fun x : List Pt × Nat => pieceB (Prod.map (fun r => List.map wB r) id x).2 (Prod.map (fun r => List.map wB r) id x).1) = fun y => barBy y.2 ++ partsBy y.1 := by
    funext x
    show pieceB x.2 (x.1.map wB) = _
    unfold pieceB barBy partsBy
    rw [List.flatMap_map]
  rw [e]
  simp

theorem tokBy_join (m : Mk) (i : Nat) : (((tokLines m i).map joinW).flatMap fun l => l ++ [10]) = tokBy m i := by
  unfold tokLines tokBy
  rw [List.map_cons, List.flatMap_cons, List.map_flatMap, List.flatMap_assoc]
  congr 1
  congr 1
  funext j
  unfold swpBy
  split
  · simp [swpLine, joinW, wB]
  · rfl

theorem text_by (m : Mk) : textM m = ba ((List.range m.puts.length).flatMap (tokBy m) ++ m.rules.zipIdx.flatMap rulBy) := by
  unfold textM joinL linesM
  rw [List.map_append, List.flatMap_append, List.map_flatMap, List.flatMap_assoc, List.map_map, List.flatMap_map]
  congr 2
  · congr 1
    funext i
    exact tokBy_join m i
  · congr 1
    funext x
    exact rulBy_join x.2 x.1

theorem range_more {β : Type} (f : Nat → List β) (k : Nat) : (List.range (k + 1)).flatMap f = (List.range k).flatMap f ++ f k := by
  rw [List.range_succ, List.flatMap_append]; simp

theorem take_more {α β : Type} (f : α → List β) {l : List α} {k : Nat} {a : α} (h : l[k]? = some a) : (l.take (k + 1)).flatMap f = (l.take k).flatMap f ++ f a := by
  rw [List.take_add_one, h, List.flatMap_append]; simp

theorem ba_add (x : List UInt8) (b : ByteArray) : ba x ++ b = ba (x ++ b.data.toList) := by
  apply ba_ext
  simp [ba]

end Go.Proofs.YtjjggdcnpndgjaaGreatDoor
