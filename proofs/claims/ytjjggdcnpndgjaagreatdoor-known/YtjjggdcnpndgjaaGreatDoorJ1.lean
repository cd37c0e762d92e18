/- Plain lemmas on lists of bytes: nothing of the program. What a slice reads as in a world; the words of a line. Nothing of the program's numbers. What a step keeps of a world: all blocks but a few. Nothing of the program. The reference's grammar, as lists, and as it lies in a world. What an append to one of the grammar's rows makes of it. A rule line, part by part: the local rule beside the grammar. A region that draws its order and ends in one operation that waits for all others (a store): the others under a condition S, in any order; then that one. Nothing of the program. -/
import Derived.WalkKit
import Derived.WalkSpells
import Derived.WalkLawsBesides
import Derived.Test.YtjjggdcnpndgjaaGreatDoorProg
import Derived.Deep.RegionHeld3
import Derived.Deep.AppendLies
import Derived.OneCell
import Derived.Deep.QuietTactic
import Derived.BigQuiet
namespace Go.Proofs.YtjjggdcnpndgjaaGreatDoor

/-- All bytes of l lie from lo to hi. -/
def allIn (l : List UInt8) (lo hi : Int) : Bool := l.all fun c => decide (lo ≤ (c.toNat : Int)) && decide ((c.toNat : Int) ≤ hi)

/-- darnref.made. -/
def madeB (l : List UInt8) (lo hi n : Int) : Bool := decide (1 ≤ l.length) && (decide ((l.length : Int) ≤ n) && allIn l lo hi)

theorem take_snoc (s : ByteArray) (k : Nat) (h : k < s.size) : s.data.toList.take (k + 1) = s.data.toList.take k ++ [s[k]] := by
  rw [List.take_succ_eq_append_getElem (by simpa using h)]; rfl

theorem allIn_snoc (l : List UInt8) (c : UInt8) (lo hi : Int) : allIn (l ++ [c]) lo hi = (allIn l lo hi && (decide (lo ≤ (c.toNat : Int)) && decide ((c.toNat : Int) ≤ hi))) := by
  unfold allIn; simp

theorem allIn_take_false {l : List UInt8} {lo hi : Int} {k : Nat} (h : allIn (l.take k) lo hi = false) : allIn l lo hi = false := by
  unfold allIn at *
  rw [List.all_eq_false] at *
  obtain ⟨x, hx, h⟩ := h
  exact ⟨x, List.mem_of_mem_take hx, h⟩

theorem allIn_stop {s : ByteArray} {lo hi : Int} {k : Nat} (hk : k < s.size) (h : (s[k].toNat : Int) < lo ∨ hi < (s[k].toNat : Int)) : allIn s.data.toList lo hi = false := by
  refine allIn_take_false (k := k + 1) ?_
  rw [take_snoc s k hk, allIn_snoc]
  rcases h with h | h
  · rw [decide_eq_false (p := lo ≤ (s[k].toNat : Int)) (by omega)]; simp
  · rw [decide_eq_false (p := (s[k].toNat : Int) ≤ hi) (by omega)]; simp

theorem allIn_step {s : ByteArray} {lo hi : Int} {k : Nat} (hk : k < s.size) (h0 : allIn (s.data.toList.take k) lo hi = true) (h : lo ≤ (s[k].toNat : Int) ∧ (s[k].toNat : Int) ≤ hi) :
    allIn (s.data.toList.take (k + 1)) lo hi = true := by
  rw [take_snoc s k hk, allIn_snoc, h0, decide_eq_true h.1, decide_eq_true h.2]; rfl

theorem allIn_done {s : ByteArray} {lo hi : Int} {k : Nat} (hk : ¬ k < s.size) (h0 : allIn (s.data.toList.take k) lo hi = true) : allIn s.data.toList lo hi = true := by
  rwa [List.take_of_length_le (by simp; omega)] at h0

/-- darnref.isCost. -/
def costB (l : List UInt8) : Bool := madeB l 48 57 2 && !(l.head? == some 48)

/-- darnref.cost: a numeral's value. -/
def valD (l : List UInt8) : Int := l.foldl (fun n c => 10 * n + (c.toNat : Int) - 48) 0

/-- The line that begins at a place: darnref.lineAt. -/
def lineB (s : ByteArray) (a : Nat) : ByteArray × Int :=
  match (s.data.toList.drop a).findIdx? (· == 10) with
  | some j => (s.extract a (a + j), (a + j + 1 : Nat))
  | none => (ByteArray.empty, 0)

end Go.Proofs.YtjjggdcnpndgjaaGreatDoor

namespace Go.Proofs.YtjjggdcnpndgjaaGreatDoor
open Go.RowKit

theorem hid {p : Prop} (h : p) : Hid p := h

/-- The j-th of a list of strings. -/
def nth (l : List ByteArray) (j : Nat) : ByteArray := l.getD j ByteArray.empty

/-- The cells from ⟨g, off⟩ on hold these strings. -/
def StrsAt (w : World) (g off : Nat) (l : List ByteArray) : Prop := g < w.heap.size ∧ ∀ j, j < l.length → w.cell? ⟨g, off + j, none⟩ = some (.string (nth l j))

theorem StrsAt.below {w w' : World} {B g off : Nat} {l : List ByteArray} (h : StrsAt w g off l) (hb : Below B w w') (hg : g < B) : StrsAt w' g off l :=
  ⟨Nat.lt_of_lt_of_le h.1 hb.size, fun j hj => (hb.cell (by exact hg)).trans (h.2 j hj)⟩

theorem StrsAt.later {w w' : World} {g off : Nat} {l : List ByteArray} (h : StrsAt w g off l) (hb : Below w.heap.size w w') : StrsAt w' g off l := h.below hb h.1

/-- Off a row that the call owns. -/
theorem strsAt_owned {w : World} {base t : Nat} {g cap n : Nat} {l : List ByteArray} (h : w.ownsRow base t 1 (.slice (some ⟨g, 0, none⟩) n cap) n (l.map Value.string)) (hn : l.length = n) : StrsAt w g 0 l := by
  refine ⟨(h.lt g rfl).2, fun j hj => ?_⟩
  rw [Nat.zero_add, h.cellAt j (by omega)]
  unfold nth
  simp [List.getElem?_eq_getElem hj]

theorem owned_shape {w : World} {base t size : Nat} {v : Value} {n : Nat} {xs : List Value} (h : w.ownsRow base t size v n xs) (hn : 0 < n) : ∃ g cap, v = .slice (some ⟨g, 0, none⟩) n cap ∧ base ≤ g ∧ g < w.heap.size ∧ n ≤ cap := by
  have h0 := h
  rcases h.2 with ⟨_, h2⟩ | ⟨g, cap, cur, hv, hg, hh, hnc, _⟩
  · omega
  · subst hv
    exact ⟨g, cap, rfl, hg, (h0.lt g rfl).2, hnc⟩

/-- One byte of a line, taken into the words so far. -/
def wstep (p : List ByteArray × ByteArray) (b : UInt8) : List ByteArray × ByteArray := if b = 32 then (p.1 ++ [p.2], ByteArray.empty) else (p.1, p.2 ++ ⟨#[b]⟩)
def wst (l : List UInt8) : List ByteArray × ByteArray := l.foldl wstep ([], ByteArray.empty)
/-- darnref.words: a line, cut at single blanks. -/
def wordsB (s : ByteArray) : List ByteArray := (wst s.data.toList).1 ++ [(wst s.data.toList).2]

theorem wstep_bd (p : List ByteArray × ByteArray) (b : UInt8) : (wstep p b).1.length ≤ p.1.length + 1 ∧ (wstep p b).2.size ≤ p.2.size + 1 := by
  unfold wstep
  have e1 : (⟨#[b]⟩ : ByteArray).size = 1 := rfl
  split
  · simp
  · simp [e1]

theorem wst_bd (l : List UInt8) : (wst l).1.length ≤ l.length ∧ (wst l).2.size ≤ l.length := by
  suffices h : ∀ (l : List UInt8) (p : List ByteArray × ByteArray), (l.foldl wstep p).1.length ≤ p.1.length + l.length ∧ (l.foldl wstep p).2.size ≤ p.2.size + l.length by
    have := h l ([], ByteArray.empty); simpa [wst] using this
  intro l
  induction l with
  | nil => intro p; simp
  | cons b r ih =>
    intro p
    have h1 := ih (wstep p b)
    have h2 := wstep_bd p b
    simp only [List.foldl_cons, List.length_cons]
    omega

def tokB (s : ByteArray) : Bool := madeB s.data.toList 97 122 8
def nameB (s : ByteArray) : Bool := madeB s.data.toList 65 90 8
def numB (s : ByteArray) : Bool := costB s.data.toList
def barB (s : ByteArray) : Bool := s.toList == [124]
def partB (s : ByteArray) : Bool := barB s || (tokB s || nameB s)
def tokLineB (l : List ByteArray) : Bool := decide (l.length = 4) && (tokB (nth l 1) && (numB (nth l 2) && numB (nth l 3)))
def swapLineB (l : List ByteArray) : Bool := decide (l.length = 4) && (tokB (nth l 1) && (tokB (nth l 2) && numB (nth l 3)))
def headB (l : List ByteArray) : Bool := decide (3 ≤ l.length) && (nameB (nth l 1) && ((nth l 2).toList == [61]))
def ruleLineB (l : List ByteArray) : Bool := headB l && (l.drop 3).all partB
/-- darnref.isLine. -/
def isLineB (l : List ByteArray) : Bool :=
  if l.length = 1 then (nth l 0).toList.isEmpty
  else if (nth l 0).toList == [116, 111, 107, 101, 110] then tokLineB l
  else if (nth l 0).toList == [115, 119, 97, 112] then swapLineB l
  else if (nth l 0).toList == [114, 117, 108, 101] then ruleLineB l else false

end Go.Proofs.YtjjggdcnpndgjaaGreatDoor

namespace Go.Proofs.YtjjggdcnpndgjaaGreatDoor
open Go.RowKit

theorem ret_bool {a b : Bool} (h : a = b) : Ending.returned (.bool b) = .returned (.bool a) := by rw [h]

end Go.Proofs.YtjjggdcnpndgjaaGreatDoor

namespace Go.Proofs.YtjjggdcnpndgjaaGreatDoor
open Go.RowKit

theorem Tryz.info9 : (Tryz.prog.info? 9).map (fun i => (i.zero, i.size, i.bytes)) = some (some (.string ByteArray.empty), 1, 16) := by kernel_rfl

end Go.Proofs.YtjjggdcnpndgjaaGreatDoor

namespace Go.Proofs.YtjjggdcnpndgjaaGreatDoor
open Go.RowKit

end Go.Proofs.YtjjggdcnpndgjaaGreatDoor

namespace Go.Proofs.YtjjggdcnpndgjaaGreatDoor
open Go.RowKit

/-- w' is w with more blocks; of the old ones those in S alone may have turned. -/
structure Keeps (w w' : World) (S : List Nat) : Prop where
  os : w'.os = w.os
  tape : w'.tape = w.tape
  output : w'.output = w.output
  size : w.heap.size ≤ w'.heap.size
  block : ∀ k, k < w.heap.size → k ∉ S → w'.heap[k]? = w.heap[k]?

theorem Keeps.refl (w : World) (S : List Nat) : Keeps w w S := ⟨rfl, rfl, rfl, Nat.le_refl _, fun _ _ _ => rfl⟩
theorem Keeps.trans {a b c : World} {S : List Nat} (h : Keeps a b S) (k : Keeps b c S) : Keeps a c S :=
  ⟨k.os.trans h.os, k.tape.trans h.tape, k.output.trans h.output, Nat.le_trans h.size k.size, fun i hi hn => (k.block i (Nat.lt_of_lt_of_le hi h.size) hn).trans (h.block i hi hn)⟩
theorem Keeps.mono {w w' : World} {S T : List Nat} (h : Keeps w w' S) (hs : ∀ k, k ∈ S → k ∈ T) : Keeps w w' T := ⟨h.os, h.tape, h.output, h.size, fun k hk hn => h.block k hk fun hm => hn (hs k hm)⟩
theorem Keeps.drew {a w : World} {S : List Nat} (h : Keeps a w S) : Keeps a w.drew S := ⟨h.os, h.tape, h.output, h.size, h.block⟩
theorem Keeps.alloc {a w : World} {S : List Nat} (h : Keeps a w S) (o : Obj) : Keeps a (w.alloc o) S :=
  h.trans ⟨rfl, rfl, rfl, by simp, fun k hk _ => Below.heap_alloc _ _ _ hk⟩
theorem Keeps.setCell {a w : World} {S : List Nat} (h : Keeps a w S) {p : Addr} (hp : p.block ∈ S) (u : Value) : Keeps a (w.setCell p u) S :=
  h.trans ⟨rfl, rfl, rfl, by simp [World.setCell], fun k _ hn => Below.heap_setCell _ _ _ _ (fun e => hn (e ▸ hp))⟩
theorem Keeps.grown {a w w' : World} {S : List Nat} {row : Option Nat} (h : Keeps a w S) (hg : w.grownBy w' row) (hr : ∀ k, row = some k → k ∈ S ∨ a.heap.size ≤ k) : Keeps a w' S :=
  ⟨hg.os.trans h.os, hg.tape.trans h.tape, hg.output.trans h.output, Nat.le_trans h.size hg.size, fun k hk hn => by
    rw [hg.block k (Nat.lt_of_lt_of_le hk h.size) (fun e => by rcases hr k e.symm with h1 | h1; exact hn h1; omega)]
    exact h.block k hk hn⟩
theorem Keeps.below {w w' : World} {S : List Nat} {B : Nat} (h : Keeps w w' S) (hB : B ≤ w.heap.size) (hs : ∀ k, k ∈ S → B ≤ k) : Below B w w' :=
  ⟨h.os, h.tape, h.output, h.size, fun k hk => h.block k (by omega) (fun hm => by have := hs k hm; omega)⟩
theorem Keeps.of_below {w w' : World} (h : Below w.heap.size w w') (S : List Nat) : Keeps w w' S := ⟨h.os, h.tape, h.output, h.size, fun k hk _ => h.block k hk⟩
theorem Keeps.cell {w w' : World} {S : List Nat} (h : Keeps w w' S) {p : Addr} (hp : p.block < w.heap.size) (hn : p.block ∉ S) : w'.cell? p = w.cell? p := World.cell?_of_block (w := w) (h.block p.block hp hn)

section
variable {w w' : World} {S : List Nat} {B e sz n : Nat} {v : Value} {xs : List Value}

theorem own_kind (h : w.ownsRow B e sz v n xs) {g : Nat} (hg : v.ownBlock = some g) : ∃ c, w.heap[g]? = some (.cells c e (0, 0)) := by
  rcases h.2 with ⟨rfl, _⟩ | ⟨g', cap, cur, rfl, _, hh, _⟩
  · simp [Value.ownBlock] at hg
  · simp [Value.ownBlock] at hg; subst hg; exact ⟨cur, hh⟩

theorem own_lt (h : w.ownsRow B e sz v n xs) {g : Nat} (hg : v.ownBlock = some g) : g < w.heap.size := (h.lt g hg).2

theorem own_keeps (h : w.ownsRow B e sz v n xs) (hk : Keeps w w' S) (hn : ∀ g, v.ownBlock = some g → g ∉ S) : w'.ownsRow B e sz v n xs := by
  obtain ⟨h1, h2⟩ := h
  refine ⟨h1, ?_⟩
  rcases h2 with h2 | ⟨g, cap, cur, hv, hg, hh, r⟩
  · exact .inl h2
  · subst hv
    exact .inr ⟨g, cap, cur, rfl, hg, by rw [hk.block g (lt_of_block hh) (hn g rfl)]; exact hh, r⟩

/-- Rows of two kinds lie apart. -/
theorem own_apart {B' e' sz' n' : Nat} {v' : Value} {xs' : List Value} (h : w.ownsRow B e sz v n xs) (h' : w.ownsRow B' e' sz' v' n' xs') (hne : e ≠ e') {g : Nat} (hg : v.ownBlock = some g) : v'.ownBlock ≠ some g := by
  intro hg'
  obtain ⟨c, hc⟩ := own_kind h hg
  obtain ⟨c', hc'⟩ := own_kind h' hg'
  rw [hc] at hc'
  injection hc' with hc'
  injection hc' with _ he
  exact hne he

theorem own_not_block (h : w.ownsRow B e sz v n xs) {b : Nat} {cs : Array Value} {t : Nat} {fr : Nat × Nat} (hb : w.heap[b]? = some (.cells cs t fr)) (hne : e ≠ t) : v.ownBlock ≠ some b := by
  intro hg
  obtain ⟨c, hc⟩ := own_kind h hg
  rw [hc] at hb
  injection hb with hb
  injection hb with _ he
  exact hne he

theorem cells_set {b j : Nat} {cs : Array Value} {t : Nat} {fr : Nat × Nat} (hb : w.heap[b]? = some (.cells cs t fr)) (u : Value) : (w.setCell ⟨b, j, none⟩ u).heap[b]? = some (.cells (cs.setIfInBounds j u) t fr) := by
  have hlt := lt_of_block hb
  have h' : w.heap[b] = .cells cs t fr := by simpa [Array.getElem?_eq_getElem hlt] using hb
  show (w.heap.modify b _)[b]? = _
  rw [Array.getElem?_eq_getElem (by simpa using hlt), Array.getElem_modify_self, h']
  rfl

theorem block_cell {b j : Nat} {cs : Array Value} {t : Nat} {fr : Nat × Nat} (hb : w.heap[b]? = some (.cells cs t fr)) : w.cell? ⟨b, j, none⟩ = cs[j]? := by simp [World.cell?, hb]
theorem block_free {b j : Nat} {cs : Array Value} {t : Nat} (hb : w.heap[b]? = some (.cells cs t (0, 0))) : w.frozen? ⟨b, j, none⟩ = false := by simp [World.frozen?, hb]

end
end Go.Proofs.YtjjggdcnpndgjaaGreatDoor

namespace Go.Proofs.YtjjggdcnpndgjaaGreatDoor
open Go.RowKit

structure Gr where
  toks : List (ByteArray × Int × Int)
  swps : List (ByteArray × ByteArray × Int)
  names : List ByteArray
  rules : List (ByteArray × List ByteArray)

def tokCells (l : List (ByteArray × Int × Int)) : List Value := l.flatMap fun t => [.string t.1, .int .i64 t.2.1, .int .i64 t.2.2]
def swpCells (l : List (ByteArray × ByteArray × Int)) : List Value := l.flatMap fun t => [.string t.1, .string t.2.1, .int .i64 t.2.2]
def ruleCells (l : List (ByteArray × List ByteArray)) (pv : List Value) : List Value := (l.zip pv).flatMap fun t => [.string t.1.1, t.2]

/-- A row of strings that is not the names' own. -/
def PartsAt (w : World) (B : Nat) (vN pv : Value) (l : List ByteArray) : Prop :=
  w.ownsRow B 9 1 pv l.length (l.map Value.string) ∧ (pv.ownBlock = none ∨ pv.ownBlock ≠ vN.ownBlock)

structure GrV (w : World) (B gb : Nat) (G : Gr) (vT vS vN vR : Value) (pv : List Value) : Prop where
  blk : w.heap[gb]? = some (.cells #[vT, vS, vN, vR] 160 (0, 0))
  hb : B ≤ gb
  toks : w.ownsRow B 174 3 vT G.toks.length (tokCells G.toks)
  swps : w.ownsRow B 299 3 vS G.swps.length (swpCells G.swps)
  names : w.ownsRow B 9 1 vN G.names.length (G.names.map Value.string)
  rules : w.ownsRow B 172 2 vR G.rules.length (ruleCells G.rules pv)
  pvl : pv.length = G.rules.length
  parts : ∀ (i : Nat) (r : ByteArray × List ByteArray) (p : Value), G.rules[i]? = some r → pv[i]? = some p → PartsAt w B vN p r.2

/-- The grammar lies at block gb; all of it in blocks from B on. -/
def GrAt (w : World) (B gb : Nat) (G : Gr) : Prop := ∃ vT vS vN vR pv, GrV w B gb G vT vS vN vR pv

section
variable {w : World} {B gb : Nat} {G : Gr} {vT vS vN vR : Value} {pv : List Value}

theorem GrV.cells (h : GrV w B gb G vT vS vN vR pv) : w.cell? ⟨gb, 0, none⟩ = some vT ∧ w.cell? ⟨gb, 1, none⟩ = some vS ∧ w.cell? ⟨gb, 2, none⟩ = some vN ∧ w.cell? ⟨gb, 3, none⟩ = some vR := by
  refine ⟨?_, ?_, ?_, ?_⟩ <;> simp [World.cell?, h.blk]
end

theorem flat3 {α : Type} (f : α → List Value) (hf : ∀ a, (f a).length = 3) : ∀ (l : List α) (i : Nat) (a : α) (j : Nat), l[i]? = some a → j < 3 → (l.flatMap f)[i * 3 + j]? = (f a)[j]? := by
  intro l
  induction l with
  | nil => intro i a j h; simp at h
  | cons x r ih =>
    intro i a j h hj
    rw [List.flatMap_cons]
    match i with
    | 0 =>
      simp at h; subst h
      rw [List.getElem?_append_left (by rw [hf]; omega)]
      congr 1; omega
    | i + 1 =>
      simp at h
      rw [List.getElem?_append_right (by rw [hf]; omega), hf]
      rw [← ih i a j h hj]
      congr 1; omega

theorem flat2 {α : Type} (f : α → List Value) (hf : ∀ a, (f a).length = 2) : ∀ (l : List α) (i : Nat) (a : α) (j : Nat), l[i]? = some a → j < 2 → (l.flatMap f)[i * 2 + j]? = (f a)[j]? := by
  intro l
  induction l with
  | nil => intro i a j h; simp at h
  | cons x r ih =>
    intro i a j h hj
    rw [List.flatMap_cons]
    match i with
    | 0 =>
      simp at h; subst h
      rw [List.getElem?_append_left (by rw [hf]; omega)]
      congr 1; omega
    | i + 1 =>
      simp at h
      rw [List.getElem?_append_right (by rw [hf]; omega), hf]
      rw [← ih i a j h hj]
      congr 1; omega

def tokW (l : List (ByteArray × Int × Int)) (k : Nat) : ByteArray := (l[k]?.map (·.1)).getD ByteArray.empty
def hasTok (l : List (ByteArray × Int × Int)) (w : ByteArray) : Bool := l.any fun t => t.1.toList == w.toList
def hasNam (l : List ByteArray) (w : ByteArray) : Bool := l.any fun t => t.toList == w.toList

theorem tok_cell {w : World} {B g cap n : Nat} {l : List (ByteArray × Int × Int)} (h : w.ownsRow B 174 3 (.slice (some ⟨g, 0, none⟩) n cap) n (tokCells l)) (hl : l.length = n) {k : Nat} (hk : k < n) :
    w.cell? ⟨g, k * 3, none⟩ = some (.string (tokW l k)) := by
  rw [h.cellAt (k * 3) (show k * 3 < n * 3 by omega)]
  have := flat3 (fun t : ByteArray × Int × Int => [Value.string t.1, .int .i64 t.2.1, .int .i64 t.2.2]) (fun _ => rfl) l k (l[k]'(by omega)) 0 (by simp) (by omega)
  unfold tokCells tokW
  rw [Nat.add_zero] at this
  rw [this, List.getElem?_eq_getElem (show k < l.length by omega)]
  rfl

def unkB (G : Gr) (x : ByteArray) : Bool := !barB x && (!hasTok G.toks x && !hasNam G.names x)
/-- (*Grammar).unknown. -/
def unknownB (G : Gr) (l : List ByteArray) : Bool :=
  if (nth l 0).toList == [115, 119, 97, 112] then (!hasTok G.toks (nth l 1) || (!hasTok G.toks (nth l 2) || ((nth l 1).toList == (nth l 2).toList)))
  else if (nth l 0).toList == [114, 117, 108, 101] then (l.drop 3).any (unkB G) else false

theorem upto_next {p : Nat → Prop} {k : Nat} (h : ∀ j, j < k → p j) (hk : p k) : ∀ j, j < k + 1 → p j := by
  intro j hj
  by_cases e : j = k
  · subst e; exact hk
  · exact h j (by omega)

end Go.Proofs.YtjjggdcnpndgjaaGreatDoor

namespace Go.Proofs.YtjjggdcnpndgjaaGreatDoor
open Go.RowKit

section
variable {w w1 : World} {B gb : Nat} {G : Gr} {vT vS vN vR : Value} {pv : List Value} {S : List Nat}

/-- The grammar stays where none of its blocks is written. -/
theorem GrV.keeps (h : GrV w B gb G vT vS vN vR pv) (hk : Keeps w w1 S) (hg : gb ∉ S) (hT : ∀ g, vT.ownBlock = some g → g ∉ S) (hS : ∀ g, vS.ownBlock = some g → g ∉ S)
    (hN : ∀ g, vN.ownBlock = some g → g ∉ S) (hR : ∀ g, vR.ownBlock = some g → g ∉ S) (hP : ∀ p ∈ pv, ∀ g, p.ownBlock = some g → g ∉ S) : GrV w1 B gb G vT vS vN vR pv where
  blk := (hk.block gb (lt_of_block h.blk) hg).trans h.blk
  hb := h.hb
  toks := own_keeps h.toks hk hT
  swps := own_keeps h.swps hk hS
  names := own_keeps h.names hk hN
  rules := own_keeps h.rules hk hR
  pvl := h.pvl
  parts := fun i r p hr hp => ⟨own_keeps (h.parts i r p hr hp).1 hk (hP p (List.mem_of_getElem? hp)), (h.parts i r p hr hp).2⟩

theorem GrV.part_of (h : GrV w B gb G vT vS vN vR pv) {p : Value} (hp : p ∈ pv) : ∃ l, PartsAt w B vN p l := by
  obtain ⟨i, hi, rfl⟩ := List.mem_iff_getElem.1 hp
  have hl := h.pvl
  exact ⟨_, h.parts i (G.rules[i]'(by omega)) pv[i] (by simp) (by simp)⟩

/-- Which of the grammar's blocks a block of another kind is. -/
theorem GrV.off (h : GrV w B gb G vT vS vN vR pv) : (∀ g, vT.ownBlock = some g → gb ≠ g) ∧ (∀ g, vS.ownBlock = some g → gb ≠ g) ∧ (∀ g, vN.ownBlock = some g → gb ≠ g) ∧ (∀ g, vR.ownBlock = some g → gb ≠ g) := by
  refine ⟨fun g hg e => ?_, fun g hg e => ?_, fun g hg e => ?_, fun g hg e => ?_⟩ <;> subst e
  · exact own_not_block h.toks h.blk (by decide) hg
  · exact own_not_block h.swps h.blk (by decide) hg
  · exact own_not_block h.names h.blk (by decide) hg
  · exact own_not_block h.rules h.blk (by decide) hg

theorem mem_own {v : Value} {k : Nat} (h : k ∈ v.ownBlock.toList) : v.ownBlock = some k := by
  cases hv : v.ownBlock with
  | none => rw [hv] at h; simp at h
  | some g => rw [hv] at h; simp at h; rw [h]

/-- A row that lies apart from what was written stays, a store into the grammar's own block behind it too. -/
theorem row_over {e sz n j : Nat} {v u : Value} {xs : List Value} (h : w.ownsRow B e sz v n xs) (hk : Keeps w w1 S) (hn : ∀ g, v.ownBlock = some g → g ∉ S) (hgb : ∀ g, v.ownBlock = some g → gb ≠ g) :
    (w1.setCell ⟨gb, j, none⟩ u).ownsRow B e sz v n xs :=
  ownsRow_setCell_other (own_keeps h hk hn) (fun hg => hgb gb hg rfl) u

theorem row_over' {e sz n j : Nat} {v u : Value} {xs : List Value} {cs : Array Value} {t : Nat} {fr : Nat × Nat} (h : w1.ownsRow B e sz v n xs) (hb : w1.heap[gb]? = some (.cells cs t fr)) (hne : e ≠ t) :
    (w1.setCell ⟨gb, j, none⟩ u).ownsRow B e sz v n xs :=
  ownsRow_setCell_other h (own_not_block h hb hne) u

theorem GrV.blk1 (h : GrV w B gb G vT vS vN vR pv) (hk : Keeps w w1 S) (hg : gb ∉ S) : w1.heap[gb]? = some (.cells #[vT, vS, vN, vR] 160 (0, 0)) := (hk.block gb (lt_of_block h.blk) hg).trans h.blk

/-- The parts' rows, over a write to another row and a store into the grammar's block. -/
theorem GrV.parts_over (h : GrV w B gb G vT vS vN vR pv) (hk : Keeps w w1 S) (hp : ∀ p ∈ pv, ∀ g, p.ownBlock = some g → g ∉ S) {j : Nat} {u : Value} :
    ∀ (i : Nat) (r : ByteArray × List ByteArray) (p : Value), G.rules[i]? = some r → pv[i]? = some p → PartsAt (w1.setCell ⟨gb, j, none⟩ u) B vN p r.2 := by
  intro i r p hr hpv
  have h1 := h.parts i r p hr hpv
  exact ⟨row_over h1.1 hk (hp p (List.mem_of_getElem? hpv)) (fun g hg e => own_not_block h1.1 h.blk (by decide) (e ▸ hg)), h1.2⟩

/-- A row that was appended to, then stored into its field: field 0. -/
theorem GrV.addTok (h : GrV w B gb G vT vS vN vR pv) (hk : Keeps w w1 vT.ownBlock.toList) {v' : Value} {t : ByteArray × Int × Int}
    (hown : w1.ownsRow B 174 3 v' (G.toks.length + 1) (tokCells G.toks ++ [.string t.1, .int .i64 t.2.1, .int .i64 t.2.2])) :
    GrV (w1.setCell ⟨gb, 0, none⟩ v') B gb { G with toks := G.toks ++ [t] } v' vS vN vR pv := by
  obtain ⟨oT, oS, oN, oR⟩ := h.off
  have hgb : gb ∉ vT.ownBlock.toList := fun hm => oT gb (mem_own hm) rfl
  have hb1 := h.blk1 hk hgb
  refine ⟨?_, h.hb, ?_, ?_, ?_, ?_, h.pvl, ?_⟩
  · exact cells_set hb1 v'
  · have e1 : tokCells (G.toks ++ [t]) = tokCells G.toks ++ [.string t.1, .int .i64 t.2.1, .int .i64 t.2.2] := by simp [tokCells]
    show (w1.setCell _ _).ownsRow B _ 3 v' (G.toks ++ [t]).length (tokCells (G.toks ++ [t]))
    rw [e1, List.length_append]
    exact row_over' hown hb1 (by decide)
  · exact row_over h.swps hk (fun g hg hm => own_apart h.swps h.toks (by decide) hg (mem_own hm)) oS
  · exact row_over h.names hk (fun g hg hm => own_apart h.names h.toks (by decide) hg (mem_own hm)) oN
  · exact row_over h.rules hk (fun g hg hm => own_apart h.rules h.toks (by decide) hg (mem_own hm)) oR
  · exact h.parts_over hk (fun p hp g hg hm => by obtain ⟨l, hl⟩ := h.part_of hp; exact own_apart hl.1 h.toks (by decide) hg (mem_own hm))

/-- The names: the parts' rows are none of theirs, before and behind. -/
theorem GrV.addName (h : GrV w B gb G vT vS vN vR pv) (hk : Keeps w w1 vN.ownBlock.toList) {v' : Value} {x : ByteArray} (hnew : v'.ownBlock = vN.ownBlock ∨ ∃ k, v'.ownBlock = some k ∧ w.heap.size ≤ k)
    (hown : w1.ownsRow B 9 1 v' (G.names.length + 1) (G.names.map Value.string ++ [.string x])) :
    GrV (w1.setCell ⟨gb, 2, none⟩ v') B gb { G with names := G.names ++ [x] } vT vS v' vR pv := by
  obtain ⟨oT, oS, oN, oR⟩ := h.off
  have hgb : gb ∉ vN.ownBlock.toList := fun hm => oN gb (mem_own hm) rfl
  have hb1 := h.blk1 hk hgb
  refine ⟨?_, h.hb, ?_, ?_, ?_, ?_, h.pvl, ?_⟩
  · exact cells_set hb1 v'
  · exact row_over h.toks hk (fun g hg hm => own_apart h.toks h.names (by decide) hg (mem_own hm)) oT
  · exact row_over h.swps hk (fun g hg hm => own_apart h.swps h.names (by decide) hg (mem_own hm)) oS
  · show (w1.setCell _ _).ownsRow B _ 1 v' (G.names ++ [x]).length ((G.names ++ [x]).map Value.string)
    rw [List.map_append, List.length_append]
    exact row_over' hown hb1 (by decide)
  · exact row_over h.rules hk (fun g hg hm => own_apart h.rules h.names (by decide) hg (mem_own hm)) oR
  · intro i r p hr hpv
    have h1 := h.parts i r p hr hpv
    have h2 := h.parts_over (u := v') (j := 2) hk (fun p hp g hg hm => by
      obtain ⟨l, hl⟩ := h.part_of hp
      rcases hl.2 with h3 | h3
      · rw [h3] at hg; cases hg
      · exact h3 (hg.trans (mem_own hm).symm)) i r p hr hpv
    refine ⟨h2.1, ?_⟩
    rcases h1.2 with h3 | h3
    · exact .inl h3
    · right
      rcases hnew with h4 | ⟨k, h4, h5⟩
      · rw [h4]; exact h3
      · intro h6
        have := own_lt h1.1 (h6.trans h4)
        omega

/-- The rules: r's own parts row comes in. -/
theorem GrV.addRule (h : GrV w B gb G vT vS vN vR pv) (hk : Keeps w w1 vR.ownBlock.toList) {v' vP : Value} {r : ByteArray × List ByteArray} (hP : PartsAt w B vN vP r.2)
    (hown : w1.ownsRow B 172 2 v' (G.rules.length + 1) (ruleCells G.rules pv ++ [.string r.1, vP])) :
    GrV (w1.setCell ⟨gb, 3, none⟩ v') B gb { G with rules := G.rules ++ [r] } vT vS vN v' (pv ++ [vP]) := by
  obtain ⟨oT, oS, oN, oR⟩ := h.off
  have hgb : gb ∉ vR.ownBlock.toList := fun hm => oR gb (mem_own hm) rfl
  have hb1 := h.blk1 hk hgb
  have hl := h.pvl
  refine ⟨?_, h.hb, ?_, ?_, ?_, ?_, by simp [hl], ?_⟩
  · exact cells_set hb1 v'
  · exact row_over h.toks hk (fun g hg hm => own_apart h.toks h.rules (by decide) hg (mem_own hm)) oT
  · exact row_over h.swps hk (fun g hg hm => own_apart h.swps h.rules (by decide) hg (mem_own hm)) oS
  · exact row_over h.names hk (fun g hg hm => own_apart h.names h.rules (by decide) hg (mem_own hm)) oN
  · have e1 : ruleCells (G.rules ++ [r]) (pv ++ [vP]) = ruleCells G.rules pv ++ [.string r.1, vP] := by
      unfold ruleCells
      rw [List.zip_append hl.symm]
      simp
    show (w1.setCell _ _).ownsRow B _ 2 v' (G.rules ++ [r]).length (ruleCells (G.rules ++ [r]) (pv ++ [vP]))
    rw [e1, List.length_append]
    exact row_over' hown hb1 (by decide)
  · intro i q p hr hpv
    by_cases hi : i < G.rules.length
    · rw [List.getElem?_append_left hi] at hr
      rw [List.getElem?_append_left (by omega)] at hpv
      exact h.parts_over hk (fun p hp g hg hm => by obtain ⟨l, hl⟩ := h.part_of hp; exact own_apart hl.1 h.rules (by decide) hg (mem_own hm)) i q p hr hpv
    · rw [List.getElem?_append_right (by omega)] at hr
      rw [List.getElem?_append_right (by omega)] at hpv
      obtain ⟨h1, _⟩ := List.getElem?_eq_some_iff.1 hr
      simp at h1
      have h0 : i - G.rules.length = 0 := by omega
      have h0' : i - pv.length = 0 := by omega
      rw [h0] at hr
      rw [h0'] at hpv
      simp at hr hpv
      subst hr; subst hpv
      exact ⟨row_over hP.1 hk (fun g hg hm => own_apart hP.1 h.rules (by decide) hg (mem_own hm)) (fun g hg e => own_not_block hP.1 h.blk (by decide) (e ▸ hg)), hP.2⟩

/-- What give tells of the counts. -/
def totI (G : Gr) (bad : Bool) : Int := if 20 < G.toks.length ∨ 20 < G.names.length ∨ 60 < G.rules.length then 4 else if bad then 4 else 0

theorem own_ge {e sz n : Nat} {v : Value} {xs : List Value} (h : w.ownsRow B e sz v n xs) : ∀ k, k ∈ v.ownBlock.toList → B ≤ k := fun k hk => (h.lt k (mem_own hk)).1

end

theorem own_slice {w : World} {B e sz n : Nat} {v : Value} {xs : List Value} (h : w.ownsRow B e sz v n xs) : ∃ a c, v = .slice a n c := by
  rcases h.2 with ⟨rfl, rfl⟩ | ⟨g, cap, cur, rfl, _⟩
  · exact ⟨_, _, rfl⟩
  · exact ⟨_, _, rfl⟩

end Go.Proofs.YtjjggdcnpndgjaaGreatDoor

namespace Go.Proofs.YtjjggdcnpndgjaaGreatDoor
open Go.RowKit

end Go.Proofs.YtjjggdcnpndgjaaGreatDoor

namespace Go.Proofs.YtjjggdcnpndgjaaGreatDoor
open Go.RowKit

end Go.Proofs.YtjjggdcnpndgjaaGreatDoor

namespace Go.Proofs.YtjjggdcnpndgjaaGreatDoor
open Go.RowKit

theorem StrsAt.keeps {w w' : World} {S : List Nat} {g off : Nat} {l : List ByteArray} (h : StrsAt w g off l) (hk : Keeps w w' S) (hg : g ∉ S) : StrsAt w' g off l :=
  ⟨Nat.lt_of_lt_of_le h.1 hk.size, fun j hj => (hk.cell (by exact h.1) (by exact hg)).trans (h.2 j hj)⟩

structure RV (w : World) (B gb rb g : Nat) (G : Gr) (l : List ByteArray) (nm : ByteArray) (R : List (ByteArray × List ByteArray)) (cur : List ByteArray) (vT vS vN vR : Value) (pv : List Value) (vP : Value) : Prop where
  gr : GrV w B gb { G with rules := R } vT vS vN vR pv
  blk : w.heap[rb]? = some (.cells #[.string nm, vP] 172 (0, 0))
  vr : vR.ownBlock ≠ some rb
  part : PartsAt w B vN vP cur
  old : ∀ p ∈ pv, p.ownBlock = none ∨ p.ownBlock ≠ vP.ownBlock
  line : StrsAt w g 0 l
  rg : vR.ownBlock ≠ some g
  pg : vP.ownBlock ≠ some g
  rbg : rb ≠ g
  gbg : gb ≠ g
  hb : B ≤ rb

section
variable {w w1 : World} {B gb rb g : Nat} {G : Gr} {l : List ByteArray} {nm : ByteArray} {R : List (ByteArray × List ByteArray)} {cur : List ByteArray} {vT vS vN vR : Value} {pv : List Value} {vP : Value}

theorem RV.rows (h : RV w B gb rb g G l nm R cur vT vS vN vR pv vP) : gb ≠ rb ∧ (∀ k, vT.ownBlock = some k → k ≠ rb) ∧ (∀ k, vS.ownBlock = some k → k ≠ rb) ∧ (∀ k, vN.ownBlock = some k → k ≠ rb) ∧ (∀ p ∈ pv, ∀ k, p.ownBlock = some k → k ≠ rb) ∧ (∀ k, vP.ownBlock = some k → k ≠ rb) := by
  refine ⟨fun e => ?_, fun k hk e => ?_, fun k hk e => ?_, fun k hk e => ?_, fun p hp k hk e => ?_, fun k hk e => ?_⟩
  · have h1 := h.gr.blk; rw [e, h.blk] at h1; injection h1 with h1; injection h1 with _ h2; exact absurd h2 (by decide)
  · subst e; exact own_not_block h.gr.toks h.blk (by decide) hk
  · subst e; exact own_not_block h.gr.swps h.blk (by decide) hk
  · subst e; exact own_not_block h.gr.names h.blk (by decide) hk
  · subst e; obtain ⟨q, hq⟩ := h.gr.part_of hp; exact own_not_block hq.1 h.blk (by decide) hk
  · subst e; exact own_not_block h.part.1 h.blk (by decide) hk

/-- At a bar: the rule so far goes to the rules, the local one begins anew. -/
theorem RV.bar (h : RV w B gb rb g G l nm R cur vT vS vN vR pv vP) (hk : Keeps w w1 vR.ownBlock.toList) {g' n' cap' : Nat} (hn' : n' = R.length + 1) (hat : vR.ownBlock = some g' ∨ w.heap.size ≤ g')
    (hown : w1.ownsRow B 172 2 (.slice (some ⟨g', 0, none⟩) n' cap') n' (ruleCells R pv ++ [.string nm, vP])) :
    RV (((w1.setCell ⟨gb, 3, none⟩ (.slice (some ⟨g', 0, none⟩) n' cap')).setCell ⟨rb, 0, none⟩ (.string nm)).setCell ⟨rb, 1, none⟩ (.slice none 0 0)) B gb rb g G l nm (R ++ [(nm, cur)]) [] vT vS vN (.slice (some ⟨g', 0, none⟩) n' cap') (pv ++ [vP]) (.slice none 0 0) := by
  subst hn'
  obtain ⟨rG, rT, rS, rN, rP, rQ⟩ := h.rows
  have hlt : rb < w.heap.size := lt_of_block h.blk
  have hg' : g' ≠ rb := by
    rcases hat with e | e
    · intro e2; exact h.vr (e2 ▸ e)
    · omega
  have hgg : g' ≠ g := by
    rcases hat with e | e
    · intro e2; exact h.rg (e2 ▸ e)
    · have := h.line.1; omega
  have hV1 := h.gr.addRule (r := (nm, cur)) hk h.part hown
  have hrb : rb ∉ vR.ownBlock.toList := fun hm => h.vr (mem_own hm)
  have hb1 : (w1.setCell ⟨gb, 3, none⟩ (.slice (some ⟨g', 0, none⟩) (R.length + 1) cap')).heap[rb]? = some (.cells #[.string nm, vP] 172 (0, 0)) := by
    rw [Below.heap_setCell _ _ _ _ (by exact fun e => rG e.symm)]
    exact (hk.block rb hlt hrb).trans h.blk
  have hk2 : ∀ W : World, Keeps W ((W.setCell ⟨rb, 0, none⟩ (.string nm)).setCell ⟨rb, 1, none⟩ (.slice none 0 0)) [rb] := fun W => ((Keeps.refl W [rb]).setCell (by simp) _).setCell (by simp) _
  have hall : Keeps w (((w1.setCell ⟨gb, 3, none⟩ (.slice (some ⟨g', 0, none⟩) (R.length + 1) cap')).setCell ⟨rb, 0, none⟩ (.string nm)).setCell ⟨rb, 1, none⟩ (.slice none 0 0)) (gb :: rb :: vR.ownBlock.toList) :=
    (((hk.mono (fun k hm => by simp only [List.mem_cons]; exact .inr (.inr hm))).setCell (by simp) _).setCell (by simp) _).setCell (by simp) _
  have nosl : (Value.slice (none : Option Addr) 0 0).ownBlock = none := rfl
  refine ⟨hV1.keeps (hk2 _) (by simpa using rG) (fun k hk => by simpa using rT k hk) (fun k hk => by simpa using rS k hk) (fun k hk => by simpa using rN k hk) (fun k hk => by simp [Value.ownBlock] at hk; subst hk; simpa using hg') (fun p hp k hk => ?_),
    ?_, ?_, ⟨World.ownsRow_nil _ _ _ _, .inl rfl⟩, ?_, h.line.keeps hall ?_, ?_, by rw [nosl]; simp, h.rbg, h.gbg, h.hb⟩
  · rcases List.mem_append.1 hp with hp | hp
    · simpa using rP p hp k hk
    · simp at hp; subst hp; simpa using rQ k hk
  · have := cells_set (j := 1) (cells_set (j := 0) hb1 (.string nm)) (.slice none 0 0)
    simpa using this
  · simpa [Value.ownBlock] using hg'
  · intro p _
    rw [nosl]
    cases p.ownBlock with
    | none => exact .inl rfl
    | some k => exact .inr (by simp)
  · simp only [List.mem_cons, not_or]
    exact ⟨fun e => h.gbg e.symm, fun e => h.rbg e.symm, fun hm => h.rg (mem_own hm)⟩
  · simpa [Value.ownBlock] using hgg

/-- A part: it goes to the local rule. -/
theorem RV.add (h : RV w B gb rb g G l nm R cur vT vS vN vR pv vP) (hk : Keeps w w1 vP.ownBlock.toList) {g' n' cap' : Nat} {x : ByteArray} (hn' : n' = cur.length + 1) (hat : vP.ownBlock = some g' ∨ w.heap.size ≤ g')
    (hown : w1.ownsRow B 9 1 (.slice (some ⟨g', 0, none⟩) n' cap') n' (cur.map Value.string ++ [.string x])) :
    RV (w1.setCell ⟨rb, 1, none⟩ (.slice (some ⟨g', 0, none⟩) n' cap')) B gb rb g G l nm R (cur ++ [x]) vT vS vN vR pv (.slice (some ⟨g', 0, none⟩) n' cap') := by
  subst hn'
  obtain ⟨rG, rT, rS, rN, rP, rQ⟩ := h.rows
  have hlt : rb < w.heap.size := lt_of_block h.blk
  have hrb : rb ∉ vP.ownBlock.toList := fun hm => rQ rb (mem_own hm) rfl
  have hall : Keeps w (w1.setCell ⟨rb, 1, none⟩ (.slice (some ⟨g', 0, none⟩) (cur.length + 1) cap')) (rb :: vP.ownBlock.toList) := (hk.mono (fun k hm => by simp only [List.mem_cons]; exact .inr hm)).setCell (by simp) _
  have hb1 : w1.heap[rb]? = some (.cells #[.string nm, vP] 172 (0, 0)) := (hk.block rb hlt hrb).trans h.blk
  have hgg : g' ≠ g := by
    rcases hat with e | e
    · intro e2; exact h.pg (e2 ▸ e)
    · have := h.line.1; omega
  have hsep : ∀ v : Value, (v.ownBlock = none ∨ v.ownBlock ≠ vP.ownBlock) → (∀ k, v.ownBlock = some k → k < w.heap.size) → (v.ownBlock = none ∨ v.ownBlock ≠ some g') := by
    intro v h1 h2
    rcases h1 with h1 | h1
    · exact .inl h1
    · right
      intro e
      rcases hat with h3 | h3
      · exact h1 (e.trans h3.symm)
      · have := h2 g' e; omega
  refine ⟨h.gr.keeps hall ?_ ?_ ?_ ?_ ?_ ?_, ?_, h.vr, ⟨?_, ?_⟩, ?_, h.line.keeps hall ?_, h.rg, by simpa [Value.ownBlock] using hgg, h.rbg, h.gbg, h.hb⟩
  · simp only [List.mem_cons, not_or]
    exact ⟨rG, fun hm => own_not_block h.part.1 h.gr.blk (by decide) (mem_own hm)⟩
  · intro k hk
    simp only [List.mem_cons, not_or]
    exact ⟨rT k hk, fun hm => own_apart h.gr.toks h.part.1 (by decide) hk (mem_own hm)⟩
  · intro k hk
    simp only [List.mem_cons, not_or]
    exact ⟨rS k hk, fun hm => own_apart h.gr.swps h.part.1 (by decide) hk (mem_own hm)⟩
  · intro k hk
    simp only [List.mem_cons, not_or]
    refine ⟨rN k hk, fun hm => ?_⟩
    rcases h.part.2 with h3 | h3
    · rw [h3] at hm; simp at hm
    · exact h3 ((mem_own hm).trans hk.symm)
  · intro k hk
    simp only [List.mem_cons, not_or]
    exact ⟨fun e => h.vr (e ▸ hk), fun hm => own_apart h.gr.rules h.part.1 (by decide) hk (mem_own hm)⟩
  · intro p hp k hk
    simp only [List.mem_cons, not_or]
    refine ⟨rP p hp k hk, fun hm => ?_⟩
    rcases h.old p hp with h3 | h3
    · rw [h3] at hk; cases hk
    · exact h3 (hk.trans (mem_own hm).symm)
  · have := cells_set (j := 1) hb1 (.slice (some ⟨g', 0, none⟩) (cur.length + 1) cap')
    simpa using this
  · have := ownsRow_setCell_other hown (a := ⟨rb, 1, none⟩) (own_not_block hown hb1 (by decide)) (.slice (some ⟨g', 0, none⟩) (cur.length + 1) cap')
    simpa using this
  · have h5 := hsep vN (by
      rcases h.part.2 with h3 | h3
      · cases hv : vN.ownBlock with
        | none => exact .inl rfl
        | some k => right; rw [h3]; simp
      · exact .inr fun e => h3 e.symm) (fun k hk => own_lt h.gr.names hk)
    right
    rcases h5 with h5 | h5
    · rw [h5]; simp [Value.ownBlock]
    · intro e; exact h5 (e.symm.trans (by simp [Value.ownBlock]))
  · intro p hp
    have h5 := hsep p (h.old p hp) (fun k hk => by obtain ⟨q, hq⟩ := h.gr.part_of hp; exact own_lt hq.1 hk)
    rcases h5 with h5 | h5
    · exact .inl h5
    · exact .inr (by simpa [Value.ownBlock] using h5)
  · simp only [List.mem_cons, not_or]
    exact ⟨fun e => h.rbg e.symm, fun hm => h.pg (mem_own hm)⟩

end

theorem RV.start {w : World} {B gb g : Nat} {G : Gr} {l : List ByteArray} {vT vS vN vR : Value} {pv : List Value} (nm : ByteArray) (h : GrV w B gb G vT vS vN vR pv) (hl : StrsAt w g 0 l) (hgR : vR.ownBlock ≠ some g) (gbg : gb ≠ g) (hB : B ≤ w.heap.size) :
    RV (w.alloc (.cells #[.string nm, .slice none 0 0] 172)) B gb w.heap.size g G l nm G.rules [] vT vS vN vR pv (.slice none 0 0) := by
  have hk : Keeps w (w.alloc (.cells #[.string nm, .slice none 0 0] 172)) [] := (Keeps.refl w []).alloc _
  have hg := hl.1
  have nosl : (Value.slice (none : Option Addr) 0 0).ownBlock = none := rfl
  refine ⟨h.keeps hk (by simp) (by simp) (by simp) (by simp) (by simp) (by simp), heap_alloc_new w _, fun e => ?_, ⟨World.ownsRow_nil _ _ _ _, .inl rfl⟩, fun p _ => ?_, hl.keeps hk (by simp), hgR, by rw [nosl]; simp, by omega, gbg, hB⟩
  · have := own_lt h.rules e; omega
  · rw [nosl]
    cases p.ownBlock with
    | none => exact .inl rfl
    | some k => exact .inr (by simp)

/-- One part of a rule line. -/
def rstep (nm : ByteArray) (st : List (ByteArray × List ByteArray) × List ByteArray × Bool) (x : ByteArray) : List (ByteArray × List ByteArray) × List ByteArray × Bool :=
  if barB x then (st.1 ++ [(nm, st.2.1)], [], st.2.2) else (st.1, st.2.1 ++ [x], st.2.2 || decide (8 < st.2.1.length + 1))

def rst (R : List (ByteArray × List ByteArray)) (nm : ByteArray) (l : List ByteArray) : List (ByteArray × List ByteArray) × List ByteArray × Bool := l.foldl (rstep nm) (R, [], false)

end Go.Proofs.YtjjggdcnpndgjaaGreatDoor

namespace Go.Proofs.YtjjggdcnpndgjaaGreatDoor
open Go.RowKit

/-! Short words for what the walks say again and again: an operation taken first; how its place in the frame is laid. -/
theorem tkA {P : Program} {md : Region.Mode} {ops : Array Oper} {Q : Exit → Act → World → Prop} {S : World → Prop} (i : Nat) {oi : Oper} (v : Value) {fuel : Nat} {listed : Array Bool} {a : Act} {w : World} (hi : ops[i]? = some oi)
    (hy : ∀ w, S w → (execOp a.eval oi).run P w = .ok (.value v) w) (hS : S w) (h : wpAnyH P md ops Q S fuel (listed.setIfInBounds i true) (a.put oi.dst v) w)
    (hw : Region.wanted oi (yielded ops a.tmps) = true := by rfl) (hs : Region.noSelect ops = true := by kernel_rfl) (hf : Region.free md ops listed i = true := by kernel_rfl) (hr : (Region.ready md ops listed).contains i = true := by kernel_rfl)
    (hQ : ∀ c a w, Q (.panic c) (a.put oi.dst v) w → Q (.panic c) a w := by exact fun _ _ _ h => h) : wpAnyH P md ops Q S (fuel + 1) listed a w :=
  wpAnyH_take hi hs hf hr hQ (.inl ⟨hw, hy⟩) hS h
theorem zA {α : Type _} {xs : List α} {i : Nat} (h : i < xs.toArray.size) : xs.toArray[i] = xs[i]'(by simpa using h) := rfl
theorem zB {α : Type _} (a : α) (bs : List α) (i : Nat) (h : i + 1 < (a :: bs).length) : (a :: bs)[i+1] = bs[i]'(by simpa using h) := rfl
theorem zC {α : Type _} (a : α) (bs : List α) (h : 0 < (a :: bs).length) : (a :: bs)[0] = a := rfl
theorem zD {α : Type _} (l : List α) (i : Nat) (a : α) : l.toArray.setIfInBounds i a = (l.set i a).toArray := List.setIfInBounds_toArray l i a
theorem zE {α : Type _} {x : α} {xs : List α} {a : α} : (x :: xs).set 0 a = a :: xs := rfl
theorem zF {α : Type _} {x : α} {xs : List α} {n : Nat} {a : α} : (x :: xs).set (n + 1) a = x :: xs.set n a := rfl

/-- What is asked behind a region, of a way that ends as it should; any other way is not borne. -/
def OnlyEnd (R : Act → World → Prop) : Exit → Act → World → Prop
  | .normal, a, w => R a w
  | _, _, _ => False

/-- The operation in whose place nothing is done. -/
def idle (o : Oper) : Oper := { o with op := .move (.const undef) }

/-- The last operation idle. -/
def cutLast : List Oper → List Oper
  | [] => []
  | [o] => [idle o]
  | o :: p :: r => o :: cutLast (p :: r)

theorem cutLast_length : ∀ l : List Oper, (cutLast l).length = l.length
  | [] => rfl
  | [_] => rfl
  | _ :: p :: r => by simp [cutLast, cutLast_length (p :: r)]

theorem cutLast_at : ∀ (l : List Oper) (i : Nat), i + 1 ≠ l.length → (cutLast l)[i]? = l[i]?
  | [], i, _ => rfl
  | [o], i, h => by
    match i with
    | 0 => simp at h
    | i + 1 => rfl
  | o :: p :: r, i, h => by
    match i with
    | 0 => rfl
    | i + 1 =>
      show (cutLast (p :: r))[i]? = (p :: r)[i]?
      exact cutLast_at (p :: r) i (by simp at h ⊢; omega)

theorem cutLast_end : ∀ (l : List Oper) (o : Oper), l.getLast? = some o → (cutLast l)[l.length - 1]? = some (idle o) ∧ l[l.length - 1]? = some o
  | [], o, h => by simp at h
  | [x], o, h => by simp at h; subst h; exact ⟨rfl, rfl⟩
  | x :: p :: r, o, h => by
    have := cutLast_end (p :: r) o (by simpa using h)
    refine ⟨?_, ?_⟩
    · show (x :: cutLast (p :: r))[(p :: r).length]? = _
      simpa using this.1
    · simpa using this.2

/-- The last one waits for each other, at one step or at two; none waits for itself or a later one; the last one is plain. -/
def lastB (l : List Oper) : Bool :=
  match l.getLast? with
  | none => false
  | some o => o.guard.isNone && (o.dst.isNone && ((List.range (l.length - 1)).all (fun j => o.after.toList.any fun e => Region.binds .any e && (e.on == j || ((l[e.on]?).map fun x => x.after.toList.any fun e2 => Region.binds .any e2 && e2.on == j).getD false)) &&
      (List.range l.length).all fun i => ((l[i]?).map fun x => x.after.toList.all fun e => decide (e.on < i)).getD true))

section
variable {P : Program} {Q : Exit → Act → World → Prop} {S : World → Prop}

theorem ready_cut (l : List Oper) (listed : Array Bool) : Region.ready .any (cutLast l).toArray listed = Region.ready .any l.toArray listed := by
  unfold Region.ready
  rw [List.size_toArray, List.size_toArray, cutLast_length]
  apply List.filter_congr
  intro i hi
  rw [List.mem_range] at hi
  congr 1
  by_cases h : i + 1 = l.length
  · cases hl : l.getLast? with
    | none => rw [List.getLast?_eq_none_iff] at hl; subst hl; simp at hi
    | some o =>
      have := cutLast_end l o hl
      have e : i = l.length - 1 := by omega
      rw [List.getElem?_toArray, List.getElem?_toArray, e, this.1, this.2]
      rfl
  · rw [List.getElem?_toArray, List.getElem?_toArray, cutLast_at l i h]

theorem yielded_cut (l : List Oper) (t : Array Value) : yielded (cutLast l).toArray t = yielded l.toArray t := by
  funext j
  unfold yielded
  rw [List.getElem?_toArray, List.getElem?_toArray]
  by_cases h : j + 1 = l.length
  · cases hl : l.getLast? with
    | none => rw [List.getLast?_eq_none_iff] at hl; subst hl; rfl
    | some o =>
      have := cutLast_end l o hl
      have e : j = l.length - 1 := by omega
      rw [e, this.1, this.2]
      rfl
  · rw [cutLast_at l j h]

theorem wp_onlyEnd {o : Oper} {a : Act} {w : World} {R : Act → World → Prop} {K K' : Act → World → Prop} (hK : ∀ a w, K a w → K' a w) (h : o.wp P a w K (OnlyEnd R) ∨ (o.asks P a w ∧ LetsOut (OnlyEnd R))) :
    o.wp P a w K' Q ∨ (o.asks P a w ∧ LetsOut Q) := by
  rcases h with h | ⟨_, a', w', h⟩
  · left
    unfold Oper.wp at *
    generalize (execOp a.eval o).run P w = r at *
    cases r with
    | ok n w' =>
      cases n <;> simp only [Oper.upon] at h ⊢ <;>
        first
          | exact hK _ _ h
          | exact Calls.mono h (fun e w'' he => by
              cases e with
              | returned v => exact hK _ _ he
              | panicked c => exact False.elim he
              | outgrown => obtain ⟨_, _, he⟩ := he; exact False.elim he)
          | exact Rows.mono h (fun _ _ he => hK _ _ he)
    | halt x w' =>
      cases x <;> simp only [Oper.upon] at h ⊢
      case panic v => exact False.elim h
  · exact False.elim h

/-- Nothing may come up: all have come up. -/
theorem ready_nil {l : List Oper} (hB : lastB l = true) {listed : Array Bool} (hs : listed.size = l.length) (h : Region.ready .any l.toArray listed = []) : ∀ i, i < l.length → listed.getD i true = true := by
  intro i
  induction i using Nat.strongRecOn with
  | _ i ih =>
    intro hi
    cases hv : listed.getD i true with
    | true => rfl
    | false =>
      have hmem : i ∈ Region.ready .any l.toArray listed := by
        rw [mem_ready]
        refine ⟨hv, l[i], by simp [hi], fun e he hb => ?_⟩
        unfold lastB at hB
        split at hB
        · cases hB
        · simp only [Bool.and_eq_true, List.all_eq_true, List.mem_range] at hB
          have h1 := hB.2.2.2 i hi
          rw [List.getElem?_eq_getElem hi] at h1
          simp only [Option.map_some, Option.getD_some, List.all_eq_true, decide_eq_true_eq] at h1
          have h2 := h1 e (by simpa using he)
          have h3 := ih e.on h2 (by omega)
          rw [Array.getD_eq_getD_getElem?] at h3 ⊢
          rw [Array.getElem?_eq_getElem (by omega)] at h3 ⊢
          simpa using h3
      rw [h] at hmem
      cases hmem

/-- What has come up came behind what it waits for. -/
def Closed (l : List Oper) (listed : Array Bool) : Prop := ∀ (k : Nat) (o : Oper), l[k]? = some o → listed.getD k false = true → ∀ e ∈ o.after, Region.binds .any e = true → listed.getD e.on false = true

theorem Closed.step {l : List Oper} {listed : Array Bool} (hc : Closed l listed) {i : Nat} (hi : i ∈ Region.ready .any l.toArray listed) : Closed l (listed.setIfInBounds i true) := by
  intro k o hk hl e he hb
  by_cases hki : i = k
  · subst hki
    obtain ⟨_, o', h1, h2⟩ := mem_ready.1 hi
    rw [List.getElem?_toArray, hk] at h1
    injection h1 with h1
    subst h1
    exact getD_set_true (h2 e he hb)
  · rw [getD_set_ne false hki] at hl
    exact getD_set_true (hc k o hk hl e he hb)

/-- Where the last one may come up, each other has come up. -/
theorem last_ready {l : List Oper} (hB : lastB l = true) {listed : Array Bool} (hc : Closed l listed) (h : l.length - 1 ∈ Region.ready .any l.toArray listed) : ∀ j, j + 1 < l.length → listed.getD j false = true := by
  intro j hj
  obtain ⟨_, o, ho, hall⟩ := mem_ready.1 h
  unfold lastB at hB
  split at hB
  · cases hB
  · rename_i o' hl
    have h2 := (cutLast_end l o' hl).2
    rw [List.getElem?_toArray, h2] at ho
    injection ho with ho
    subst ho
    simp only [Bool.and_eq_true, List.all_eq_true, List.mem_range] at hB
    have h3 := hB.2.2.1 j (by omega)
    rw [List.any_eq_true] at h3
    obtain ⟨e, he, h3⟩ := h3
    simp only [Bool.and_eq_true, Bool.or_eq_true, beq_iff_eq] at h3
    have h4 := hall e (by simpa using he) h3.1
    rcases h3.2 with h5 | h5
    · rw [h5] at h4; exact h4
    · cases hx : l[e.on]? with
      | none => rw [hx] at h5; simp at h5
      | some x =>
        rw [hx] at h5
        simp only [Option.map_some, Option.getD_some, List.any_eq_true, Bool.and_eq_true, beq_iff_eq] at h5
        obtain ⟨e2, he2, hb2, hj2⟩ := h5
        have := hc e.on x hx h4 e2 (by simpa using he2) hb2
        rw [hj2] at this
        exact this

theorem wpAny_uncut {l : List Oper} {o : Oper} (ho : l.getLast? = some o) (hB : lastB l = true) : ∀ (fuel : Nat) (listed : Array Bool) (a : Act) (w : World), listed.size = l.length → Closed l listed → listed.getD (l.length - 1) true = false →
    wpAny P .any (cutLast l).toArray (OnlyEnd fun a w => wpList P #[o] Q [o] a w) fuel listed a w → wpAny P .any l.toArray Q fuel listed a w := by
  have hpos : 0 < l.length := by cases l with | nil => simp at ho | cons _ _ => simp
  intro fuel
  induction fuel with
  | zero =>
    intro listed a w hs hcl hl h
    have h1 := h.1
    rw [ready_cut] at h1
    have := ready_nil hB hs h1 (l.length - 1) (by omega)
    rw [hl] at this; cases this
  | succ fuel ih =>
    intro listed a w hs hcl hl h
    refine ⟨fun h1 => ?_, fun i hi => ?_⟩
    · have := ready_nil hB hs h1 (l.length - 1) (by omega)
      rw [hl] at this; cases this
    · have h2 := h.2 i (by rw [ready_cut]; exact hi)
      unfold wpOp at h2 ⊢
      have hio : ∃ oi, l[i]? = some oi := by
        obtain ⟨_, oi, h3, _⟩ := mem_ready.1 hi
        exact ⟨oi, by simpa using h3⟩
      obtain ⟨oi, hoi⟩ := hio
      by_cases hlast : i + 1 = l.length
      · have e : i = l.length - 1 := by omega
        subst e
        have hc := cutLast_end l o ho
        rw [List.getElem?_toArray, hc.1] at h2
        rw [List.getElem?_toArray, hc.2]
        have hg : o.guard = none ∧ o.dst = none := by
          unfold lastB at hB
          rw [ho] at hB
          simp only [Bool.and_eq_true, Option.isNone_iff_eq_none] at hB
          exact ⟨hB.1, hB.2.1⟩
        have hw1 : Region.wanted (idle o) (yielded (cutLast l).toArray a.tmps) = true := by
          unfold Region.wanted idle; rw [hg.1]
        have hw2 : Region.wanted o (yielded l.toArray a.tmps) = true := by
          unfold Region.wanted; rw [hg.1]
        have hw3 : Region.wanted o (yielded #[o] a.tmps) = true := by
          unfold Region.wanted; rw [hg.1]
        simp only [hw1, hw2, if_true] at h2 ⊢
        have hnil : Region.ready .any l.toArray (listed.setIfInBounds (l.length - 1) true) = [] := by
          rw [List.eq_nil_iff_forall_not_mem]
          intro j hj
          obtain ⟨h4, oj, h5, _⟩ := mem_ready.1 hj
          have hjl : j < l.length := by
            rw [List.getElem?_toArray] at h5
            exact (List.getElem?_eq_some_iff.1 h5).1
          by_cases hjl' : j = l.length - 1
          · subst hjl'
            simp [hs] at h4
          · rw [getD_set_ne true (Ne.symm hjl')] at h4
            have h6 := last_ready hB hcl hi j (by omega)
            rw [Array.getD_eq_getD_getElem?, Array.getElem?_eq_getElem (by omega)] at h4 h6
            simp at h4 h6
            rw [h4] at h6; cases h6
        have hend : wpList P #[o] Q [o] a w := by
          rcases h2 with h2 | ⟨_, a', w', h2⟩
          · have h7 : (idle o).wp P a w (wpAny P .any (cutLast l).toArray (OnlyEnd fun a w => wpList P #[o] Q [o] a w) fuel (listed.setIfInBounds (l.length - 1) true)) (OnlyEnd fun a w => wpList P #[o] Q [o] a w) := h2
            unfold Oper.wp at h7
            have hr : (execOp a.eval (idle o)).run P w = .ok (.value undef) w := by
              simp [execOp, idle, Act.eval]
            rw [hr] at h7
            have h8 : wpAny P .any (cutLast l).toArray (OnlyEnd fun a w => wpList P #[o] Q [o] a w) fuel (listed.setIfInBounds (l.length - 1) true) (a.put o.dst undef) w := h7
            rw [hg.2] at h8
            have h9 : a.put none undef = a := rfl
            rw [h9] at h8
            cases fuel with
            | zero => exact h8.2
            | succ f => exact h8.1 (by rw [ready_cut]; exact hnil)
          · exact False.elim h2
        unfold wpList at hend
        rw [hw3, if_pos rfl] at hend
        refine hend.imp (fun h => Oper.wp_mono (fun a' w' h' => ?_) h) id
        cases fuel with
        | zero => exact ⟨hnil, h'⟩
        | succ f => exact ⟨fun _ => h', by rw [hnil]; simp⟩
      · rw [List.getElem?_toArray, cutLast_at l i hlast, hoi] at h2
        rw [List.getElem?_toArray, hoi]
        simp only at h2 ⊢
        rw [yielded_cut] at h2
        have hs' : (listed.setIfInBounds i true).size = l.length := by simp [hs]
        have hcl' := hcl.step hi
        have hl' : (listed.setIfInBounds i true).getD (l.length - 1) true = false := by rw [getD_set_ne true (by omega)]; exact hl
        split at h2
        · rename_i hw
          rw [if_pos hw]
          exact wp_onlyEnd (fun a' w' h' => ih _ a' w' hs' hcl' hl' h') h2
        · rename_i hw
          rw [if_neg hw]
          exact ih _ _ _ hs' hcl' hl' h2

/-- The last of a list, to be laid out by its own equations. -/
def lastOf : List Oper → Oper
  | [] => default
  | [o] => o
  | _ :: p :: r => lastOf (p :: r)

theorem lastOf_spec : ∀ (l : List Oper), l ≠ [] → l.getLast? = some (lastOf l)
  | [], h => absurd rfl h
  | [o], _ => rfl
  | x :: p :: r, _ => by
    have := lastOf_spec (p :: r) (by simp)
    show (x :: p :: r).getLast? = some (lastOf (p :: r))
    rw [List.getLast?_cons_cons]; exact this

/-- THE LAW: all but the last operation under S; then the last one, as a walk's list. -/
theorem wp_region_last {id : Nat} {l : List Oper} {a : Act} {w : World} (S : World → Prop) (hm : P.follows .mixedOrders = true) (hB : lastB l = true) (hS : S w.drew)
    (h : S w.drew → wpAnyH P .any (cutLast l).toArray (OnlyEnd fun a w => wpList P #[lastOf l] Q [lastOf l] a w) S l.length (Array.replicate l.length false) a w.drew) : (Code.region id l.toArray true).wp P Q a w := by
  refine wp_region_any hm ?_
  have ho : l.getLast? = some (lastOf l) := by
    refine lastOf_spec l ?_
    intro e; subst e; cases hB
  have hpos : 0 < l.length := by cases l with | nil => simp at ho | cons _ _ => simp
  rw [List.size_toArray]
  refine wpAny_uncut ho hB _ _ _ _ (by simp) ?_ ?_ (wpAny_of_held _ _ _ _ (h hS))
  · intro k o' hk hl
    rw [Array.getD_eq_getD_getElem?] at hl
    rcases Nat.lt_or_ge k l.length with h' | h'
    · simp [h'] at hl
    · simp [h'] at hl
  rw [Array.getD_eq_getD_getElem?, Array.getElem?_eq_getElem (by simp; omega)]
  simp

end
end Go.Proofs.YtjjggdcnpndgjaaGreatDoor
