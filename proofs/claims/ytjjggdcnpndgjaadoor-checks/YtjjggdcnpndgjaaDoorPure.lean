/- Plain lemmas on lists of bytes: nothing of the program. -/
namespace Go.Proofs.YtjjggdcnpndgjaaDoor

/-- All bytes of l lie from lo to hi. -/
def allIn (l : List UInt8) (lo hi : Int) : Bool := l.all fun c => decide (lo ≤ (c.toNat : Int)) && decide ((c.toNat : Int) ≤ hi)

/-- darnref.made. -/
def madeB (l : List UInt8) (lo hi n : Int) : Bool := decide (1 ≤ l.length) && (decide ((l.length : Int) ≤ n) && allIn l lo hi)

theorem take_snoc (s : ByteArray) (k : Nat) (h : k < s.size) : s.data.toList.take (k + 1) = s.data.toList.take k ++ [s[k]] := by
  rw [List.take_succ_eq_append_getElem (by simpa using h)]; rfl

theorem allIn_snoc (l : List UInt8) (c : UInt8) (lo hi : Int) : allIn (l ++ [c]) lo hi = (allIn l lo hi && (decide (lo ≤ (c.toNat : Int)) && decide ((c.toNat : Int) ≤ hi))) := by
  unfold allIn; simp

theorem allIn_take_false {l : List UInt8} {lo hi : Int} {k : Nat} (h : allIn (l.take k) lo hi = false) : allIn l lo hi = false := by
  unfold allIn at *
  rw [List.all_eq_false] at *
  obtain ⟨x, hx, h⟩ := h
  exact ⟨x, List.mem_of_mem_take hx, h⟩

theorem madeB_short {s : ByteArray} {lo hi n : Int} (h : (s.size : Int) < 1 ∨ n < (s.size : Int)) : madeB s.data.toList lo hi n = false := by
  have hlen : s.data.toList.length = s.size := by simp
  unfold madeB; rw [hlen]
  rcases h with h | h
  · rw [decide_eq_false (by omega)]; rfl
  · rw [decide_eq_false (p := (s.size : Int) ≤ n) (by omega)]; simp

theorem allIn_stop {s : ByteArray} {lo hi : Int} {k : Nat} (hk : k < s.size) (h : (s[k].toNat : Int) < lo ∨ hi < (s[k].toNat : Int)) : allIn s.data.toList lo hi = false := by
  refine allIn_take_false (k := k + 1) ?_
  rw [take_snoc s k hk, allIn_snoc]
  rcases h with h | h
  · rw [decide_eq_false (p := lo ≤ (s[k].toNat : Int)) (by omega)]; simp
  · rw [decide_eq_false (p := (s[k].toNat : Int) ≤ hi) (by omega)]; simp

theorem allIn_step {s : ByteArray} {lo hi : Int} {k : Nat} (hk : k < s.size) (h0 : allIn (s.data.toList.take k) lo hi = true) (h : lo ≤ (s[k].toNat : Int) ∧ (s[k].toNat : Int) ≤ hi) :
    allIn (s.data.toList.take (k + 1)) lo hi = true := by
  rw [take_snoc s k hk, allIn_snoc, h0, decide_eq_true h.1, decide_eq_true h.2]; rfl

theorem allIn_done {s : ByteArray} {lo hi : Int} {k : Nat} (hk : ¬ k < s.size) (h0 : allIn (s.data.toList.take k) lo hi = true) : allIn s.data.toList lo hi = true := by
  rwa [List.take_of_length_le (by simp; omega)] at h0

theorem madeB_stop {s : ByteArray} {lo hi n : Int} {k : Nat} (hk : k < s.size) (h : (s[k].toNat : Int) < lo ∨ hi < (s[k].toNat : Int)) : madeB s.data.toList lo hi n = false := by
  unfold madeB; rw [allIn_stop hk h]; simp

theorem madeB_yes {s : ByteArray} {lo hi n : Int} {k : Nat} (hk : ¬ k < s.size) (h0 : allIn (s.data.toList.take k) lo hi = true) (h : 1 ≤ (s.size : Int) ∧ (s.size : Int) ≤ n) : madeB s.data.toList lo hi n = true := by
  have hlen : s.data.toList.length = s.size := by simp
  unfold madeB; rw [allIn_done hk h0, hlen, decide_eq_true h.2, decide_eq_true (p := 1 ≤ s.size) (by omega)]; rfl

/-- darnref.isCost. -/
def costB (l : List UInt8) : Bool := madeB l 48 57 2 && !(l.head? == some 48)

theorem madeB_pos {s : ByteArray} {lo hi n : Int} (h : madeB s.data.toList lo hi n = true) : 0 < s.size := by
  have hlen : s.data.toList.length = s.size := by simp
  unfold madeB at h; simp only [Bool.and_eq_true, decide_eq_true_eq] at h; omega

/-- darnref.cost: a numeral's value. -/
def valD (l : List UInt8) : Int := l.foldl (fun n c => 10 * n + (c.toNat : Int) - 48) 0

theorem valD_snoc (l : List UInt8) (c : UInt8) : valD (l ++ [c]) = 10 * valD l + (c.toNat : Int) - 48 := by
  unfold valD; simp

theorem costB_eq {s : ByteArray} (h : madeB s.data.toList 48 57 2 = true) (hp : 0 < s.size) : costB s.data.toList = ((s[0].toNat : Int) != 48) := by
  unfold costB; rw [h]
  have e : s.data.toList.head? = some s[0] := by
    rw [List.head?_eq_getElem?, List.getElem?_eq_getElem (by simpa using hp)]; rfl
  rw [e, Bool.eq_iff_iff]
  simp only [Bool.true_and, Bool.not_eq_true', beq_eq_false_iff_ne, ne_eq, Option.some.injEq, bne_iff_ne]
  rw [← UInt8.toNat_inj]
  show ¬ (s[0].toNat = 48) ↔ _
  omega

theorem valD_step {s : ByteArray} {k : Nat} (h : k < s.size) : valD (s.data.toList.take (k + 1)) = 10 * valD (s.data.toList.take k) + (s[k].toNat : Int) - 48 := by
  rw [take_snoc s k h, valD_snoc]

theorem allIn_at {s : ByteArray} {lo hi : Int} {k : Nat} (hk : k < s.size) (h : allIn s.data.toList lo hi = true) : lo ≤ (s[k].toNat : Int) ∧ (s[k].toNat : Int) ≤ hi := by
  unfold allIn at h
  rw [List.all_eq_true] at h
  have := h s[k] (by simp [ByteArray.getElem_eq_getElem_data])
  simpa using this

theorem valD_bd {s : ByteArray} (hs : s.size ≤ 2) (hd : allIn s.data.toList 48 57 = true) (k : Nat) : 0 ≤ valD (s.data.toList.take k) ∧ valD (s.data.toList.take k) ≤ 99 := by
  obtain ⟨d⟩ := s
  obtain ⟨l⟩ := d
  have hl : l.length ≤ 2 := by simpa [ByteArray.size] using hs
  simp only [allIn, List.all_eq_true, Bool.and_eq_true, decide_eq_true_eq] at hd
  have hd' : ∀ x ∈ l, 48 ≤ (x.toNat : Int) ∧ (x.toNat : Int) ≤ 57 := hd
  show 0 ≤ valD (l.take k) ∧ valD (l.take k) ≤ 99
  match l, hl with
  | [], _ => simp [valD]
  | [a], _ =>
    have := hd' a (by simp)
    match k with
    | 0 => simp [valD]
    | k + 1 => simp [valD]; omega
  | [a, b], _ =>
    have h1 := hd' a (by simp)
    have h2 := hd' b (by simp)
    match k with
    | 0 => simp [valD]
    | 1 => simp [valD]; omega
    | k + 2 => simp [valD]; omega

/-- The line that begins at a place: darnref.lineAt. -/
def lineB (s : ByteArray) (a : Nat) : ByteArray × Int :=
  match (s.data.toList.drop a).findIdx? (· == 10) with
  | some j => (s.extract a (a + j), (a + j + 1 : Nat))
  | none => (ByteArray.empty, 0)

theorem byte_at {s : ByteArray} {k : Nat} (h : k < s.size) : s.data.toList[k]? = some s[k] := by
  rw [List.getElem?_eq_getElem (by simpa using h)]; rfl

theorem byte_ten {c : UInt8} : ((c.toNat : Int) == 10) = (c == 10) := by
  rw [Bool.eq_iff_iff]; simp only [beq_iff_eq]; rw [← UInt8.toNat_inj]; show _ ↔ c.toNat = 10; omega

theorem lineB_found {s : ByteArray} {a k : Nat} (ha : a ≤ k) (hk : k < s.size) (h : ((s[k].toNat : Int) == 10) = true) (hno : ∀ j, a ≤ j → j < k → s.data.toList[j]? ≠ some 10) :
    lineB s a = (s.extract a k, (k : Int) + 1) := by
  rw [byte_ten] at h
  have e : (s.data.toList.drop a).findIdx? (· == 10) = some (k - a) := by
    rw [List.findIdx?_eq_some_iff_getElem]
    refine ⟨by simp; omega, ?_, ?_⟩
    · have h2 := byte_at hk
      simp only [List.getElem_drop]
      have : s.data.toList[a + (k - a)]'(by simp; omega) = s[k] := by
        have : a + (k - a) = k := by omega
        simp only [this]; rfl
      rw [this]; exact h
    · intro j hj
      simp only [List.getElem_drop]
      have h3 := hno (a + j) (by omega) (by omega)
      rw [List.getElem?_eq_getElem (by simp; omega)] at h3
      simpa using h3
  unfold lineB; rw [e]
  simp only
  rw [show a + (k - a) = k from by omega]
  rfl

theorem lineB_next {s : ByteArray} {a k : Nat} (hk : k < s.size) (h : ((s[k].toNat : Int) == 10) = false) (hno : ∀ j, a ≤ j → j < k → s.data.toList[j]? ≠ some 10) :
    ∀ j, a ≤ j → j < k + 1 → s.data.toList[j]? ≠ some 10 := by
  intro j h1 h2
  by_cases e : j = k
  · subst e; rw [byte_at hk]; rw [byte_ten] at h; simpa using h
  · exact hno j h1 (by omega)

theorem lineB_none {s : ByteArray} {a k : Nat} (hk : ¬ k < s.size) (hno : ∀ j, a ≤ j → j < k → s.data.toList[j]? ≠ some 10) : lineB s a = (ByteArray.empty, 0) := by
  have e : (s.data.toList.drop a).findIdx? (· == 10) = none := by
    rw [List.findIdx?_eq_none_iff]
    intro x hx
    obtain ⟨j, hj, rfl⟩ := List.mem_iff_getElem.1 hx
    simp only [List.getElem_drop]
    simp at hj
    have h3 := hno (a + j) (by omega) (by omega)
    rw [List.getElem?_eq_getElem (by simp; omega)] at h3
    simpa using h3
  unfold lineB; rw [e]

end Go.Proofs.YtjjggdcnpndgjaaDoor
