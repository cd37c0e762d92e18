/- A numbered grammar; the reference's facts over it, as rounds; what a least solution is. Plain lists: nothing of the program. What names least cost, what begins them, what follows them: the reference's rounds, and what they come to. Plain lists. What follows a name: the reference's rounds, and what they come to. Plain lists. The facts that the program keeps of its names, and what its rounds come to. Plain lists. What the program's rounds for reached, first and follow come to. Plain lists. What the program's rounds for follow come to. Plain lists. -/
namespace Go.Proofs.YtjjggdcnpndgjaaGreatDoor

inductive Pt where
  | tok (t : Nat)
  | nam (n : Nat)

structure NG where
  nT : Nat
  nN : Nat
  put : Nat → Nat
  drop : Nat → Nat
  swp : Nat → Nat → Nat
  rules : List (Nat × List Pt)

structure NG.Ok (N : NG) : Prop where
  pos : 0 < N.nN
  lt : ∀ r ∈ N.rules, r.1 < N.nN
  pn : ∀ r ∈ N.rules, ∀ n, Pt.nam n ∈ r.2 → n < N.nN
  pt : ∀ r ∈ N.rules, ∀ t, Pt.tok t ∈ r.2 → t < N.nT
  put1 : ∀ t, t < N.nT → 1 ≤ N.put t
  put2 : ∀ t, t < N.nT → N.put t ≤ 99
  drop1 : ∀ t, t < N.nT → 1 ≤ N.drop t
  drop2 : ∀ t, t < N.nT → N.drop t ≤ 99
  swp2 : ∀ t u, N.swp t u ≤ 99
  parts : ∀ r ∈ N.rules, r.2.length ≤ 8

def iter {σ : Type} (F : σ → σ) : Nat → σ → σ
  | 0, s => s
  | k + 1, s => iter F k (F s)

theorem foldl_fix {σ ρ : Type} (step : σ → ρ → σ) (μ : σ → Nat) (I : σ → Prop) (l : List ρ) (h : ∀ s, I s → ∀ r ∈ l, (step s r = s ∨ μ (step s r) < μ s) ∧ I (step s r)) :
    ∀ s, I s → ((l.foldl step s = s ∧ ∀ r ∈ l, step s r = s) ∨ μ (l.foldl step s) < μ s) ∧ I (l.foldl step s) := by
  induction l with
  | nil => intro s hi; exact ⟨.inl ⟨rfl, fun r hr => by cases hr⟩, hi⟩
  | cons x r ih =>
    intro s hi
    have ih' := ih (fun s hs q hq => h s hs q (List.mem_cons_of_mem _ hq))
    obtain ⟨h1, h2⟩ := h s hi x (List.mem_cons_self ..)
    rw [List.foldl_cons]
    rcases h1 with h1 | h1
    · rw [h1]
      obtain ⟨h3, h4⟩ := ih' s hi
      refine ⟨?_, h4⟩
      rcases h3 with ⟨h3, h5⟩ | h3
      · exact .inl ⟨h3, fun q hq => by rcases List.mem_cons.1 hq with rfl | hq; exact h1; exact h5 q hq⟩
      · exact .inr h3
    · obtain ⟨h3, h4⟩ := ih' _ h2
      refine ⟨.inr ?_, h4⟩
      rcases h3 with ⟨h3, _⟩ | h3
      · rw [h3]; exact h1
      · omega

theorem iter_fix {σ : Type} (F : σ → σ) (μ : σ → Nat) (I : σ → Prop) (h : ∀ s, I s → (F s = s ∨ μ (F s) < μ s) ∧ I (F s)) : ∀ (k : Nat) (s : σ), I s → μ s ≤ k → F (iter F k s) = iter F k s ∧ I (iter F k s) := by
  intro k
  induction k with
  | zero =>
    intro s hi hk
    obtain ⟨h1, h2⟩ := h s hi
    rcases h1 with h1 | h1
    · exact ⟨h1, hi⟩
    · omega
  | succ k ih =>
    intro s hi hk
    obtain ⟨h1, h2⟩ := h s hi
    show F (iter F k (F s)) = iter F k (F s) ∧ _
    rcases h1 with h1 | h1
    · rw [h1]
      have hfix : ∀ j, iter F j s = s := by
        intro j
        induction j with
        | zero => rfl
        | succ j ihj => show iter F j (F s) = s; rw [h1]; exact ihj
      show F (iter F k s) = iter F k s ∧ I (iter F k (F s))
      rw [h1, hfix k]
      exact ⟨h1, hi⟩
    · exact ih (F s) h2 (by omega)

theorem iter_inv {σ : Type} (F : σ → σ) (I : σ → Prop) (h : ∀ s, I s → I (F s)) : ∀ (k : Nat) (s : σ), I s → I (iter F k s) := by
  intro k
  induction k with
  | zero => intro s hi; exact hi
  | succ k ih => intro s hi; exact ih (F s) (h s hi)

theorem foldl_inv {σ ρ : Type} (step : σ → ρ → σ) (I : σ → Prop) (l : List ρ) (h : ∀ s, I s → ∀ r ∈ l, I (step s r)) : ∀ s, I s → I (l.foldl step s) := by
  induction l with
  | nil => intro s hi; exact hi
  | cons x r ih => intro s hi; exact ih (fun s hs q hq => h s hs q (List.mem_cons_of_mem _ hq)) _ (h s hi x (List.mem_cons_self ..))

/-- Rounds over a list of rules, often enough: no rule turns anything any more. -/
theorem rounds_fix {σ ρ : Type} (step : σ → ρ → σ) (μ : σ → Nat) (I : σ → Prop) (l : List ρ) (h : ∀ s, I s → ∀ r ∈ l, (step s r = s ∨ μ (step s r) < μ s) ∧ I (step s r)) (k : Nat) (s : σ) (hs : I s) (hk : μ s ≤ k) :
    I (iter (fun s => l.foldl step s) k s) ∧ ∀ r ∈ l, step (iter (fun s => l.foldl step s) k s) r = iter (fun s => l.foldl step s) k s := by
  have hround := foldl_fix step μ I l h
  have hit := iter_fix (fun s => l.foldl step s) μ I (fun s hs => ⟨(hround s hs).1.imp (fun h => h.1) id, (hround s hs).2⟩) k s hs hk
  refine ⟨hit.2, ?_⟩
  rcases (hround _ hit.2).1 with ⟨_, h1⟩ | h1
  · exact h1
  · have h2 : List.foldl step (iter (fun s => l.foldl step s) k s) l = iter (fun s => l.foldl step s) k s := hit.1
    rw [h2] at h1
    omega

theorem rounds_inv {σ ρ : Type} (step : σ → ρ → σ) (I : σ → Prop) (l : List ρ) (h : ∀ s, I s → ∀ r ∈ l, I (step s r)) (k : Nat) (s : σ) (hs : I s) : I (iter (fun s => l.foldl step s) k s) :=
  iter_inv _ I (fun s hs => foldl_inv step I l h s hs) k s hs

/-- What holds of a list of Bools at a place. -/
def bAt (l : List Bool) (n : Nat) : Bool := l.getD n false

theorem bAt_set (l : List Bool) (n m : Nat) (b : Bool) : bAt (l.set n b) m = if n = m ∧ n < l.length then b else bAt l m := by
  unfold bAt
  simp only [List.getD_eq_getElem?_getD, List.getElem?_set]
  by_cases h : n = m
  · subst h
    by_cases hl : n < l.length
    · simp [hl]
    · simp [hl]
  · simp [h]

theorem bAt_rep (k n : Nat) : bAt (List.replicate k false) n = false := by
  unfold bAt
  rw [List.getD_eq_getElem?_getD, List.getElem?_replicate]
  split <;> rfl

/-- How many are false. -/
def offs (l : List Bool) : Nat := (l.filter (· == false)).length

theorem offs_set (l : List Bool) (n : Nat) : l.set n true = l ∨ offs (l.set n true) < offs l := by
  induction l generalizing n with
  | nil => left; rfl
  | cons b r ih =>
    cases n with
    | zero =>
      cases b
      · right; simp [offs]
      · left; rfl
    | succ n =>
      rw [List.set_cons_succ]
      rcases ih n with h | h
      · left; rw [h]
      · right
        unfold offs at h ⊢
        cases b <;> simp <;> simpa using h

theorem offs_le (l : List Bool) : offs l ≤ l.length := List.length_filter_le _ _

/-- A least solution: it is closed, and lies in whatever is closed. -/
def Lfp (C : (Nat → Bool) → Prop) (S : Nat → Bool) : Prop := C S ∧ ∀ T, C T → ∀ n, S n = true → T n = true

theorem Lfp.unique {C : (Nat → Bool) → Prop} {S T : Nat → Bool} (h : Lfp C S) (k : Lfp C T) : ∀ n, S n = T n := by
  intro n
  rw [Bool.eq_iff_iff]
  exact ⟨h.2 T k.1 n, k.2 S h.1 n⟩

def eachB (ps : List Pt) (ok : Nat → Bool) (tokens : Bool) : Bool := ps.all fun p => match p with | .tok _ => tokens | .nam n => ok n

theorem eachB_mono {ps : List Pt} {S T : Nat → Bool} {b : Bool} (h : ∀ n, S n = true → T n = true) (he : eachB ps S b = true) : eachB ps T b = true := by
  unfold eachB at *
  rw [List.all_eq_true] at *
  intro p hp
  have := he p hp
  cases p with
  | tok t => exact this
  | nam n => exact h n this

def ClosedC (N : NG) (tokens : Bool) (S : Nat → Bool) : Prop := ∀ r ∈ N.rules, eachB r.2 S tokens = true → S r.1 = true

def closedStep (tokens : Bool) (ok : List Bool) (r : Nat × List Pt) : List Bool := if eachB r.2 (bAt ok) tokens then ok.set r.1 true else ok
def closedRound (N : NG) (tokens : Bool) (ok : List Bool) : List Bool := N.rules.foldl (closedStep tokens) ok
/-- (*Grammar).closed. -/
def closedN (N : NG) (tokens : Bool) : List Bool := iter (closedRound N tokens) (N.nN + 1) (List.replicate N.nN false)

theorem bAt_eq_of {l m : List Bool} (h : l = m) (n : Nat) : bAt l n = bAt m n := by rw [h]

theorem closedN_lfp (N : NG) (hN : N.Ok) (tokens : Bool) : Lfp (ClosedC N tokens) (bAt (closedN N tokens)) ∧ (closedN N tokens).length = N.nN := by
  have hstep : ∀ s : List Bool, s.length = N.nN → ∀ r ∈ N.rules, (closedStep tokens s r = s ∨ offs (closedStep tokens s r) < offs s) ∧ (closedStep tokens s r).length = N.nN := by
    intro s hs r hr
    unfold closedStep
    split
    · exact ⟨offs_set s r.1, by simpa using hs⟩
    · exact ⟨.inl rfl, hs⟩
  have hfix := rounds_fix (closedStep tokens) offs (fun s => s.length = N.nN) N.rules hstep (N.nN + 1) (List.replicate N.nN false) (by simp) (by have := offs_le (List.replicate N.nN false); simp at this; omega)
  have hlen : (closedN N tokens).length = N.nN := hfix.1
  have hst : ∀ r ∈ N.rules, closedStep tokens (closedN N tokens) r = closedN N tokens := hfix.2
  refine ⟨⟨?_, ?_⟩, hlen⟩
  · intro r hr he
    have h2 := hst r hr
    unfold closedStep at h2
    rw [if_pos he] at h2
    have h3 := bAt_eq_of h2 r.1
    rw [bAt_set, if_pos ⟨rfl, by rw [hlen]; exact hN.lt r hr⟩] at h3
    exact h3.symm
  · intro T hT
    refine rounds_inv (closedStep tokens) (fun s => ∀ n, bAt s n = true → T n = true) N.rules (fun s hs r hr => ?_) _ _ (fun n h => by rw [bAt_rep] at h; cases h)
    intro n hn
    unfold closedStep at hn
    split at hn
    · rename_i he
      rw [bAt_set] at hn
      split at hn
      · rename_i h1
        rw [← h1.1]
        exact hT r hr (eachB_mono hs he)
      · exact hs n hn
    · exact hs n hn

/-- The names in a list of parts, taken into a set. -/
def markB (ok : List Bool) : List Pt → List Bool
  | [] => ok
  | .tok _ :: ps => markB ok ps
  | .nam n :: ps => markB (ok.set n true) ps

def ClosedF (N : NG) (S : Nat → Bool) : Prop := S 0 = true ∧ ∀ r ∈ N.rules, S r.1 = true → ∀ n, Pt.nam n ∈ r.2 → S n = true

def foundStep (ok : List Bool) (r : Nat × List Pt) : List Bool := if bAt ok r.1 then markB ok r.2 else ok
def foundRound (N : NG) (ok : List Bool) : List Bool := N.rules.foldl foundStep ok
/-- (*Grammar).found. -/
def foundN (N : NG) : List Bool := iter (foundRound N) (N.nN + 1) ((List.replicate N.nN false).set 0 true)

theorem markB_len (ps : List Pt) : ∀ ok, (markB ok ps).length = ok.length := by
  induction ps with
  | nil => intro ok; rfl
  | cons p r ih => intro ok; cases p <;> simp [markB, ih]

theorem markB_off (ps : List Pt) : ∀ ok, (markB ok ps = ok ∧ ∀ n, Pt.nam n ∈ ps → n < ok.length → bAt ok n = true) ∨ offs (markB ok ps) < offs ok := by
  induction ps with
  | nil => intro ok; exact .inl ⟨rfl, fun n h => by cases h⟩
  | cons p r ih =>
    intro ok
    cases p with
    | tok t =>
      rcases ih ok with ⟨h1, h2⟩ | h
      · exact .inl ⟨h1, fun n h => by rcases List.mem_cons.1 h with h | h; cases h; exact h2 n h⟩
      · exact .inr h
    | nam n =>
      show (markB (ok.set n true) r = ok ∧ _) ∨ offs (markB (ok.set n true) r) < offs ok
      rcases offs_set ok n with h0 | h0
      · rw [h0]
        rcases ih ok with ⟨h1, h2⟩ | h
        · refine .inl ⟨h1, fun m h hm => ?_⟩
          rcases List.mem_cons.1 h with h | h
          · injection h with h; subst h
            have := bAt_eq_of h0 m
            rw [bAt_set, if_pos ⟨rfl, hm⟩] at this
            exact this.symm
          · exact h2 m h hm
        · exact .inr h
      · right
        rcases ih (ok.set n true) with ⟨h1, _⟩ | h
        · rw [h1]; exact h0
        · omega

theorem markB_sound {T : Nat → Bool} (ps : List Pt) : ∀ ok, (∀ n, bAt ok n = true → T n = true) → (∀ n, Pt.nam n ∈ ps → T n = true) → ∀ n, bAt (markB ok ps) n = true → T n = true := by
  induction ps with
  | nil => intro ok h _ n hn; exact h n hn
  | cons p r ih =>
    intro ok h hp
    cases p with
    | tok t => exact ih ok h (fun n hn => hp n (List.mem_cons_of_mem _ hn))
    | nam m =>
      refine ih (ok.set m true) (fun n hn => ?_) (fun n hn => hp n (List.mem_cons_of_mem _ hn))
      rw [bAt_set] at hn
      split at hn
      · rename_i h1; rw [← h1.1]; exact hp m (List.mem_cons_self ..)
      · exact h n hn

theorem foundN_lfp (N : NG) (hN : N.Ok) : Lfp (ClosedF N) (bAt (foundN N)) ∧ (foundN N).length = N.nN := by
  have hstep : ∀ s : List Bool, (s.length = N.nN ∧ bAt s 0 = true) → ∀ r ∈ N.rules, (foundStep s r = s ∨ offs (foundStep s r) < offs s) ∧ ((foundStep s r).length = N.nN ∧ bAt (foundStep s r) 0 = true) := by
    intro s hs r hr
    unfold foundStep
    split
    · refine ⟨(markB_off r.2 s).imp (fun h => h.1) id, by rw [markB_len]; exact hs.1, ?_⟩
      have : ∀ (ps : List Pt) (ok : List Bool), bAt ok 0 = true → bAt (markB ok ps) 0 = true := by
        intro ps
        induction ps with
        | nil => intro ok h; exact h
        | cons p q ih =>
          intro ok h
          cases p with
          | tok t => exact ih ok h
          | nam m =>
            refine ih _ ?_
            rw [bAt_set]
            split
            · rfl
            · exact h
      exact this r.2 s hs.2
    · exact ⟨.inl rfl, hs⟩
  have h0 : ((List.replicate N.nN false).set 0 true).length = N.nN ∧ bAt ((List.replicate N.nN false).set 0 true) 0 = true := by
    refine ⟨by simp, ?_⟩
    rw [bAt_set, if_pos ⟨rfl, by simpa using hN.pos⟩]
  have hfix := rounds_fix foundStep offs (fun s => s.length = N.nN ∧ bAt s 0 = true) N.rules hstep (N.nN + 1) _ h0 (by have := offs_le ((List.replicate N.nN false).set 0 true); simp at this; omega)
  have hlen : (foundN N).length = N.nN := hfix.1.1
  have hst : ∀ r ∈ N.rules, foundStep (foundN N) r = foundN N := hfix.2
  refine ⟨⟨⟨hfix.1.2, ?_⟩, ?_⟩, hlen⟩
  · intro r hr he n hn
    have h2 := hst r hr
    unfold foundStep at h2
    rw [if_pos he] at h2
    rcases markB_off r.2 (foundN N) with h3 | h3
    · exact h3.2 n hn (by rw [hlen]; exact hN.pn r hr n hn)
    · have h4 : offs (markB (foundN N) r.2) = offs (foundN N) := congrArg offs h2
      omega
  · intro T hT
    refine rounds_inv foundStep (fun s => ∀ n, bAt s n = true → T n = true) N.rules (fun s hs r hr => ?_) _ _ (fun n h => ?_)
    · intro n hn
      unfold foundStep at hn
      split at hn
      · rename_i he
        exact markB_sound r.2 s hs (hT.2 r hr (hs _ he)) n hn
      · exact hs n hn
    · rw [bAt_set] at h
      split at h
      · rename_i h1; rw [← h1.1]; exact hT.1
      · rw [bAt_rep] at h; cases h

end Go.Proofs.YtjjggdcnpndgjaaGreatDoor

namespace Go.Proofs.YtjjggdcnpndgjaaGreatDoor

def lAt (l : List Nat) (n : Nat) : Nat := l.getD n 201

theorem lAt_set (l : List Nat) (n m v : Nat) : lAt (l.set n v) m = if n = m ∧ n < l.length then v else lAt l m := by
  unfold lAt
  simp only [List.getD_eq_getElem?_getD, List.getElem?_set]
  by_cases h : n = m
  · subst h
    by_cases hl : n < l.length <;> simp [hl]
  · simp [h]

def sumF (N : NG) (f : Nat → Nat) : List Pt → Nat
  | [] => 0
  | .tok t :: ps => N.put t + sumF N f ps
  | .nam n :: ps => f n + sumF N f ps

theorem sumF_mono {N : NG} {f g : Nat → Nat} (h : ∀ n, f n ≤ g n) : ∀ ps, sumF N f ps ≤ sumF N g ps
  | [] => Nat.le_refl _
  | .tok t :: ps => by have := sumF_mono (N := N) h ps; simp only [sumF]; omega
  | .nam n :: ps => by have := sumF_mono (N := N) h ps; have := h n; simp only [sumF]; omega

/-- No rule costs less than what is noted of its name. -/
def ClosedL (N : NG) (f : Nat → Nat) : Prop := ∀ r ∈ N.rules, f r.1 ≤ sumF N f r.2
/-- The greatest of these. -/
def Gfp (N : NG) (f : Nat → Nat) : Prop := (∀ n, f n ≤ 201) ∧ ClosedL N f ∧ ∀ T : Nat → Nat, (∀ n, T n ≤ 201) → ClosedL N T → ∀ n, T n ≤ f n

theorem Gfp.unique {N : NG} {f g : Nat → Nat} (h : Gfp N f) (k : Gfp N g) (n : Nat) : f n = g n := Nat.le_antisymm (k.2.2 f h.1 h.2.1 n) (h.2.2 g k.1 k.2.1 n)

def leastStep (N : NG) (st : List Nat × Bool) (r : Nat × List Pt) : List Nat × Bool := if sumF N (lAt st.1) r.2 < lAt st.1 r.1 then (st.1.set r.1 (sumF N (lAt st.1) r.2), true) else st
def leastRound (N : NG) (l : List Nat) : List Nat × Bool := N.rules.foldl (leastStep N) (l, false)
def leastLoop (N : NG) : Nat → List Nat → List Nat
  | 0, l => l
  | k + 1, l => if (leastRound N l).2 then leastLoop N k (leastRound N l).1 else (leastRound N l).1
/-- (*Grammar).leasts. -/
def leastsN (N : NG) : List Nat := leastLoop N (N.nN * 202 + 1) (List.replicate N.nN 201)

theorem sum_set_lt : ∀ (l : List Nat) (n v : Nat), v < lAt l n → n < l.length → (l.set n v).sum < l.sum
  | [], n, v, _, h => by simp at h
  | a :: r, 0, v, h, _ => by have h' : v < a := h; simp; omega
  | a :: r, n + 1, v, h, hl => by
    have := sum_set_lt r n v (by simpa [lAt] using h) (by simpa using hl)
    simp; omega

theorem leastFold (N : NG) (hl : ∀ r ∈ N.rules, r.1 < N.nN) : ∀ (rs : List (Nat × List Pt)), (∀ r ∈ rs, r ∈ N.rules) → ∀ (l : List Nat) (b : Bool), l.length = N.nN →
    (rs.foldl (leastStep N) (l, b)).1.length = N.nN ∧ (((rs.foldl (leastStep N) (l, b)) = (l, b) ∧ ∀ r ∈ rs, lAt l r.1 ≤ sumF N (lAt l) r.2) ∨ ((rs.foldl (leastStep N) (l, b)).2 = true ∧ (rs.foldl (leastStep N) (l, b)).1.sum < l.sum)) := by
  intro rs
  induction rs with
  | nil => intro _ l b h; exact ⟨h, .inl ⟨rfl, fun r hr => by cases hr⟩⟩
  | cons x r ih =>
    intro hm l b h
    have ih' := ih (fun q hq => hm q (List.mem_cons_of_mem _ hq))
    have hx := hl x (hm x (List.mem_cons_self ..))
    rw [List.foldl_cons]
    by_cases hc : sumF N (lAt l) x.2 < lAt l x.1
    · have e : leastStep N (l, b) x = (l.set x.1 (sumF N (lAt l) x.2), true) := by unfold leastStep; rw [if_pos hc]
      rw [e]
      obtain ⟨h1, h2⟩ := ih' (l.set x.1 (sumF N (lAt l) x.2)) true (by simpa using h)
      have h3 := sum_set_lt l x.1 _ hc (by omega)
      refine ⟨h1, .inr ?_⟩
      rcases h2 with ⟨h2, _⟩ | ⟨h2, h4⟩
      · rw [h2]; exact ⟨rfl, h3⟩
      · exact ⟨h2, by omega⟩
    · have e : leastStep N (l, b) x = (l, b) := by unfold leastStep; rw [if_neg hc]
      rw [e]
      obtain ⟨h1, h2⟩ := ih' l b h
      refine ⟨h1, ?_⟩
      rcases h2 with ⟨h2, h4⟩ | h2
      · exact .inl ⟨h2, fun q hq => by rcases List.mem_cons.1 hq with rfl | hq; omega; exact h4 q hq⟩
      · exact .inr h2

theorem leastRound_spec (N : NG) (hN : N.Ok) (l : List Nat) (h : l.length = N.nN) : (leastRound N l).1.length = N.nN ∧ (((leastRound N l) = (l, false) ∧ ClosedL N (lAt l)) ∨ ((leastRound N l).2 = true ∧ (leastRound N l).1.sum < l.sum)) :=
  leastFold N hN.lt N.rules (fun _ h => h) l false h

theorem leastLoop_inv (N : NG) (I : List Nat → Prop) (hI : ∀ l, I l → ∀ r ∈ N.rules, I (leastStep N (l, false) r).1) : ∀ (k : Nat) (l : List Nat), I l → I (leastLoop N k l) := by
  have hfold : ∀ (rs : List (Nat × List Pt)), (∀ r ∈ rs, r ∈ N.rules) → ∀ st : List Nat × Bool, I st.1 → I (rs.foldl (leastStep N) st).1 := by
    intro rs
    induction rs with
    | nil => intro _ st h; exact h
    | cons x r ih =>
      intro hm st h
      refine ih (fun q hq => hm q (List.mem_cons_of_mem _ hq)) _ ?_
      have := hI st.1 h x (hm x (List.mem_cons_self ..))
      unfold leastStep at this ⊢
      simp only at this
      split at this <;> rename_i hc
      · rw [if_pos hc]; exact this
      · rw [if_neg hc]; exact h
  intro k
  induction k with
  | zero => intro l h; exact h
  | succ k ih =>
    intro l h
    have h1 : I (leastRound N l).1 := hfold N.rules (fun _ h => h) (l, false) h
    unfold leastLoop
    split
    · exact ih _ h1
    · exact h1

theorem leastLoop_fix (N : NG) (hN : N.Ok) : ∀ (k : Nat) (l : List Nat), l.length = N.nN → l.sum < k → ClosedL N (lAt (leastLoop N k l)) ∧ (leastLoop N k l).length = N.nN := by
  intro k
  induction k with
  | zero => intro l _ h; omega
  | succ k ih =>
    intro l hl h
    obtain ⟨h1, h2⟩ := leastRound_spec N hN l hl
    unfold leastLoop
    rcases h2 with ⟨h2, h3⟩ | ⟨h2, h3⟩
    · rw [h2]
      simp only [Bool.false_eq_true, if_false]
      exact ⟨h3, hl⟩
    · rw [if_pos h2]
      exact ih _ h1 (by omega)

theorem leastsN_gfp (N : NG) (hN : N.Ok) : Gfp N (lAt (leastsN N)) ∧ (leastsN N).length = N.nN := by
  have h0 : (List.replicate N.nN 201).length = N.nN := by simp
  have h1 := leastLoop_fix N hN (N.nN * 202 + 1) (List.replicate N.nN 201) h0 (by rw [List.sum_replicate_nat]; omega)
  have h201 : ∀ n, lAt (List.replicate N.nN 201) n = 201 := by
    intro n
    unfold lAt
    rw [List.getD_eq_getElem?_getD, List.getElem?_replicate]
    split <;> rfl
  refine ⟨⟨?_, h1.1, ?_⟩, h1.2⟩
  · refine leastLoop_inv N (fun l => ∀ n, lAt l n ≤ 201) (fun l h r hr => ?_) _ _ (fun n => Nat.le_of_eq (h201 n))
    unfold leastStep
    split
    · rename_i hc
      intro n
      simp only at hc ⊢
      rw [lAt_set]
      split
      · have := h r.1; omega
      · exact h n
    · exact h
  · intro T hT hC
    refine leastLoop_inv N (fun l => ∀ n, T n ≤ lAt l n) (fun l h r hr => ?_) _ _ (fun n => by rw [h201]; exact hT n)
    unfold leastStep
    split
    · intro n
      simp only
      rw [lAt_set]
      split
      · rename_i h2
        rw [← h2.1]
        exact Nat.le_trans (hC r hr) (sumF_mono h r.2)
      · exact h n
    · exact h

/- What begins a name. -/
def nulB (E : Nat → Bool) (ps : List Pt) : Bool := ps.all fun p => match p with | .tok _ => false | .nam n => E n
/-- A token begins a row of these parts. -/
def begT (E S : Nat → Bool) (t : Nat) : List Pt → Bool
  | [] => false
  | .tok u :: _ => u == t
  | .nam n :: ps => S n || (E n && begT E S t ps)

theorem begT_mono {E S T : Nat → Bool} {t : Nat} (h : ∀ n, S n = true → T n = true) : ∀ ps, begT E S t ps = true → begT E T t ps = true
  | [], hb => hb
  | .tok u :: _, hb => hb
  | .nam n :: ps, hb => by
    simp only [begT, Bool.or_eq_true, Bool.and_eq_true] at hb ⊢
    exact hb.imp (h n) (fun hb => ⟨hb.1, begT_mono h ps hb.2⟩)

def ClosedH (N : NG) (E : Nat → Bool) (t : Nat) (S : Nat → Bool) : Prop := ∀ r ∈ N.rules, begT E S t r.2 = true → S r.1 = true

def orB (a b : List Bool) : List Bool := a.zipWith (· || ·) b
def mAt (h : List (List Bool)) (n : Nat) : List Bool := h.getD n []

theorem bAt_or {a b : List Bool} (h : a.length = b.length) (t : Nat) : bAt (orB a b) t = (bAt a t || bAt b t) := by
  unfold bAt orB
  simp only [List.getD_eq_getElem?_getD, List.getElem?_zipWith]
  by_cases ht : t < a.length
  · rw [List.getElem?_eq_getElem ht, List.getElem?_eq_getElem (by omega)]; rfl
  · rw [List.getElem?_eq_none (by omega), List.getElem?_eq_none (by omega)]; rfl

/-- (*Grammar).speaks, from a place of the parts on. -/
def speakB (h : List (List Bool)) (E : Nat → Bool) : List Pt → List Bool → List Bool × Bool
  | [], out => (out, true)
  | .tok t :: _, out => (out.set t true, false)
  | .nam n :: ps, out => if E n then speakB h E ps (orB out (mAt h n)) else (orB out (mAt h n), false)

/-- Rows of one length. -/
def MOk (N : NG) (h : List (List Bool)) : Prop := h.length = N.nN ∧ ∀ n, n < N.nN → (mAt h n).length = N.nT + 1

def PsOk (N : NG) (ps : List Pt) : Prop := (∀ n, Pt.nam n ∈ ps → n < N.nN) ∧ (∀ t, Pt.tok t ∈ ps → t < N.nT)

theorem PsOk.tail {N : NG} {p : Pt} {ps : List Pt} (h : PsOk N (p :: ps)) : PsOk N ps := ⟨fun n hn => h.1 n (List.mem_cons_of_mem _ hn), fun n hn => h.2 n (List.mem_cons_of_mem _ hn)⟩

theorem NG.Ok.ps {N : NG} (h : N.Ok) {r : Nat × List Pt} (hr : r ∈ N.rules) : PsOk N r.2 := ⟨h.pn r hr, h.pt r hr⟩

def col (h : List (List Bool)) (t n : Nat) : Bool := bAt (mAt h n) t

theorem speakB_spec {N : NG} {h : List (List Bool)} (hM : MOk N h) (E : Nat → Bool) : ∀ (ps : List Pt) (out : List Bool), PsOk N ps → out.length = N.nT + 1 →
    (speakB h E ps out).1.length = N.nT + 1 ∧ (speakB h E ps out).2 = nulB E ps ∧ ∀ t, bAt (speakB h E ps out).1 t = (bAt out t || begT E (col h t) t ps) := by
  intro ps
  induction ps with
  | nil => intro out _ ho; exact ⟨ho, rfl, fun t => by simp [speakB, begT]⟩
  | cons p ps ih =>
    intro out hp ho
    cases p with
    | tok u =>
      have hu := hp.2 u (List.mem_cons_self ..)
      refine ⟨by simpa [speakB] using ho, by simp [speakB, nulB], fun t => ?_⟩
      show bAt (out.set u true) t = (bAt out t || (u == t))
      rw [bAt_set]
      by_cases e : u = t
      · rw [if_pos ⟨e, by omega⟩, e]; simp
      · rw [if_neg (fun h => e h.1)]; simp [e]
    | nam n =>
      have hn := hp.1 n (List.mem_cons_self ..)
      have hl : (orB out (mAt h n)).length = N.nT + 1 := by
        unfold orB; rw [List.length_zipWith, ho, hM.2 n hn]; simp
      have ho' : ∀ t, bAt (orB out (mAt h n)) t = (bAt out t || col h t n) := fun t => bAt_or (by rw [ho, hM.2 n hn]) t
      unfold speakB
      cases he : E n
      · simp only [Bool.false_eq_true, if_false]
        refine ⟨hl, by simp [nulB, he], fun t => ?_⟩
        rw [ho', begT, he]; simp
      · simp only [if_true]
        obtain ⟨h1, h2, h3⟩ := ih (orB out (mAt h n)) hp.tail hl
        refine ⟨h1, by rw [h2]; simp [nulB, he], fun t => ?_⟩
        rw [h3, ho', begT, he, Bool.or_assoc]; simp

def colL (h : List (List Bool)) (t : Nat) : List Bool := h.map fun row => bAt row t

theorem bAt_colL (h : List (List Bool)) (t n : Nat) : bAt (colL h t) n = col h t n := by
  unfold colL col mAt bAt
  simp only [List.getD_eq_getElem?_getD, List.getElem?_map]
  cases h[n]? <;> simp

theorem colL_set (h : List (List Bool)) (n t : Nat) (row : List Bool) : colL (h.set n row) t = (colL h t).set n (bAt row t) := by unfold colL; rw [List.map_set]

theorem set_same {l : List Bool} {n : Nat} : l.set n (bAt l n) = l := by
  apply List.ext_getElem? 
  intro i
  rw [List.getElem?_set]
  split
  · rename_i h
    subst h
    unfold bAt
    by_cases hl : n < l.length
    · simp [hl]
    · simp [hl]
  · rfl

def row0 (N : NG) : List Bool := List.replicate (N.nT + 1) false

def headStep (N : NG) (E : Nat → Bool) (h : List (List Bool)) (r : Nat × List Pt) : List (List Bool) := h.set r.1 (orB (mAt h r.1) (speakB h E r.2 (row0 N)).1)
def headRound (N : NG) (E : Nat → Bool) (h : List (List Bool)) : List (List Bool) := N.rules.foldl (headStep N E) h
/-- (*Grammar).heads. -/
def headsN (N : NG) (E : Nat → Bool) : List (List Bool) := iter (headRound N E) (N.nN + 1) (List.replicate N.nN (row0 N))

theorem mAt_set (h : List (List Bool)) (n m : Nat) (v : List Bool) : mAt (h.set n v) m = if n = m ∧ n < h.length then v else mAt h m := by
  unfold mAt
  simp only [List.getD_eq_getElem?_getD, List.getElem?_set]
  by_cases e : n = m
  · subst e
    by_cases hl : n < h.length <;> simp [hl]
  · simp [e]

theorem MOk.set {N : NG} {h : List (List Bool)} (hM : MOk N h) {n : Nat} {v : List Bool} (hv : v.length = N.nT + 1) : MOk N (h.set n v) := by
  refine ⟨by simpa using hM.1, fun m hm => ?_⟩
  rw [mAt_set]
  split
  · exact hv
  · exact hM.2 m hm

theorem mok0 (N : NG) : MOk N (List.replicate N.nN (row0 N)) := by
  refine ⟨by simp, fun n hn => ?_⟩
  unfold mAt
  rw [List.getD_eq_getElem?_getD, List.getElem?_replicate, if_pos hn]
  simp [row0]

theorem col0 (N : NG) (t n : Nat) : col (List.replicate N.nN (row0 N)) t n = false := by
  unfold col mAt
  rw [List.getD_eq_getElem?_getD, List.getElem?_replicate]
  split
  · exact bAt_rep _ _
  · rfl

theorem headStep_ok {N : NG} (hN : N.Ok) (E : Nat → Bool) {h : List (List Bool)} (hM : MOk N h) {r : Nat × List Pt} (hr : r ∈ N.rules) :
    MOk N (headStep N E h r) ∧ ∀ t, colL (headStep N E h r) t = if begT E (bAt (colL h t)) t r.2 = true then (colL h t).set r.1 true else colL h t := by
  obtain ⟨h1, _, h3⟩ := speakB_spec hM E r.2 (row0 N) (hN.ps hr) (by simp [row0])
  have hl := hM.2 r.1 (hN.lt r hr)
  refine ⟨hM.set (by unfold orB; rw [List.length_zipWith, hl, h1]; simp), fun t => ?_⟩
  unfold headStep
  rw [colL_set, bAt_or (by rw [hl, h1]), h3]
  have e : col h t = bAt (colL h t) := funext fun n => (bAt_colL h t n).symm
  rw [show bAt (row0 N) t = false from bAt_rep _ _, Bool.false_or, e]
  have e2 : bAt (mAt h r.1) t = bAt (colL h t) r.1 := (bAt_colL h t r.1).symm
  rw [e2]
  cases hb : begT E (bAt (colL h t)) t r.2
  · simp only [Bool.or_false, Bool.false_eq_true, if_false]
    exact set_same
  · simp

/-- Rounds over a matrix go column by column. -/
theorem cols_fold {N : NG} (step : List (List Bool) → Nat × List Pt → List (List Bool)) (cs : List Bool → Nat × List Pt → List Bool) (t : Nat)
    (h : ∀ m, MOk N m → ∀ r ∈ N.rules, MOk N (step m r) ∧ colL (step m r) t = cs (colL m t) r) : ∀ (rs : List (Nat × List Pt)), (∀ r ∈ rs, r ∈ N.rules) → ∀ m, MOk N m → MOk N (rs.foldl step m) ∧ colL (rs.foldl step m) t = rs.foldl cs (colL m t) := by
  intro rs
  induction rs with
  | nil => intro _ m hm; exact ⟨hm, rfl⟩
  | cons x r ih =>
    intro hr m hm
    obtain ⟨h1, h2⟩ := h m hm x (hr x (List.mem_cons_self ..))
    rw [List.foldl_cons, List.foldl_cons, ← h2]
    exact ih (fun q hq => hr q (List.mem_cons_of_mem _ hq)) _ h1

theorem cols_iter {N : NG} (step : List (List Bool) → Nat × List Pt → List (List Bool)) (cs : List Bool → Nat × List Pt → List Bool) (t : Nat)
    (h : ∀ m, MOk N m → ∀ r ∈ N.rules, MOk N (step m r) ∧ colL (step m r) t = cs (colL m t) r) : ∀ (k : Nat) (m : List (List Bool)), MOk N m →
      MOk N (iter (fun s => N.rules.foldl step s) k m) ∧ colL (iter (fun s => N.rules.foldl step s) k m) t = iter (fun s => N.rules.foldl cs s) k (colL m t) := by
  intro k
  induction k with
  | zero => intro m hm; exact ⟨hm, rfl⟩
  | succ k ih =>
    intro m hm
    obtain ⟨h1, h2⟩ := cols_fold step cs t h N.rules (fun _ h => h) m hm
    show MOk N (iter _ k (N.rules.foldl step m)) ∧ colL (iter _ k (N.rules.foldl step m)) t = iter _ k (N.rules.foldl cs (colL m t))
    rw [← h2]
    exact ih _ h1

theorem colL_len (h : List (List Bool)) (t : Nat) : (colL h t).length = h.length := by unfold colL; simp

theorem headsN_lfp (N : NG) (hN : N.Ok) (E : Nat → Bool) : MOk N (headsN N E) ∧ ∀ t, Lfp (ClosedH N E t) (col (headsN N E) t) := by
  have hit := fun t => cols_iter (headStep N E) (fun c r => if begT E (bAt c) t r.2 = true then c.set r.1 true else c) t (fun m hm r hr => ⟨(headStep_ok hN E hm hr).1, (headStep_ok hN E hm hr).2 t⟩) (N.nN + 1) (List.replicate N.nN (row0 N)) (mok0 N)
  refine ⟨(hit 0).1, fun t => ?_⟩
  obtain ⟨_, ht⟩ := hit t
  have e : col (headsN N E) t = bAt (iter (fun s => N.rules.foldl (fun c r => if begT E (bAt c) t r.2 = true then c.set r.1 true else c) s) (N.nN + 1) (colL (List.replicate N.nN (row0 N)) t)) := by
    funext n
    rw [← ht]
    exact (bAt_colL _ _ _).symm
  rw [e]
  have h0 : (colL (List.replicate N.nN (row0 N)) t).length = N.nN := by rw [colL_len]; simp
  have hfix := rounds_fix (fun (c : List Bool) (r : Nat × List Pt) => if begT E (bAt c) t r.2 = true then c.set r.1 true else c) offs (fun s => s.length = N.nN) N.rules (fun s hs r hr => by
    split
    · exact ⟨offs_set s r.1, by simpa using hs⟩
    · exact ⟨.inl rfl, hs⟩) (N.nN + 1) (colL (List.replicate N.nN (row0 N)) t) h0 (by have := offs_le (colL (List.replicate N.nN (row0 N)) t); omega)
  generalize hf : iter (fun s => N.rules.foldl (fun c r => if begT E (bAt c) t r.2 = true then c.set r.1 true else c) s) (N.nN + 1) (colL (List.replicate N.nN (row0 N)) t) = fin at hfix ⊢
  obtain ⟨hlen, hst⟩ := hfix
  refine ⟨fun r hr he => ?_, fun T hT => ?_⟩
  · have h2 := hst r hr
    rw [if_pos he] at h2
    have h3 := bAt_eq_of h2 r.1
    rw [bAt_set, if_pos ⟨rfl, by rw [hlen]; exact hN.lt r hr⟩] at h3
    exact h3.symm
  · rw [← hf]
    refine rounds_inv (fun (c : List Bool) (r : Nat × List Pt) => if begT E (bAt c) t r.2 = true then c.set r.1 true else c) (fun s => ∀ n, bAt s n = true → T n = true) N.rules (fun s hs r hr => ?_) _ _ (fun n h => by rw [bAt_colL, col0] at h; cases h)
    intro n hn
    split at hn
    · rename_i he
      rw [bAt_set] at hn
      split at hn
      · rename_i h1
        rw [← h1.1]
        exact hT r hr (begT_mono hs _ he)
      · exact hs n hn
    · exact hs n hn

end Go.Proofs.YtjjggdcnpndgjaaGreatDoor

namespace Go.Proofs.YtjjggdcnpndgjaaGreatDoor

def ClosedT (N : NG) (E H : Nat → Bool) (t : Nat) (S : Nat → Bool) : Prop :=
  (t = N.nT → S 0 = true) ∧ ∀ r ∈ N.rules, ∀ pre m post, r.2 = pre ++ Pt.nam m :: post → (begT E H t post || (nulB E post && S r.1)) = true → S m = true

/-- A row of what follows, with what comes to it. -/
def orT (a l : List Bool) (thr : Bool) (b : List Bool) : List Bool := (List.range a.length).map fun t => (bAt a t || bAt l t) || (thr && bAt b t)

theorem bAt_beyond {l : List Bool} {t : Nat} (h : l.length ≤ t) : bAt l t = false := by
  unfold bAt; rw [List.getD_eq_getElem?_getD, List.getElem?_eq_none h]; rfl

theorem bAt_orT {a l b : List Bool} {thr : Bool} (h1 : l.length = a.length) (h2 : b.length = a.length) (t : Nat) : bAt (orT a l thr b) t = ((bAt a t || bAt l t) || (thr && bAt b t)) := by
  by_cases ht : t < a.length
  · unfold orT
    rw [bAt, List.getD_eq_getElem?_getD, List.getElem?_map, List.getElem?_range ht]; rfl
  · rw [bAt_beyond (l := a) (by omega), bAt_beyond (l := l) (by omega), bAt_beyond (l := b) (by omega), bAt_beyond (by unfold orT; simp; omega)]; simp

/-- (*Grammar).tails, one rule from a place of its parts on. -/
def tailB (N : NG) (H : List (List Bool)) (E : Nat → Bool) (n : Nat) : List Pt → List (List Bool) → List (List Bool)
  | [], f => f
  | .tok _ :: ps, f => tailB N H E n ps f
  | .nam m :: ps, f => tailB N H E n ps (f.set m (orT (mAt f m) (speakB H E ps (row0 N)).1 (speakB H E ps (row0 N)).2 (mAt f n)))

/-- One column of it. -/
def tailC (E S : Nat → Bool) (t n : Nat) : List Pt → List Bool → List Bool
  | [], c => c
  | .tok _ :: ps, c => tailC E S t n ps c
  | .nam m :: ps, c => tailC E S t n ps (if (begT E S t ps || (nulB E ps && bAt c n)) = true then c.set m true else c)

def tailRound (N : NG) (H : List (List Bool)) (E : Nat → Bool) (f : List (List Bool)) : List (List Bool) := N.rules.foldl (fun f r => tailB N H E r.1 r.2 f) f
def tail0 (N : NG) : List (List Bool) := (List.replicate N.nN (row0 N)).set 0 ((row0 N).set N.nT true)
/-- (*Grammar).tails. -/
def tailsN (N : NG) (H : List (List Bool)) (E : Nat → Bool) : List (List Bool) := iter (tailRound N H E) (N.nN * (N.nN + 1) + 1) (tail0 N)

theorem tailB_ok {N : NG} {H : List (List Bool)} (hH : MOk N H) (E : Nat → Bool) {n : Nat} (hn : n < N.nN) (t : Nat) : ∀ (ps : List Pt), PsOk N ps → ∀ f, MOk N f → MOk N (tailB N H E n ps f) ∧ colL (tailB N H E n ps f) t = tailC E (col H t) t n ps (colL f t) := by
  intro ps
  induction ps with
  | nil => intro _ f hf; exact ⟨hf, rfl⟩
  | cons p ps ih =>
    intro hp f hf
    cases p with
    | tok u => exact ih hp.tail f hf
    | nam m =>
      have hm := hp.1 m (List.mem_cons_self ..)
      obtain ⟨h1, h2, h3⟩ := speakB_spec hH E ps (row0 N) hp.tail (by simp [row0])
      have l1 := hf.2 m hm
      have l2 := hf.2 n hn
      have hM : MOk N (f.set m (orT (mAt f m) (speakB H E ps (row0 N)).1 (speakB H E ps (row0 N)).2 (mAt f n))) := hf.set (by unfold orT; simp [l1])
      obtain ⟨h4, h5⟩ := ih hp.tail _ hM
      refine ⟨h4, ?_⟩
      unfold tailB tailC
      rw [h5, colL_set, bAt_orT (by rw [h1, l1]) (by rw [l2, l1]), h2, h3]
      rw [show bAt (row0 N) t = false from bAt_rep _ _, Bool.false_or]
      have e1 : bAt (mAt f m) t = bAt (colL f t) m := (bAt_colL f t m).symm
      have e2 : bAt (mAt f n) t = bAt (colL f t) n := (bAt_colL f t n).symm
      rw [e1, e2, Bool.or_assoc]
      cases hb : (begT E (col H t) t ps || (nulB E ps && bAt (colL f t) n))
      · simp only [Bool.or_false, Bool.false_eq_true, if_false]
        rw [set_same]
      · simp

theorem tailC_off (E S : Nat → Bool) (t n : Nat) : ∀ (ps : List Pt) (c : List Bool), (tailC E S t n ps c).length = c.length ∧ ((tailC E S t n ps c = c ∧ ∀ pre m post, ps = pre ++ Pt.nam m :: post → (begT E S t post || (nulB E post && bAt c n)) = true → m < c.length → bAt c m = true) ∨ offs (tailC E S t n ps c) < offs c) := by
  intro ps
  induction ps with
  | nil => intro c; exact ⟨rfl, .inl ⟨rfl, fun pre m post h => by simp at h⟩⟩
  | cons p ps ih =>
    intro c
    cases p with
    | tok u =>
      obtain ⟨h0, h⟩ := ih c
      refine ⟨h0, ?_⟩
      rcases h with ⟨h1, h2⟩ | h
      · refine .inl ⟨h1, fun pre m post hp => ?_⟩
        cases pre with
        | nil => injection hp with hp _; cases hp
        | cons q pre => injection hp with _ hp; exact h2 pre m post hp
      · exact .inr h
    | nam k =>
      by_cases hc : (begT E S t ps || (nulB E ps && bAt c n)) = true
      · have e : tailC E S t n (.nam k :: ps) c = tailC E S t n ps (c.set k true) := by rw [tailC, if_pos hc]
        obtain ⟨h0, h⟩ := ih (c.set k true)
        rw [e]
        refine ⟨by rw [h0]; simp, ?_⟩
        rcases offs_set c k with hs | hs
        · rw [hs] at h ⊢
          rcases h with ⟨h1, h2⟩ | h
          · refine .inl ⟨h1, fun pre m post hp hq hm => ?_⟩
            cases pre with
            | nil =>
              injection hp with hp _
              injection hp with hp
              subst hp
              have := bAt_eq_of hs k
              rw [bAt_set, if_pos ⟨rfl, hm⟩] at this
              exact this.symm
            | cons q pre => injection hp with _ hp; exact h2 pre m post hp hq hm
          · exact .inr h
        · right
          rcases h with ⟨h1, _⟩ | h
          · rw [h1]; exact hs
          · omega
      · have e : tailC E S t n (.nam k :: ps) c = tailC E S t n ps c := by rw [tailC, if_neg hc]
        obtain ⟨h0, h⟩ := ih c
        rw [e]
        refine ⟨h0, ?_⟩
        rcases h with ⟨h1, h2⟩ | h
        · refine .inl ⟨h1, fun pre m post hp hq hm => ?_⟩
          cases pre with
          | nil => injection hp with _ hp; subst hp; exact absurd hq hc
          | cons q pre => injection hp with _ hp; exact h2 pre m post hp hq hm
        · exact .inr h

theorem tailC_sound {E S T : Nat → Bool} {t n : Nat} : ∀ (ps : List Pt) (c : List Bool), (∀ k, bAt c k = true → T k = true) →
    (∀ pre m post, ps = pre ++ Pt.nam m :: post → (begT E S t post || (nulB E post && T n)) = true → T m = true) → ∀ k, bAt (tailC E S t n ps c) k = true → T k = true := by
  intro ps
  induction ps with
  | nil => intro c h _ k hk; exact h k hk
  | cons p ps ih =>
    intro c h hp
    have hp' : ∀ pre m post, ps = pre ++ Pt.nam m :: post → (begT E S t post || (nulB E post && T n)) = true → T m = true := fun pre m post e => hp (p :: pre) m post (by rw [e]; rfl)
    cases p with
    | tok u => exact ih c h hp'
    | nam m =>
      unfold tailC
      refine ih _ (fun k hk => ?_) hp'
      split at hk
      · rename_i hc
        rw [bAt_set] at hk
        split at hk
        · rename_i h1
          rw [← h1.1]
          refine hp [] m ps rfl ?_
          simp only [Bool.or_eq_true, Bool.and_eq_true] at hc ⊢
          exact hc.imp id (fun hc => ⟨hc.1, h n hc.2⟩)
        · exact h k hk
      · exact h k hk

theorem tailsN_lfp (N : NG) (hN : N.Ok) (H : List (List Bool)) (hH : MOk N H) (E : Nat → Bool) : MOk N (tailsN N H E) ∧ ∀ t, Lfp (ClosedT N E (col H t) t) (col (tailsN N H E) t) := by
  have hm0 : MOk N (tail0 N) := (mok0 N).set (by simp [row0])
  have hit := fun t => cols_iter (fun f r => tailB N H E r.1 r.2 f) (fun c r => tailC E (col H t) t r.1 r.2 c) t (fun m hm r hr => tailB_ok hH E (hN.lt r hr) t r.2 (hN.ps hr) m hm) (N.nN * (N.nN + 1) + 1) (tail0 N) hm0
  refine ⟨(hit 0).1, fun t => ?_⟩
  obtain ⟨_, ht⟩ := hit t
  have e : col (tailsN N H E) t = bAt (iter (fun s => N.rules.foldl (fun c r => tailC E (col H t) t r.1 r.2 c) s) (N.nN * (N.nN + 1) + 1) (colL (tail0 N) t)) := by
    funext n
    rw [← ht]
    exact (bAt_colL _ _ _).symm
  rw [e]
  have h0 : (colL (tail0 N) t).length = N.nN := by rw [colL_len]; simp [tail0]
  have hz : ∀ k, bAt (colL (tail0 N) t) k = true ↔ (k = 0 ∧ t = N.nT) := by
    intro k
    unfold tail0
    rw [colL_set, bAt_set, bAt_set, bAt_colL, col0]
    have h1 : 0 < (colL (List.replicate N.nN (row0 N)) t).length := by rw [colL_len]; simpa using hN.pos
    by_cases hk : 0 = k
    · rw [if_pos ⟨hk, h1⟩]
      by_cases htn : N.nT = t
      · rw [if_pos ⟨htn, by simp [row0]⟩]; simp [hk.symm, htn.symm]
      · rw [if_neg (fun h => htn h.1), show bAt (row0 N) t = false from bAt_rep _ _]; simp; intro _ h; exact absurd h.symm htn
    · rw [if_neg (fun h => hk h.1)]; simp; intro h; exact absurd h.symm hk
  have hfix := rounds_fix (fun (c : List Bool) (r : Nat × List Pt) => tailC E (col H t) t r.1 r.2 c) offs (fun s => s.length = N.nN ∧ (t = N.nT → bAt s 0 = true)) N.rules (fun s hs r hr => by
    obtain ⟨h1, h2⟩ := tailC_off E (col H t) t r.1 r.2 s
    refine ⟨h2.imp (fun h => h.1) id, h1.trans hs.1, fun htn => ?_⟩
    have hmono : ∀ (ps : List Pt) (c : List Bool), bAt c 0 = true → bAt (tailC E (col H t) t r.1 ps c) 0 = true := by
      intro ps
      induction ps with
      | nil => intro c h; exact h
      | cons p ps ih =>
        intro c h
        cases p with
        | tok u => exact ih c h
        | nam m =>
          unfold tailC
          refine ih _ ?_
          split
          · rw [bAt_set]
            split
            · rfl
            · exact h
          · exact h
    exact hmono r.2 s (hs.2 htn)) (N.nN * (N.nN + 1) + 1) (colL (tail0 N) t) ⟨h0, fun htn => (hz 0).2 ⟨rfl, htn⟩⟩ (by
      have h1 := offs_le (colL (tail0 N) t)
      rw [h0] at h1
      have h2 : N.nN * 1 ≤ N.nN * (N.nN + 1) := Nat.mul_le_mul_left _ (by omega)
      omega)
  generalize hf : iter (fun s => N.rules.foldl (fun c r => tailC E (col H t) t r.1 r.2 c) s) (N.nN * (N.nN + 1) + 1) (colL (tail0 N) t) = fin at hfix ⊢
  obtain ⟨⟨hlen, hz0⟩, hst⟩ := hfix
  refine ⟨⟨hz0, fun r hr pre m post hp hq => ?_⟩, fun T hT => ?_⟩
  · rcases (tailC_off E (col H t) t r.1 r.2 fin).2 with h2 | h2
    · exact h2.2 pre m post hp hq (by rw [hlen]; exact hN.pn r hr m (by rw [hp]; simp))
    · rw [hst r hr] at h2; omega
  · rw [← hf]
    refine rounds_inv (fun (c : List Bool) (r : Nat × List Pt) => tailC E (col H t) t r.1 r.2 c) (fun s => ∀ n, bAt s n = true → T n = true) N.rules (fun s hs r hr => ?_) _ _ (fun n h => by
      have := (hz n).1 h
      rw [this.1]
      exact hT.1 this.2)
    exact tailC_sound r.2 s hs (fun pre m post hp hq => hT.2 r hr pre m post hp hq)

end Go.Proofs.YtjjggdcnpndgjaaGreatDoor

namespace Go.Proofs.YtjjggdcnpndgjaaGreatDoor

structure Fa where
  least : Nat
  reached : Bool
  first : Nat
  follow : Nat
deriving DecidableEq

def flAt (k : List Fa) (n : Nat) : Nat := (k[n]?.map (·.least)).getD 202
def frAt (k : List Fa) (n : Nat) : Bool := (k[n]?.map (·.reached)).getD false
def fhAt (k : List Fa) (n : Nat) : Nat := (k[n]?.map (·.first)).getD 0
def foAt (k : List Fa) (n : Nat) : Nat := (k[n]?.map (·.follow)).getD 0

def costP (N : NG) (k : List Fa) : Pt → Nat
  | .tok t => N.put t
  | .nam n => flAt k n

/-- (*Facts).leastOf, from a place of the parts on. -/
def leastOfP (N : NG) (k : List Fa) : List Pt → Nat → Nat
  | [], s => s
  | p :: ps, s => if costP N k p = 202 then 202 else leastOfP N k ps (min (s + costP N k p) 201)

def stepLeast (N : NG) (k : List Fa) (r : Nat × List Pt) : List Fa := k.modify r.1 fun a => { a with least := min a.least (leastOfP N k r.2 0) }

theorem modify_at (k : List Fa) (n m : Nat) (f : Fa → Fa) : (k.modify n f)[m]? = if n = m then k[m]?.map f else k[m]? := by
  rw [List.getElem?_modify]
  by_cases h : n = m
  · simp [h]
  · simp [h]

theorem modify_same {k : List Fa} {n : Nat} {f : Fa → Fa} (h : ∀ a, k[n]? = some a → f a = a) : k.modify n f = k := by
  apply List.ext_getElem?
  intro m
  rw [modify_at]
  split
  · rename_i e
    subst e
    cases hk : k[n]? with
    | none => rfl
    | some a => simp [h a hk]
  · rfl

/-- A number of each fact, summed. -/
def msum (μ : Fa → Nat) (k : List Fa) : Nat := (k.map μ).sum

theorem msum_modify (μ : Fa → Nat) : ∀ (k : List Fa) (n : Nat) (f : Fa → Fa) (a : Fa), k[n]? = some a → msum μ (k.modify n f) + μ a = msum μ k + μ (f a)
  | [], n, f, a, h => by simp at h
  | b :: r, 0, f, a, h => by
    simp at h; subst h
    simp [msum]; omega
  | b :: r, n + 1, f, a, h => by
    have := msum_modify μ r n f a (by simpa using h)
    simp only [msum, List.modify_succ_cons, List.map_cons, List.sum_cons] at this ⊢
    omega

theorem modify_lt {μ : Fa → Nat} {k : List Fa} {n : Nat} {f : Fa → Fa} (h : ∀ a, k[n]? = some a → f a = a ∨ μ (f a) < μ a) : k.modify n f = k ∨ msum μ (k.modify n f) < msum μ k := by
  cases hk : k[n]? with
  | none => left; exact modify_same (fun a ha => by rw [hk] at ha; cases ha)
  | some a =>
    rcases h a hk with h1 | h1
    · left; exact modify_same (fun b hb => by rw [hk] at hb; cases hb; exact h1)
    · right
      have := msum_modify μ k n f a hk
      omega

/-- Where no part is barren, it is the sum, counted up to 201. -/
theorem leastOfP_sum (N : NG) (k : List Fa) (hp : ∀ t, t < N.nT → N.put t ≤ 99) : ∀ (ps : List Pt) (s : Nat), PsOk N ps → s ≤ 201 →
    (leastOfP N k ps s = 202 ∧ ∃ n, Pt.nam n ∈ ps ∧ flAt k n = 202) ∨ ((∀ n, Pt.nam n ∈ ps → flAt k n ≠ 202) ∧ leastOfP N k ps s = min (s + sumF N (flAt k) ps) 201)
  | [], s, _, h => by right; exact ⟨(fun n h => by cases h), (by simp only [leastOfP, sumF]; omega)⟩
  | p :: ps, s, ho, h => by
    simp only [leastOfP]
    cases p with
    | tok t =>
      have h1 := hp t (ho.2 t (List.mem_cons_self ..))
      have e : costP N k (.tok t) = N.put t := rfl
      rw [e, if_neg (by omega)]
      rcases leastOfP_sum N k hp ps (min (s + N.put t) 201) ho.tail (by omega) with ⟨h2, n, h3, h4⟩ | ⟨h2, h3⟩
      · exact .inl ⟨h2, n, List.mem_cons_of_mem _ h3, h4⟩
      · refine .inr ⟨fun n hn => ?_, ?_⟩
        · rcases List.mem_cons.1 hn with hn | hn
          · cases hn
          · exact h2 n hn
        · rw [h3]; simp only [sumF]; omega
    | nam m =>
      have e : costP N k (.nam m) = flAt k m := rfl
      rw [e]
      by_cases hb : flAt k m = 202
      · rw [if_pos hb]; exact .inl ⟨rfl, m, List.mem_cons_self .., hb⟩
      · rw [if_neg hb]
        rcases leastOfP_sum N k hp ps (min (s + flAt k m) 201) ho.tail (by omega) with ⟨h2, n, h3, h4⟩ | ⟨h2, h3⟩
        · exact .inl ⟨h2, n, List.mem_cons_of_mem _ h3, h4⟩
        · refine .inr ⟨fun n hn => ?_, ?_⟩
          · rcases List.mem_cons.1 hn with hn | hn
            · injection hn with hn; subst hn; exact hb
            · exact h2 n hn
          · rw [h3]; simp only [sumF]; omega

theorem fl_modify (k : List Fa) (n m : Nat) (f : Fa → Fa) : flAt (k.modify n f) m = if n = m ∧ m < k.length then (k[m]?.map fun a => (f a).least).getD 202 else flAt k m := by
  unfold flAt
  rw [modify_at]
  by_cases h : n = m
  · subst h
    by_cases hl : n < k.length
    · rw [if_pos rfl, if_pos ⟨rfl, hl⟩, List.getElem?_eq_getElem hl]; rfl
    · rw [if_pos rfl, if_neg (fun h => hl h.2), List.getElem?_eq_none (by omega)]; rfl
  · rw [if_neg h, if_neg (fun e => h e.1)]

/-- Nothing but what a name least costs is noted. -/
def OnlyLeast (k : List Fa) : Prop := ∀ a ∈ k, a.reached = false ∧ a.first = 0 ∧ a.follow = 0

structure LeastInv (N : NG) (k : List Fa) : Prop where
  len : k.length = N.nN
  only : OnlyLeast k
  le : ∀ n, flAt k n ≤ 202
  bar : ∀ T, ClosedC N true T → ∀ n, flAt k n ≠ 202 → T n = true
  nul : ∀ T, ClosedC N false T → ∀ n, flAt k n = 0 → T n = true
  gr : ∀ T : Nat → Nat, (∀ n, T n ≤ 201) → ClosedL N T → ∀ n, T n ≤ min (flAt k n) 201

theorem mem_modify {k : List Fa} {n : Nat} {f : Fa → Fa} {b : Fa} (h : b ∈ k.modify n f) : b ∈ k ∨ ∃ a ∈ k, b = f a := by
  obtain ⟨m, hm, rfl⟩ := List.mem_iff_getElem.1 h
  have h1 := modify_at k n m f
  rw [List.getElem?_eq_getElem hm] at h1
  rw [List.length_modify] at hm
  rw [List.getElem?_eq_getElem hm] at h1
  split at h1
  · injection h1 with h1; exact .inr ⟨_, List.getElem_mem hm, h1⟩
  · injection h1 with h1; exact .inl (h1 ▸ List.getElem_mem hm)

theorem stepLeast_ok {N : NG} (hN : N.Ok) {k : List Fa} (h : LeastInv N k) {r : Nat × List Pt} (hr : r ∈ N.rules) :
    (stepLeast N k r = k ∨ msum (·.least) (stepLeast N k r) < msum (·.least) k) ∧ LeastInv N (stepLeast N k r) := by
  have hlt := hN.lt r hr
  have hll : r.1 < k.length := by rw [h.len]; exact hlt
  have hs := leastOfP_sum N k hN.put2 r.2 0 (hN.ps hr) (by omega)
  rw [Nat.zero_add] at hs
  have hfl : ∀ n, flAt (stepLeast N k r) n = if r.1 = n ∧ n < k.length then min (flAt k n) (leastOfP N k r.2 0) else flAt k n := by
    intro n
    unfold stepLeast
    rw [fl_modify]
    split
    · rename_i e
      unfold flAt
      rw [List.getElem?_eq_getElem e.2]
      rfl
    · rfl
  refine ⟨?_, ⟨by unfold stepLeast; rw [List.length_modify]; exact h.len, ?_, ?_, ?_, ?_, ?_⟩⟩
  · refine modify_lt (μ := (·.least)) (fun a _ => ?_)
    by_cases hc : a.least ≤ leastOfP N k r.2 0
    · left; rw [Nat.min_eq_left hc]
    · right; show min a.least _ < a.least; omega
  · intro b hb
    rcases mem_modify hb with hb | ⟨a, ha, rfl⟩
    · exact h.only b hb
    · exact h.only a ha
  · intro n
    rw [hfl]
    have := h.le n
    split <;> omega
  · intro T hT n hn
    rw [hfl] at hn
    split at hn
    · rename_i e
      by_cases h1 : flAt k n = 202
      · rcases hs with ⟨h2, _⟩ | ⟨h2, _⟩
        · rw [h1, h2] at hn; exact absurd rfl hn
        · rw [← e.1]
          refine hT r hr ?_
          unfold eachB
          rw [List.all_eq_true]
          intro p hp
          cases p with
          | tok t => rfl
          | nam m => exact h.bar T hT m (h2 m hp)
      · exact h.bar T hT n h1
    · exact h.bar T hT n hn
  · intro T hT n hn
    rw [hfl] at hn
    split at hn
    · rename_i e
      by_cases h1 : flAt k n = 0
      · exact h.nul T hT n h1
      · rcases hs with ⟨h2, _⟩ | ⟨h2, h3⟩
        · rw [h2] at hn; omega
        · have h4 : sumF N (flAt k) r.2 = 0 := by omega
          rw [← e.1]
          refine hT r hr ?_
          have hz : ∀ ps : List Pt, PsOk N ps → sumF N (flAt k) ps = 0 → eachB ps T false = true := by
            intro ps
            induction ps with
            | nil => intro _ _; rfl
            | cons p ps ih =>
              intro ho hz
              cases p with
              | tok t =>
                have := hN.put1 t (ho.2 t (List.mem_cons_self ..))
                simp only [sumF] at hz; omega
              | nam m =>
                simp only [sumF] at hz
                have h5 := h.nul T hT m (by omega)
                have h6 := ih ho.tail (by omega)
                unfold eachB at h6 ⊢
                rw [List.all_cons, h6]
                simp [h5]
          exact hz r.2 (hN.ps hr) h4
    · exact h.nul T hT n hn
  · intro T hT hC n
    rw [hfl]
    have h0 := h.gr T hT hC n
    split
    · rename_i e
      rcases hs with ⟨h2, _⟩ | ⟨h2, h3⟩
      · omega
      · have h4 := hC r hr
        have h5 : ∀ ps : List Pt, (∀ n, Pt.nam n ∈ ps → flAt k n ≠ 202) → sumF N T ps ≤ sumF N (flAt k) ps := by
          intro ps
          induction ps with
          | nil => intro _; exact Nat.le_refl _
          | cons p ps ih =>
            intro hq
            have := ih (fun n hn => hq n (List.mem_cons_of_mem _ hn))
            cases p with
            | tok t => simp only [sumF]; omega
            | nam m =>
              have h7 := h.gr T hT hC m
              simp only [sumF]; omega
        have h6 := h5 r.2 h2
        have h8 := hT n
        rw [e.1] at h4
        omega
    · exact h0

/-- Where no rule turns anything any more. -/
theorem least_done {N : NG} (hN : N.Ok) {k : List Fa} (h : LeastInv N k) (hst : ∀ r ∈ N.rules, stepLeast N k r = k) :
    Lfp (ClosedC N true) (fun n => decide (flAt k n ≠ 202)) ∧ Lfp (ClosedC N false) (fun n => decide (flAt k n = 0)) ∧ Gfp N (fun n => min (flAt k n) 201) := by
  have hcl : ∀ r ∈ N.rules, flAt k r.1 ≤ leastOfP N k r.2 0 := by
    intro r hr
    have h1 := congrArg (fun q => flAt q r.1) (hst r hr)
    simp only [stepLeast] at h1
    rw [fl_modify, if_pos ⟨rfl, by rw [h.len]; exact hN.lt r hr⟩] at h1
    unfold flAt at h1 ⊢
    rw [List.getElem?_eq_getElem (by rw [h.len]; exact hN.lt r hr)] at h1 ⊢
    simp only [Option.map_some, Option.getD_some] at h1 ⊢
    omega
  have hs := fun r hr => leastOfP_sum N k hN.put2 r.2 0 (hN.ps (r := r) hr) (by omega)
  refine ⟨⟨fun r hr he => ?_, fun T hT n hn => h.bar T hT n (of_decide_eq_true hn)⟩, ⟨fun r hr he => ?_, fun T hT n hn => h.nul T hT n (of_decide_eq_true hn)⟩, fun n => Nat.min_le_right _ _, fun r hr => ?_, h.gr⟩
  · rcases hs r hr with ⟨_, n, h3, h4⟩ | ⟨h2, h3⟩
    · unfold eachB at he
      rw [List.all_eq_true] at he
      have := of_decide_eq_true (he _ h3)
      exact absurd h4 this
    · have := hcl r hr
      exact decide_eq_true (by omega)
  · have hz : ∀ ps : List Pt, eachB ps (fun n => decide (flAt k n = 0)) false = true → sumF N (flAt k) ps = 0 ∧ ∀ n, Pt.nam n ∈ ps → flAt k n ≠ 202 := by
      intro ps
      induction ps with
      | nil => intro _; exact ⟨rfl, fun n h => by cases h⟩
      | cons p ps ih =>
        intro hq
        unfold eachB at hq ih
        rw [List.all_cons, Bool.and_eq_true] at hq
        obtain ⟨h5, h6⟩ := ih hq.2
        cases p with
        | tok t => exact absurd hq.1 (by simp)
        | nam m =>
          have h7 : flAt k m = 0 := of_decide_eq_true hq.1
          refine ⟨by simp only [sumF]; omega, fun n hn => ?_⟩
          rcases List.mem_cons.1 hn with hn | hn
          · injection hn with hn; subst hn; omega
          · exact h6 n hn
    obtain ⟨h5, h6⟩ := hz r.2 he
    rcases hs r hr with ⟨_, n, h3, h4⟩ | ⟨h2, h3⟩
    · exact absurd h4 (h6 n h3)
    · have := hcl r hr
      exact decide_eq_true (by omega)
  · have h1 := hcl r hr
    rcases hs r hr with ⟨h2, n, h3, h4⟩ | ⟨h2, h3⟩
    · have h5 : ∀ ps : List Pt, Pt.nam n ∈ ps → 201 ≤ sumF N (fun n => min (flAt k n) 201) ps := by
        intro ps
        induction ps with
        | nil => intro h; cases h
        | cons p ps ih =>
          intro hq
          rcases List.mem_cons.1 hq with hq | hq
          · subst hq; simp only [sumF]; omega
          · have := ih hq
            cases p <;> simp only [sumF] <;> omega
      have := h5 r.2 h3
      simp only
      omega
    · have h5 : ∀ ps : List Pt, min (sumF N (flAt k) ps) 201 ≤ sumF N (fun n => min (flAt k n) 201) ps := by
        intro ps
        induction ps with
        | nil => simp [sumF]
        | cons p ps ih => cases p <;> simp only [sumF] <;> omega
      have := h5 r.2
      simp only
      omega

end Go.Proofs.YtjjggdcnpndgjaaGreatDoor

namespace Go.Proofs.YtjjggdcnpndgjaaGreatDoor

theorem fr_modify (k : List Fa) (n m : Nat) (f : Fa → Fa) : frAt (k.modify n f) m = if n = m ∧ m < k.length then (k[m]?.map fun a => (f a).reached).getD false else frAt k m := by
  unfold frAt
  rw [modify_at]
  by_cases h : n = m
  · subst h
    by_cases hl : n < k.length
    · rw [if_pos rfl, if_pos ⟨rfl, hl⟩, List.getElem?_eq_getElem hl]; rfl
    · rw [if_pos rfl, if_neg (fun h => hl h.2), List.getElem?_eq_none (by omega)]; rfl
  · rw [if_neg h, if_neg (fun e => h e.1)]

theorem fh_modify (k : List Fa) (n m : Nat) (f : Fa → Fa) : fhAt (k.modify n f) m = if n = m ∧ m < k.length then (k[m]?.map fun a => (f a).first).getD 0 else fhAt k m := by
  unfold fhAt
  rw [modify_at]
  by_cases h : n = m
  · subst h
    by_cases hl : n < k.length
    · rw [if_pos rfl, if_pos ⟨rfl, hl⟩, List.getElem?_eq_getElem hl]; rfl
    · rw [if_pos rfl, if_neg (fun h => hl h.2), List.getElem?_eq_none (by omega)]; rfl
  · rw [if_neg h, if_neg (fun e => h e.1)]

theorem fo_modify (k : List Fa) (n m : Nat) (f : Fa → Fa) : foAt (k.modify n f) m = if n = m ∧ m < k.length then (k[m]?.map fun a => (f a).follow).getD 0 else foAt k m := by
  unfold foAt
  rw [modify_at]
  by_cases h : n = m
  · subst h
    by_cases hl : n < k.length
    · rw [if_pos rfl, if_pos ⟨rfl, hl⟩, List.getElem?_eq_getElem hl]; rfl
    · rw [if_pos rfl, if_neg (fun h => hl h.2), List.getElem?_eq_none (by omega)]; rfl
  · rw [if_neg h, if_neg (fun e => h e.1)]

theorem fl_keep {k : List Fa} {n : Nat} {f : Fa → Fa} (h : ∀ a, (f a).least = a.least) (m : Nat) : flAt (k.modify n f) m = flAt k m := by
  rw [fl_modify]
  split
  · unfold flAt; simp [h]
  · rfl
theorem fr_keep {k : List Fa} {n : Nat} {f : Fa → Fa} (h : ∀ a, (f a).reached = a.reached) (m : Nat) : frAt (k.modify n f) m = frAt k m := by
  rw [fr_modify]
  split
  · unfold frAt; simp [h]
  · rfl
theorem fh_keep {k : List Fa} {n : Nat} {f : Fa → Fa} (h : ∀ a, (f a).first = a.first) (m : Nat) : fhAt (k.modify n f) m = fhAt k m := by
  rw [fh_modify]
  split
  · unfold fhAt; simp [h]
  · rfl
theorem fo_keep {k : List Fa} {n : Nat} {f : Fa → Fa} (h : ∀ a, (f a).follow = a.follow) (m : Nat) : foAt (k.modify n f) m = foAt k m := by
  rw [fo_modify]
  split
  · unfold foAt; simp [h]
  · rfl

/-! ### Reached -/

def setR (a : Fa) : Fa := { a with reached := true }

/-- findReached's step, from a place of the parts on. -/
def reachP (m : Nat) : List Pt → List Fa → List Fa
  | [], k => k
  | .tok _ :: ps, k => reachP m ps k
  | .nam n :: ps, k => reachP m ps (if frAt k m = true then k.modify n setR else k)

def stepReach (k : List Fa) (r : Nat × List Pt) : List Fa := reachP r.1 r.2 k

def offR (a : Fa) : Nat := if a.reached then 0 else 1

theorem fr_setR (k : List Fa) (n m : Nat) : frAt (k.modify n setR) m = if n = m ∧ m < k.length then true else frAt k m := by
  rw [fr_modify]
  split
  · rename_i h
    rw [List.getElem?_eq_getElem h.2]; rfl
  · rfl

theorem setR_off (k : List Fa) (n : Nat) : k.modify n setR = k ∨ msum offR (k.modify n setR) < msum offR k := modify_lt fun a _ => by
  cases h : a.reached
  · right; simp [offR, setR, h]
  · left; unfold setR; cases a; simp at h; simp [h]

theorem reachP_off (m : Nat) : ∀ (ps : List Pt) (k : List Fa), (reachP m ps k = k ∧ (frAt k m = true → ∀ n, Pt.nam n ∈ ps → n < k.length → frAt k n = true)) ∨ msum offR (reachP m ps k) < msum offR k := by
  intro ps
  induction ps with
  | nil => intro k; exact .inl ⟨rfl, fun _ n h => by cases h⟩
  | cons p ps ih =>
    intro k
    cases p with
    | tok t =>
      refine (ih k).imp (fun h => ⟨h.1, fun hm n hn hl => h.2 hm n ?_ hl⟩) id
      rcases List.mem_cons.1 hn with hn | hn
      · cases hn
      · exact hn
    | nam n =>
      unfold reachP
      by_cases hm : frAt k m = true
      · rw [if_pos hm]
        rcases setR_off k n with h1 | h1
        · rw [h1]
          refine (ih k).imp (fun h => ⟨h.1, fun hm n' hn hl => ?_⟩) id
          rcases List.mem_cons.1 hn with hn | hn
          · injection hn with hn
            subst hn
            rw [← h1, fr_setR, if_pos ⟨rfl, hl⟩]
          · exact h.2 hm n' hn hl
        · rcases ih (k.modify n setR) with ⟨h2, _⟩ | h2
          · right; rw [h2]; exact h1
          · right; omega
      · rw [if_neg hm]
        exact (ih k).imp (fun h => ⟨h.1, fun h' => absurd h' hm⟩) id

theorem reachP_keep (m : Nat) : ∀ (ps : List Pt) (k : List Fa), (reachP m ps k).length = k.length ∧ (∀ n, flAt (reachP m ps k) n = flAt k n) ∧ (∀ n, fhAt (reachP m ps k) n = fhAt k n) ∧ (∀ n, foAt (reachP m ps k) n = foAt k n) ∧ (∀ n, frAt k n = true → frAt (reachP m ps k) n = true) := by
  intro ps
  induction ps with
  | nil => intro k; exact ⟨rfl, fun _ => rfl, fun _ => rfl, fun _ => rfl, fun _ h => h⟩
  | cons p ps ih =>
    intro k
    cases p with
    | tok t => exact ih k
    | nam n =>
      unfold reachP
      split
      · obtain ⟨h1, h2, h3, h4, h5⟩ := ih (k.modify n setR)
        refine ⟨by rw [h1, List.length_modify], fun q => by rw [h2, fl_keep (f := setR) (fun _ => rfl)], fun q => by rw [h3, fh_keep (f := setR) (fun _ => rfl)], fun q => by rw [h4, fo_keep (f := setR) (fun _ => rfl)], fun q hq => h5 q ?_⟩
        rw [fr_setR]
        split
        · rfl
        · exact hq
      · exact ih k

theorem reachP_sound {m : Nat} {T : Nat → Bool} : ∀ (ps : List Pt) (k : List Fa), (∀ n, frAt k n = true → T n = true) → (T m = true → ∀ n, Pt.nam n ∈ ps → T n = true) → ∀ n, frAt (reachP m ps k) n = true → T n = true := by
  intro ps
  induction ps with
  | nil => intro k h _ n hn; exact h n hn
  | cons p ps ih =>
    intro k h hp
    cases p with
    | tok t => exact ih k h (fun hm n hn => hp hm n (List.mem_cons_of_mem _ hn))
    | nam n =>
      unfold reachP
      refine ih _ (fun q hq => ?_) (fun hm n hn => hp hm n (List.mem_cons_of_mem _ hn))
      split at hq
      · rename_i hm
        rw [fr_setR] at hq
        split at hq
        · rename_i h1
          rw [← h1.1]
          exact hp (h m hm) n (List.mem_cons_self ..)
        · exact h q hq
      · exact h q hq

structure ReachInv (N : NG) (k0 k : List Fa) : Prop where
  len : k.length = N.nN
  fl : ∀ n, flAt k n = flAt k0 n
  fh : ∀ n, fhAt k n = fhAt k0 n
  fo : ∀ n, foAt k n = foAt k0 n
  z : frAt k 0 = true
  sound : ∀ T, ClosedF N T → ∀ n, frAt k n = true → T n = true

theorem stepReach_ok {N : NG} {k0 k : List Fa} (h : ReachInv N k0 k) {r : Nat × List Pt} (hr : r ∈ N.rules) : (stepReach k r = k ∨ msum offR (stepReach k r) < msum offR k) ∧ ReachInv N k0 (stepReach k r) := by
  obtain ⟨h1, h2, h3, h4, h5⟩ := reachP_keep r.1 r.2 k
  exact ⟨(reachP_off r.1 r.2 k).imp (fun h => h.1) id, by unfold stepReach; rw [h1]; exact h.len, fun n => (h2 n).trans (h.fl n), fun n => (h3 n).trans (h.fh n), fun n => (h4 n).trans (h.fo n), h5 0 h.z, fun T hT => reachP_sound r.2 k (h.sound T hT) (fun hm n hn => hT.2 r hr hm n hn)⟩

theorem reach_done {N : NG} (hN : N.Ok) {k0 k : List Fa} (h : ReachInv N k0 k) (hst : ∀ r ∈ N.rules, stepReach k r = k) : Lfp (ClosedF N) (frAt k) := by
  refine ⟨⟨h.z, fun r hr hm n hn => ?_⟩, h.sound⟩
  rcases reachP_off r.1 r.2 k with ⟨_, h2⟩ | h2
  · exact h2 hm n hn (by rw [h.len]; exact hN.pn r hr n hn)
  · have := hst r hr
    unfold stepReach at this
    rw [this] at h2
    omega

theorem reach_start {N : NG} (hN : N.Ok) {k0 : List Fa} (hl : k0.length = N.nN) (h0 : ∀ n, frAt k0 n = false) : ReachInv N k0 (k0.modify 0 setR) where
  len := by rw [List.length_modify]; exact hl
  fl := fl_keep (f := setR) (fun _ => rfl)
  fh := fh_keep (f := setR) (fun _ => rfl)
  fo := fo_keep (f := setR) (fun _ => rfl)
  z := by rw [fr_setR, if_pos ⟨rfl, by rw [hl]; exact hN.pos⟩]
  sound := fun T hT n hn => by
    rw [fr_setR] at hn
    split at hn
    · rename_i h; rw [← h.1]; exact hT.1
    · rw [h0] at hn; cases hn

/-! ### First -/

/-- What a name can be: empty. -/
def emP (k : List Fa) (n : Nat) : Bool := decide (flAt k n = 0)

/-- (*Facts).begins, from a place of the parts on. -/
def beginsP (k : List Fa) : List Pt → Nat → Nat × Bool
  | [], f => (f, true)
  | .tok t :: _, f => (f ||| 1 <<< t, false)
  | .nam n :: ps, f => if flAt k n = 0 then beginsP k ps (f ||| fhAt k n) else (f ||| fhAt k n, false)

theorem beginsP_spec (k : List Fa) : ∀ (ps : List Pt) (f : Nat), (beginsP k ps f).2 = nulB (emP k) ps ∧ ∀ t, (beginsP k ps f).1.testBit t = (f.testBit t || begT (emP k) (fun n => (fhAt k n).testBit t) t ps)
  | [], f => ⟨rfl, fun t => by simp [beginsP, begT]⟩
  | .tok u :: ps, f => ⟨rfl, fun t => by
      simp only [beginsP, begT, Nat.testBit_or, Nat.one_shiftLeft, Nat.testBit_two_pow]
      congr 1⟩
  | .nam n :: ps, f => by
    simp only [beginsP]
    by_cases h : flAt k n = 0
    · rw [if_pos h]
      obtain ⟨h1, h2⟩ := beginsP_spec k ps (f ||| fhAt k n)
      refine ⟨by rw [h1]; simp [nulB, emP, h], fun t => ?_⟩
      rw [h2]
      simp [begT, emP, h, Nat.testBit_or, Bool.or_assoc]
    · rw [if_neg h]
      refine ⟨by simp [nulB, emP, h], fun t => ?_⟩
      simp [begT, emP, h, Nat.testBit_or]

theorem beginsP_lt {N : NG} (hT : N.nT ≤ 20) {k : List Fa} (hk : ∀ n, fhAt k n < 2 ^ 21) : ∀ (ps : List Pt) (f : Nat), PsOk N ps → f < 2 ^ 21 → (beginsP k ps f).1 < 2 ^ 21
  | [], f, _, h => h
  | .tok t :: ps, f, hp, h => by
    simp only [beginsP]
    refine Nat.or_lt_two_pow h ?_
    rw [Nat.one_shiftLeft]
    exact Nat.pow_lt_pow_right (by omega) (by have := hp.2 t (List.mem_cons_self ..); omega)
  | .nam n :: ps, f, hp, h => by
    simp only [beginsP]
    have h1 := Nat.or_lt_two_pow h (hk n)
    split
    · exact beginsP_lt hT hk ps _ hp.tail h1
    · exact h1

def stepFirst (k : List Fa) (r : Nat × List Pt) : List Fa := k.modify r.1 fun a => { a with first := a.first ||| (beginsP k r.2 0).1 }

structure FirstInv (N : NG) (k0 k : List Fa) : Prop where
  len : k.length = N.nN
  fl : ∀ n, flAt k n = flAt k0 n
  fr : ∀ n, frAt k n = frAt k0 n
  fo : ∀ n, foAt k n = foAt k0 n
  lt : ∀ n, fhAt k n < 2 ^ 21
  sound : ∀ t T, ClosedH N (emP k0) t T → ∀ n, (fhAt k n).testBit t = true → T n = true

def leftH (a : Fa) : Nat := 2 ^ 21 - a.first
def leftO (a : Fa) : Nat := 2 ^ 21 - a.follow

theorem fh_or (k : List Fa) (n m x : Nat) : fhAt (k.modify n fun a => { a with first := a.first ||| x }) m = if n = m ∧ m < k.length then fhAt k m ||| x else fhAt k m := by
  rw [fh_modify]
  split
  · rename_i h
    unfold fhAt
    rw [List.getElem?_eq_getElem h.2]; rfl
  · rfl

theorem fo_or (k : List Fa) (n m x : Nat) : foAt (k.modify n fun a => { a with follow := a.follow ||| x }) m = if n = m ∧ m < k.length then foAt k m ||| x else foAt k m := by
  rw [fo_modify]
  split
  · rename_i h
    unfold foAt
    rw [List.getElem?_eq_getElem h.2]; rfl
  · rfl

theorem stepFirst_ok {N : NG} (hN : N.Ok) (hT : N.nT ≤ 20) {k0 k : List Fa} (h : FirstInv N k0 k) {r : Nat × List Pt} (hr : r ∈ N.rules) : (stepFirst k r = k ∨ msum leftH (stepFirst k r) < msum leftH k) ∧ FirstInv N k0 (stepFirst k r) := by
  have hb := beginsP_lt hT h.lt r.2 0 (hN.ps hr) (by decide)
  have hem : emP k = emP k0 := by funext n; unfold emP; rw [h.fl]
  refine ⟨modify_lt fun a ha => ?_, by unfold stepFirst; rw [List.length_modify]; exact h.len, fun n => (fl_keep (f := fun a => { a with first := a.first ||| (beginsP k r.2 0).1 }) (fun _ => rfl) n).trans (h.fl n), fun n => (fr_keep (f := fun a => { a with first := a.first ||| (beginsP k r.2 0).1 }) (fun _ => rfl) n).trans (h.fr n), fun n => (fo_keep (f := fun a => { a with first := a.first ||| (beginsP k r.2 0).1 }) (fun _ => rfl) n).trans (h.fo n), fun n => ?_, fun t T hC n hn => ?_⟩
  · have ha2 : a.first < 2 ^ 21 := by
      have := h.lt r.1
      unfold fhAt at this
      rw [ha] at this
      exact this
    have hle : a.first ≤ a.first ||| (beginsP k r.2 0).1 := Nat.left_le_or
    have hlt := Nat.or_lt_two_pow ha2 hb
    by_cases he : a.first ||| (beginsP k r.2 0).1 = a.first
    · left; rw [he]
    · right; unfold leftH; simp only; omega
  · unfold stepFirst
    rw [fh_or]
    split
    · exact Nat.or_lt_two_pow (h.lt n) hb
    · exact h.lt n
  · unfold stepFirst at hn
    rw [fh_or] at hn
    split at hn
    · rename_i h1
      rw [Nat.testBit_or, Bool.or_eq_true] at hn
      rcases hn with hn | hn
      · exact h.sound t T hC n hn
      · rw [(beginsP_spec k r.2 0).2 t, Nat.zero_testBit, Bool.false_or, hem] at hn
        rw [← h1.1]
        exact hC r hr (begT_mono (fun m hm => h.sound t T hC m hm) _ hn)
    · exact h.sound t T hC n hn

theorem first_done {N : NG} (hN : N.Ok) {k0 k : List Fa} (h : FirstInv N k0 k) (hst : ∀ r ∈ N.rules, stepFirst k r = k) (t : Nat) : Lfp (ClosedH N (emP k0) t) (fun n => (fhAt k n).testBit t) := by
  refine ⟨fun r hr hb => ?_, h.sound t⟩
  have hem : emP k = emP k0 := by funext n; unfold emP; rw [h.fl]
  have h1 := congrArg (fun q => (fhAt q r.1).testBit t) (hst r hr)
  simp only [stepFirst] at h1
  rw [fh_or, if_pos ⟨rfl, by rw [h.len]; exact hN.lt r hr⟩, Nat.testBit_or, (beginsP_spec k r.2 0).2 t, hem, hb] at h1
  simpa using h1.symm

theorem first_start {N : NG} {k0 : List Fa} (hl : k0.length = N.nN) (h0 : ∀ n, fhAt k0 n = 0) : FirstInv N k0 k0 where
  len := hl
  fl := fun _ => rfl
  fr := fun _ => rfl
  fo := fun _ => rfl
  lt := fun n => by rw [h0]; decide
  sound := fun t T _ n hn => by rw [h0] at hn; simp at hn

end Go.Proofs.YtjjggdcnpndgjaaGreatDoor

namespace Go.Proofs.YtjjggdcnpndgjaaGreatDoor

/-- (*Facts).ahead. -/
def aheadP (k : List Fa) (ps : List Pt) (fo : Nat) : Nat := if (beginsP k ps 0).2 = true then (beginsP k ps 0).1 ||| fo else (beginsP k ps 0).1

theorem aheadP_spec (k : List Fa) (ps : List Pt) (fo t : Nat) : (aheadP k ps fo).testBit t = (begT (emP k) (fun n => (fhAt k n).testBit t) t ps || (nulB (emP k) ps && fo.testBit t)) := by
  obtain ⟨h1, h2⟩ := beginsP_spec k ps 0
  unfold aheadP
  rw [h1]
  cases hb : nulB (emP k) ps
  · simp [h2]
  · simp [h2]

theorem aheadP_lt {N : NG} (hT : N.nT ≤ 20) {k : List Fa} (hk : ∀ n, fhAt k n < 2 ^ 21) {ps : List Pt} (hp : PsOk N ps) {fo : Nat} (hf : fo < 2 ^ 21) : aheadP k ps fo < 2 ^ 21 := by
  have h1 := beginsP_lt hT hk ps 0 hp (by decide)
  unfold aheadP
  split
  · exact Nat.or_lt_two_pow h1 hf
  · exact h1

def orF (x : Nat) (a : Fa) : Fa := { a with follow := a.follow ||| x }

theorem fo_orF (k : List Fa) (n m x : Nat) : foAt (k.modify n (orF x)) m = if n = m ∧ m < k.length then foAt k m ||| x else foAt k m := fo_or k n m x

/-- findFollow's step, from a place of the parts on. -/
def followP (m : Nat) : List Pt → List Fa → List Fa
  | [], k => k
  | .tok _ :: ps, k => followP m ps k
  | .nam n :: ps, k => followP m ps (k.modify n (orF (aheadP k ps (foAt k m))))

def stepFollow (k : List Fa) (r : Nat × List Pt) : List Fa := followP r.1 r.2 k

theorem followP_keep (m : Nat) : ∀ (ps : List Pt) (k : List Fa), (followP m ps k).length = k.length ∧ (∀ n, flAt (followP m ps k) n = flAt k n) ∧ (∀ n, frAt (followP m ps k) n = frAt k n) ∧ (∀ n, fhAt (followP m ps k) n = fhAt k n) := by
  intro ps
  induction ps with
  | nil => intro k; exact ⟨rfl, fun _ => rfl, fun _ => rfl, fun _ => rfl⟩
  | cons p ps ih =>
    intro k
    cases p with
    | tok t => exact ih k
    | nam n =>
      unfold followP
      obtain ⟨h1, h2, h3, h4⟩ := ih (k.modify n (orF (aheadP k ps (foAt k m))))
      exact ⟨by rw [h1, List.length_modify], fun q => by rw [h2, fl_keep (f := orF _) (fun _ => rfl)], fun q => by rw [h3, fr_keep (f := orF _) (fun _ => rfl)], fun q => by rw [h4, fh_keep (f := orF _) (fun _ => rfl)]⟩

theorem orF_lt {N : NG} (hT : N.nT ≤ 20) {k : List Fa} (hh : ∀ n, fhAt k n < 2 ^ 21) (ho : ∀ n, foAt k n < 2 ^ 21) {ps : List Pt} (hp : PsOk N ps) (m n : Nat) :
    (k.modify n (orF (aheadP k ps (foAt k m))) = k ∨ msum leftO (k.modify n (orF (aheadP k ps (foAt k m)))) < msum leftO k) ∧ ∀ q, foAt (k.modify n (orF (aheadP k ps (foAt k m)))) q < 2 ^ 21 := by
  have hb := aheadP_lt hT hh hp (ho m)
  refine ⟨modify_lt fun a ha => ?_, fun q => ?_⟩
  · have ha2 : a.follow < 2 ^ 21 := by
      have := ho n
      unfold foAt at this
      rw [ha] at this
      exact this
    have hle : a.follow ≤ a.follow ||| aheadP k ps (foAt k m) := Nat.left_le_or
    have hlt := Nat.or_lt_two_pow ha2 hb
    by_cases he : a.follow ||| aheadP k ps (foAt k m) = a.follow
    · left; unfold orF; rw [he]
    · right; unfold leftO orF; simp only; omega
  · rw [fo_orF]
    split
    · exact Nat.or_lt_two_pow (ho q) hb
    · exact ho q

theorem followP_off {N : NG} (hT : N.nT ≤ 20) (m : Nat) : ∀ (ps : List Pt) (k : List Fa), PsOk N ps → (∀ n, fhAt k n < 2 ^ 21) → (∀ n, foAt k n < 2 ^ 21) →
    ((followP m ps k = k ∧ ∀ pre n post, ps = pre ++ Pt.nam n :: post → n < k.length → foAt k n ||| aheadP k post (foAt k m) = foAt k n) ∨ msum leftO (followP m ps k) < msum leftO k) ∧ ∀ n, foAt (followP m ps k) n < 2 ^ 21 := by
  intro ps
  induction ps with
  | nil => intro k _ _ ho; exact ⟨.inl ⟨rfl, fun pre n post h => by simp at h⟩, ho⟩
  | cons p ps ih =>
    intro k hp hh ho
    cases p with
    | tok t =>
      obtain ⟨h1, h2⟩ := ih k hp.tail hh ho
      refine ⟨h1.imp (fun h => ⟨h.1, fun pre n post e hl => ?_⟩) id, h2⟩
      cases pre with
      | nil => simp at e
      | cons q pre => exact h.2 pre n post (by simpa using (List.cons.inj e).2) hl
    | nam n =>
      unfold followP
      obtain ⟨h3, h4⟩ := orF_lt hT hh ho hp.tail m n
      have hh' : ∀ q, fhAt (k.modify n (orF (aheadP k ps (foAt k m)))) q < 2 ^ 21 := fun q => by rw [fh_keep (f := orF _) (fun _ => rfl)]; exact hh q
      obtain ⟨h1, h2⟩ := ih _ hp.tail hh' h4
      refine ⟨?_, h2⟩
      rcases h3 with h3 | h3
      · rw [h3] at h1 ⊢
        refine h1.imp (fun h => ⟨h.1, fun pre n' post e hl => ?_⟩) id
        cases pre with
        | nil =>
          have e1 := List.cons.inj e
          obtain ⟨e1, e2⟩ := e1
          injection e1 with e1
          subst e1
          subst e2
          have h5 := congrArg (fun q => foAt q n) h3
          rw [fo_orF, if_pos ⟨rfl, hl⟩] at h5
          exact h5
        | cons q pre => exact h.2 pre n' post (by simpa using (List.cons.inj e).2) hl
      · rcases h1 with ⟨h1, _⟩ | h1
        · right; rw [h1]; exact h3
        · right; omega

theorem followP_up (m : Nat) (t : Nat) : ∀ (ps : List Pt) (k : List Fa) (n : Nat), (foAt k n).testBit t = true → (foAt (followP m ps k) n).testBit t = true := by
  intro ps
  induction ps with
  | nil => intro k n h; exact h
  | cons p ps ih =>
    intro k n h
    cases p with
    | tok u => exact ih k n h
    | nam q =>
      unfold followP
      refine ih _ n ?_
      rw [fo_orF]
      split
      · rw [Nat.testBit_or, h]; rfl
      · exact h

theorem followP_sound {m t : Nat} {E H T : Nat → Bool} : ∀ (ps : List Pt) (k : List Fa), emP k = E → (fun n => (fhAt k n).testBit t) = H → (∀ n, (foAt k n).testBit t = true → T n = true) →
    (∀ pre n post, ps = pre ++ Pt.nam n :: post → (begT E H t post || (nulB E post && T m)) = true → T n = true) → ∀ n, (foAt (followP m ps k) n).testBit t = true → T n = true := by
  intro ps
  induction ps with
  | nil => intro k _ _ h _ n hn; exact h n hn
  | cons p ps ih =>
    intro k hE hH h hp
    have hp' : ∀ pre n post, ps = pre ++ Pt.nam n :: post → (begT E H t post || (nulB E post && T m)) = true → T n = true := fun pre n post e => hp (p :: pre) n post (by rw [e]; rfl)
    cases p with
    | tok u => exact ih k hE hH h hp'
    | nam n =>
      unfold followP
      refine ih _ ?_ ?_ (fun q hq => ?_) hp'
      · rw [← hE]; funext q; unfold emP; rw [fl_keep (f := orF _) (fun _ => rfl)]
      · rw [← hH]; funext q; rw [fh_keep (f := orF _) (fun _ => rfl)]
      · rw [fo_orF] at hq
        split at hq
        · rename_i h1
          rw [Nat.testBit_or, Bool.or_eq_true] at hq
          rcases hq with hq | hq
          · exact h q hq
          · rw [aheadP_spec, hE, hH] at hq
            rw [← h1.1]
            refine hp [] n ps rfl ?_
            simp only [Bool.or_eq_true, Bool.and_eq_true] at hq ⊢
            exact hq.imp id (fun hq => ⟨hq.1, h m hq.2⟩)
        · exact h q hq

structure FollowInv (N : NG) (k0 k : List Fa) : Prop where
  len : k.length = N.nN
  fl : ∀ n, flAt k n = flAt k0 n
  fr : ∀ n, frAt k n = frAt k0 n
  fh : ∀ n, fhAt k n = fhAt k0 n
  hlt : ∀ n, fhAt k n < 2 ^ 21
  lt : ∀ n, foAt k n < 2 ^ 21
  z : (foAt k 0).testBit N.nT = true
  sound : ∀ t T, ClosedT N (emP k0) (fun n => (fhAt k0 n).testBit t) t T → ∀ n, (foAt k n).testBit t = true → T n = true

theorem emP_same {k k0 : List Fa} (h : ∀ n, flAt k n = flAt k0 n) : emP k = emP k0 := by funext n; unfold emP; rw [h]

theorem stepFollow_ok {N : NG} (hN : N.Ok) (hT : N.nT ≤ 20) {k0 k : List Fa} (h : FollowInv N k0 k) {r : Nat × List Pt} (hr : r ∈ N.rules) : (stepFollow k r = k ∨ msum leftO (stepFollow k r) < msum leftO k) ∧ FollowInv N k0 (stepFollow k r) := by
  obtain ⟨h1, h2⟩ := followP_off hT r.1 r.2 k (hN.ps hr) h.hlt h.lt
  obtain ⟨h3, h4, h5, h6⟩ := followP_keep r.1 r.2 k
  exact ⟨h1.imp (fun h => h.1) id, by unfold stepFollow; rw [h3]; exact h.len, fun n => (h4 n).trans (h.fl n), fun n => (h5 n).trans (h.fr n), fun n => (h6 n).trans (h.fh n), fun n => (by show fhAt (followP r.1 r.2 k) n < _; rw [h6]; exact h.hlt n), h2, followP_up _ _ _ _ _ h.z,
    fun t T hC => followP_sound r.2 k (emP_same h.fl) (by funext n; rw [h.fh]) (h.sound t T hC) (fun pre n post e he => hC.2 r hr pre n post e he)⟩

theorem follow_done {N : NG} (hN : N.Ok) (hT : N.nT ≤ 20) {k0 k : List Fa} (h : FollowInv N k0 k) (hst : ∀ r ∈ N.rules, stepFollow k r = k) (t : Nat) : Lfp (ClosedT N (emP k0) (fun n => (fhAt k0 n).testBit t) t) (fun n => (foAt k n).testBit t) := by
  refine ⟨⟨fun e => by rw [e]; exact h.z, fun r hr pre n post e he => ?_⟩, h.sound t⟩
  obtain ⟨h1, _⟩ := followP_off hT r.1 r.2 k (hN.ps hr) h.hlt h.lt
  rcases h1 with ⟨_, h2⟩ | h2
  · have hn : n < k.length := by rw [h.len]; exact hN.pn r hr n (by rw [e]; simp)
    have h3 := congrArg (fun x => x.testBit t) (h2 pre n post e hn)
    rw [Nat.testBit_or, aheadP_spec, emP_same h.fl, show (fun n => (fhAt k n).testBit t) = (fun n => (fhAt k0 n).testBit t) from by funext q; rw [h.fh], he] at h3
    simpa using h3.symm
  · have := hst r hr
    unfold stepFollow at this
    rw [this] at h2
    omega

theorem follow_start {N : NG} (hN : N.Ok) (hT : N.nT ≤ 20) {k0 : List Fa} (hl : k0.length = N.nN) (hh : ∀ n, fhAt k0 n < 2 ^ 21) (h0 : ∀ n, foAt k0 n = 0) : FollowInv N k0 (k0.modify 0 fun a => { a with follow := 1 <<< N.nT }) := by
  have hp : (1 : Nat) <<< N.nT < 2 ^ 21 := by rw [Nat.one_shiftLeft]; exact Nat.pow_lt_pow_right (by omega) (by omega)
  have ho : ∀ n, foAt (k0.modify 0 fun a => { a with follow := 1 <<< N.nT }) n = if 0 = n ∧ n < k0.length then 1 <<< N.nT else 0 := fun n => by
    rw [fo_modify]
    split
    · rename_i h1
      rw [List.getElem?_eq_getElem h1.2]; rfl
    · exact h0 n
  refine ⟨by rw [List.length_modify]; exact hl, fl_keep (fun _ => rfl), fr_keep (fun _ => rfl), fh_keep (fun _ => rfl), fun n => by rw [fh_keep (f := fun a => { a with follow := 1 <<< N.nT }) (fun _ => rfl)]; exact hh n, fun n => ?_, ?_, fun t T hC n hn => ?_⟩
  · rw [ho]
    split
    · exact hp
    · decide
  · rw [ho, if_pos ⟨rfl, by rw [hl]; exact hN.pos⟩, Nat.one_shiftLeft, Nat.testBit_two_pow]; simp
  · rw [ho] at hn
    split at hn
    · rename_i h1
      rw [Nat.one_shiftLeft, Nat.testBit_two_pow] at hn
      rw [← h1.1]
      exact hC.1 (of_decide_eq_true hn).symm
    · simp at hn

end Go.Proofs.YtjjggdcnpndgjaaGreatDoor
