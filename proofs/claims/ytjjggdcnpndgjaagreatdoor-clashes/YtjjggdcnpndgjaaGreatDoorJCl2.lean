/- Pure: a clash that the program finds is one that the reference takes; where it finds none there is none. -/
import Derived.Test.YtjjggdcnpndgjaaGreatDoorJCl1
import Derived.Test.YtjjggdcnpndgjaaGreatDoorJ18
namespace Go.Proofs.YtjjggdcnpndgjaaGreatDoor

theorem rulN_flat (pg : List Nm) : rulN pg = flatZ (pg.map (·.2)) 0 := by
  unfold rulN flatZ
  rw [List.zipIdx_map, List.flatMap_map]
  rfl

theorem votes_bit {N : NG} (hN : N.Ok) {i n t : Nat} {ps : List Pt} (hi : N.rules[i]? = some (n, ps)) (ht : t ≤ N.nT) : bAt (mAt (votesN N) i) t = spkN N n ps t := by
  have hM := (headsN_lfp N hN (bAt (closedN N false))).1
  have hps : PsOk N ps := hN.ps (List.mem_of_getElem? hi)
  obtain ⟨_, h2, h3⟩ := speakB_spec hM (bAt (closedN N false)) ps (row0 N) hps (by simp [row0])
  have e : mAt (votesN N) i = voteRow N (bAt (closedN N false)) (headsN N (bAt (closedN N false))) (tailsN N (headsN N (bAt (closedN N false))) (bAt (closedN N false))) (n, ps) := by
    unfold mAt votesN
    rw [List.getD_eq_getElem?_getD, List.getElem?_map, hi]; rfl
  have e3 : ∀ (E : Nat → Bool) (H T : List (List Bool)), bAt (voteRow N E H T (n, ps)) t = voteOf (speakB H E ps (row0 N)).1 (speakB H E ps (row0 N)).2 (mAt T n) t := fun E H T => by
    show ((List.range (N.nT + 1)).map (voteOf (speakB H E ps (row0 N)).1 (speakB H E ps (row0 N)).2 (mAt T n))).getD t false = _
    rw [List.getD_eq_getElem?_getD, List.getElem?_map, List.getElem?_range (by omega)]; rfl
  rw [e, e3]
  unfold voteOf spkN
  have h0 : bAt (row0 N) t = false := by
    unfold bAt row0
    rw [List.getD_eq_getElem?_getD, List.getElem?_replicate]
    split <;> rfl
  have h3 := h3 t
  rw [h0, Bool.false_or] at h3
  show (bAt _ t || (_ && bAt _ t)) = _
  rw [h3, h2]
  rfl

section
variable {N : NG} {L : List (List (List Pt))}

theorem rn_flat (hr : N.rules = flatZ L 0) {n r : Nat} {rs : List (List Pt)} {ps : List Pt} (h : L[n]? = some rs) (h2 : rs[r]? = some ps) : N.rules[offZ L n + r]? = some (n, ps) ∧ rnAt N (offZ L n + r) = n := by
  have h3 := flatZ_at L 0 n r rs ps h h2
  rw [Nat.zero_add] at h3
  rw [← hr] at h3
  refine ⟨h3, ?_⟩
  unfold rnAt
  rw [h3]; rfl

theorem first_flat (hr : N.rules = flatZ L 0) {n : Nat} {rs : List (List Pt)} {ps : List Pt} (h : L[n]? = some rs) (h2 : rs[0]? = some ps) : firstN N n = offZ L n := by
  have h3 := (rn_flat hr h h2).1
  rw [Nat.add_zero] at h3
  refine firstN_at h3 rfl fun j hj e => ?_
  have hjl : j < N.rules.length := Nat.lt_trans hj (List.getElem?_eq_some_iff.1 h3).1
  obtain ⟨⟨m, p⟩, hq⟩ : ∃ q, N.rules[j]? = some q := ⟨_, List.getElem?_eq_getElem hjl⟩
  have e2 : m = n := by
    unfold rnAt at e
    rw [hq] at e; exact e
  rw [hr] at hq
  obtain ⟨n', r', rs', h4, _, _, h7⟩ := flatZ_inv L 0 j m p hq
  have : n' = n := by omega
  subst this
  omega

theorem clash_split (hN : N.Ok) (hr : N.rules = flatZ L 0) {i k t : Nat} (h : Clash3 N i k t) : ∃ n r0 r rs p0 p, i = offZ L n + r0 ∧ k = offZ L n + r ∧ rnAt N i = n ∧ L[n]? = some rs ∧ r0 < r ∧ rs[r0]? = some p0 ∧ rs[r]? = some p ∧ t ≤ N.nT ∧ spkN N n p0 t = true ∧ spkN N n p t = true := by
  obtain ⟨h1, h2, h3, h4, h5, h6⟩ := h
  obtain ⟨⟨m, p0⟩, hq0⟩ : ∃ q, N.rules[i]? = some q := ⟨_, List.getElem?_eq_getElem (by omega)⟩
  obtain ⟨⟨m', p⟩, hq⟩ : ∃ q, N.rules[k]? = some q := ⟨_, List.getElem?_eq_getElem h2⟩
  have e0 : rnAt N i = m := by unfold rnAt; rw [hq0]; rfl
  have e1 : rnAt N k = m' := by unfold rnAt; rw [hq]; rfl
  have em : m' = m := by omega
  subst em
  rw [votes_bit hN hq0 h3] at h5
  rw [votes_bit hN hq h3] at h6
  rw [hr] at hq0 hq
  obtain ⟨n, r0, rs, k1, k2, k3, k4⟩ := flatZ_inv L 0 i m' p0 hq0
  obtain ⟨n', r, rs', j1, j2, j3, j4⟩ := flatZ_inv L 0 k m' p hq
  have en : n' = n := by omega
  subst en
  rw [k2] at j2
  injection j2 with j2
  subst j2
  have em : m' = n' := by omega
  subst em
  exact ⟨m', r0, r, rs, p0, p, k4, j4, e0, k2, by omega, k3, j3, h3, h5, h6⟩

theorem no_clash (hN : N.Ok) (hr : N.rules = flatZ L 0) (h : ∀ n, n < L.length → NoCl N L n) : ∀ x y z, ¬ Clash3 N x y z := fun x y z hc => by
  obtain ⟨n, r0, r, rs, p0, p, _, _, _, h4, h5, h6, h7, h8, h9, h10⟩ := clash_split hN hr hc
  exact h n (List.getElem?_eq_some_iff.1 h4).1 rs r0 r p0 p z h4 h5 h6 h7 h8 ⟨h9, h10⟩

theorem clash_hit (hN : N.Ok) (hr : N.rules = flatZ L 0) {G : Gr} {pn : ByteArray} {n r0 r t : Nat} (h : ClAt N L n r0 r t) (hn : idxB G.names pn = n) :
    (∃ x y z, HitT G N pn r0 r (tokE G N t) x y z) ∧ ¬ ∃ x y z, HitA G N pn x y z := by
  obtain ⟨rs, p0, p, h1, h2, h3, h4, h5, h6, h7⟩ := h.ex
  obtain ⟨a1, a2⟩ := rn_flat hr h1 h3
  obtain ⟨b1, b2⟩ := rn_flat hr h1 h4
  have hlt := (List.getElem?_eq_some_iff.1 b1).1
  have h0 : rs[0]? = some (rs[0]'(by have := (List.getElem?_eq_some_iff.1 h3).1; omega)) := List.getElem?_eq_getElem _
  have hf := first_flat hr h1 h0
  refine ⟨⟨offZ L n + r0, offZ L n + r, t, ⟨by omega, hlt, h5, by rw [a2, b2], by rw [votes_bit hN a1 h5]; exact h6, by rw [votes_bit hN b1 h5]; exact h7⟩, ?_, ?_, ?_, ?_⟩, ?_⟩
  · rw [a2, hn]
  · rw [a2, hf]; omega
  · rw [a2, hf]; omega
  · simp
  · rintro ⟨x, y, z, hc, hlt'⟩
    obtain ⟨n', r0', r', rs', p0', p', _, _, e3, k4, k5, k6, k7, k8, k9, k10⟩ := clash_split hN hr hc
    rw [e3, hn] at hlt'
    have hlt2 : n' < n := by omega
    exact h.no n' hlt2 rs' r0' r' p0' p' z k4 k5 k6 k7 k8 ⟨k9, k10⟩

end

end Go.Proofs.YtjjggdcnpndgjaaGreatDoor
