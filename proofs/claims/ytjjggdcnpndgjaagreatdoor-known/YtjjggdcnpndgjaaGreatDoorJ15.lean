/- Pure: the grammar by numbers that the lines give; it is the reference's. Pure: the lines' numbered grammar represents the reference's. -/
import Derived.Test.YtjjggdcnpndgjaaGreatDoorJPnum1
import Derived.Test.YtjjggdcnpndgjaaGreatDoorJPg
import Derived.Test.YtjjggdcnpndgjaaGreatDoorJ7
import Derived.Test.YtjjggdcnpndgjaaGreatDoorJ5
namespace Go.Proofs.YtjjggdcnpndgjaaGreatDoor
open Go.RowKit

/-- A part, by its code in the map. -/
def ptC (c : Int) : Pt := if c % 2 = 1 then .nam (c / 2).toNat else .tok (c / 2).toNat

def tokLs (P : List Ln) : List Ln := P.filter fun x => x.2.1 == 0
def namLs (P : List Ln) : List Ln := P.filter fun x => x.2.1 == 2
def tokT (x : Ln) : ByteArray × Int × Int := (nth x.2.2 1, valD (nth x.2.2 2).data.toList, valD (nth x.2.2 3).data.toList)
def codeL (P : List Ln) : ByteArray → Int := codeF P 0 0 (fun _ => 0)
def nmOf (f : ByteArray → Int) (x : Ln) : Nm := (nth x.2.2 1, (rulesL x.2.2).map fun r => r.map fun w => ptC (f w))
def twsL (P : List Ln) : List ByteArray := (tokLs P).map fun x => nth x.2.2 1
def pgL (f : ByteArray → Int) (P : List Ln) : List Nm := (namLs P).map (nmOf f)
def rulN (pg : List Nm) : List (Nat × List Pt) := pg.zipIdx.flatMap fun x => x.1.2.map fun ps => (x.2, ps)
/-- What changing t to u costs, by the first line for it: 0, if there is none. -/
def swpF (f : ByteArray → Int) : List Ln → Nat → Nat → Nat
  | [], _, _ => 0
  | x :: P, t, u => if x.2.1 = 1 ∧ f (nth x.2.2 1) = 2 * (t : Int) ∧ f (nth x.2.2 2) = 2 * (u : Int) then (valD (nth x.2.2 3).data.toList).toNat else swpF f P t u
theorem swpF_of {f : ByteArray → Int} {t u c : Nat} : ∀ {P : List Ln}, (∀ x ∈ P, x.2.1 = 1 → f (nth x.2.2 1) = 2 * (t : Int) → f (nth x.2.2 2) = 2 * (u : Int) → (valD (nth x.2.2 3).data.toList).toNat = c) →
    (c ≠ 0 → ∃ x ∈ P, x.2.1 = 1 ∧ f (nth x.2.2 1) = 2 * (t : Int) ∧ f (nth x.2.2 2) = 2 * (u : Int)) → swpF f P t u = c
  | [], _, h => by
    by_cases hc : c = 0
    · rw [hc]; rfl
    · obtain ⟨x, hx, _⟩ := h hc; cases hx
  | x :: P, h1, h2 => by
    rw [swpF]
    split
    · rename_i hc
      exact h1 x (List.mem_cons_self ..) hc.1 hc.2.1 hc.2.2
    · rename_i hc
      refine swpF_of (fun y hy => h1 y (List.mem_cons_of_mem _ hy)) fun h0 => ?_
      obtain ⟨y, hy, hm⟩ := h2 h0
      rcases List.mem_cons.1 hy with rfl | hy
      · exact absurd hm hc
      · exact ⟨y, hy, hm⟩
def ngL (P : List Ln) : NG where
  nT := (twsL P).length
  nN := (pgL (codeL P) P).length
  put := fun t => (((tokLs P)[t]?.map fun x => valD (nth x.2.2 2).data.toList).getD 0).toNat
  drop := fun t => (((tokLs P)[t]?.map fun x => valD (nth x.2.2 3).data.toList).getD 0).toNat
  swp := swpF (codeL P) P
  rules := rulN (pgL (codeL P) P)

def fIdx (l : List ByteArray) (x : ByteArray) : Option Nat := l.findIdx? fun t => t.toList == x.toList

theorem idxB_eq (l : List ByteArray) (x : ByteArray) : idxB l x = match fIdx l x with
    | some i => (i : Int)
    | none => -1 := rfl

theorem fIdx_add (l : List ByteArray) (u x : ByteArray) : fIdx (l ++ [u]) x = match fIdx l x with
    | some i => some i
    | none => if (u.toList == x.toList) = true then some l.length else none := by
  unfold fIdx
  rw [List.findIdx?_append]
  cases h : l.findIdx? fun t => t.toList == x.toList with
  | some i => rfl
  | none =>
    simp only [Option.none_or, List.findIdx?_cons, List.findIdx?_nil]
    cases hb : (u.toList == x.toList) <;> simp

theorem fIdx_none {l : List ByteArray} {x : ByteArray} : fIdx l x = none ↔ hasNam l x = false := by
  unfold fIdx hasNam
  rw [List.findIdx?_eq_none_iff, List.any_eq_false]
  constructor
  · intro h y hy; rw [h y hy]; decide
  · intro h y hy; have := h y hy; simpa using this

theorem fIdx_lt {l : List ByteArray} {x : ByteArray} {i : Nat} (h : fIdx l x = some i) : i < l.length := by
  unfold fIdx at h
  exact (List.findIdx?_eq_some_iff_getElem.1 h).1

theorem sameB_list (x s : ByteArray) : sameB x s = (x.toList == s.toList) := by
  unfold sameB
  rw [ByteArray.toList_eq, ByteArray.toList_eq, Bool.eq_iff_iff]
  simp

theorem hasTok_ws (T : List (ByteArray × Int × Int)) (u : ByteArray) : hasTok T u = hasNam (tokWs T) u := by
  unfold hasTok hasNam tokWs
  rw [List.any_map]; rfl

/-- What the map says, in the reference's words. -/
def CodeOk (f : ByteArray → Int) (T : List ByteArray) (M : List ByteArray) : Prop :=
  ∀ s, f s = match fIdx M s with
    | some k => 2 * (k : Int) + 1
    | none => match fIdx T s with
      | some k => 2 * (k : Int)
      | none => 0

theorem same_trans {u x : ByteArray} (h : (u.toList == x.toList) = true) (l : List ByteArray) : hasNam l x = hasNam l u := by
  rw [beq_iff_eq] at h
  unfold hasNam
  rw [h]

theorem CodeOk.tok {f : ByteArray → Int} {T M : List ByteArray} (h : CodeOk f T M) {u : ByteArray} (hT : hasNam T u = false) (hM : hasNam M u = false) :
    CodeOk (fun s => if sameB u s = true then 2 * (T.length : Int) else f s) (T ++ [u]) M := by
  intro s
  simp only [sameB_list, fIdx_add]
  by_cases e : (u.toList == s.toList) = true
  · have h1 : fIdx M s = none := by rw [fIdx_none, same_trans e, hM]
    have h2 : fIdx T s = none := by rw [fIdx_none, same_trans e, hT]
    rw [if_pos e, h1, h2, if_pos e]
  · rw [if_neg e, h s, if_neg e]
    cases fIdx M s <;> cases fIdx T s <;> rfl

theorem CodeOk.nam {f : ByteArray → Int} {T M : List ByteArray} (h : CodeOk f T M) {u : ByteArray} (hM : hasNam M u = false) :
    CodeOk (fun s => if sameB u s = true then 2 * (M.length : Int) + 1 else f s) T (M ++ [u]) := by
  intro s
  simp only [sameB_list, fIdx_add]
  by_cases e : (u.toList == s.toList) = true
  · have h1 : fIdx M s = none := by rw [fIdx_none, same_trans e, hM]
    rw [if_pos e, h1, if_pos e]
  · rw [if_neg e, h s, if_neg e]
    cases fIdx M s <;> rfl

/-- Each name stands once. -/
def Once (M : List ByteArray) : Prop := ∀ i u, M[i]? = some u → fIdx M u = some i

theorem Once.add {M : List ByteArray} (h : Once M) {u : ByteArray} (hM : hasNam M u = false) : Once (M ++ [u]) := by
  intro i v hv
  rw [fIdx_add]
  by_cases hi : i < M.length
  · rw [List.getElem?_append_left hi] at hv
    rw [h i v hv]
  · rw [List.getElem?_append_right (by omega)] at hv
    obtain ⟨h1, h2⟩ := List.getElem?_eq_some_iff.1 hv
    simp at h1
    have e : v = u := by simp only [List.getElem_singleton] at h2; exact h2.symm
    subst e
    rw [fIdx_none.2 hM]
    simp
    omega

structure Gives (P : List Ln) (G G' : Gr) (f : ByteArray → Int) : Prop where
  toks : G'.toks = G.toks ++ (tokLs P).map tokT
  names : G'.names = G.names ++ (namLs P).map fun x => nth x.2.2 1
  rules : G'.rules = G.rules ++ (namLs P).flatMap fun x => (rulesL x.2.2).map fun r => (nth x.2.2 1, r)
  code : CodeOk f (tokWs G'.toks) G'.names
  once : Once G'.names

theorem tokWs_add (T : List (ByteArray × Int × Int)) (x : ByteArray × Int × Int) : tokWs (T ++ [x]) = tokWs T ++ [x.1] := by unfold tokWs; simp

theorem pass_gives : ∀ (ls : List (Nat × List ByteArray)) (G : Gr) (m : Int) (t n r : Nat) (ws : List ByteArray) (f : ByteArray → Int), (∀ x ∈ ls, isLineB x.2 = true) → Inv G ws t n r →
    CodeOk f (tokWs G.toks) G.names → Once G.names → (pass2 ls G m).2.2 = none → Gives (progL ls) G (pass2 ls G m).1 (codeF (progL ls) t n f)
  | [], G, m, t, n, r, ws, f, _, hI, hf, ho, _ => ⟨by simp [pass2, progL, tokLs], by simp [pass2, progL, namLs], by simp [pass2, progL, namLs], hf, ho⟩
  | x :: ls, G, m, t, n, r, ws, f, hall, hI, hf, ho, hn => by
    have hx := hall x (by simp)
    have hrest : ∀ y ∈ ls, isLineB y.2 = true := fun y hy => hall y (by simp [hy])
    by_cases h3 : (giveB G x.2).2 = 3
    · rw [pass2, if_pos h3] at hn; cases hn
    · have ep : ∀ mm, mm = (if (giveB G x.2).2 = 4 ∧ m < 0 then (x.1 : Int) else m) → pass2 (x :: ls) G m = pass2 ls (giveB G x.2).1 mm := fun mm h => by rw [pass2, if_neg h3, h]
      obtain ⟨mm, hmm⟩ : ∃ mm, mm = (if (giveB G x.2).2 = 4 ∧ m < 0 then (x.1 : Int) else m) := ⟨_, rfl⟩
      rw [ep mm hmm] at hn ⊢
      by_cases h1 : x.2.length = 1
      · have hs := step_empty hI hx h1
        rw [progL_cons_empty h1]
        rw [hs.1] at hn ⊢
        exact pass_gives ls G mm t n r ws f hrest hI hf ho hn
      · rw [progL_cons h1]
        rcases line_shape hx h1 with ⟨hsh, hlen, htk⟩ | ⟨hsh, hlen, htk, _⟩ | ⟨hsh, hlen, hnm, _⟩
        · have h0 : ((nth x.2 0).toList == [116, 111, 107, 101, 110]) = true := shape_head hx h1 hsh
          rw [hsh]
          rcases step_tok hI h0 htk with ⟨hc, h3'⟩ | ⟨hc, hI2, _⟩
          · exact absurd h3' h3
          · have hno := hI.no_name htk
            have hnt : hasTok G.toks (nth x.2 1) = false := by
              cases hq : hasTok G.toks (nth x.2 1) with
              | false => rfl
              | true => exact absurd ((hI.has _).1 (.inl hq)) hc
            have eg : (giveB G x.2).1 = { G with toks := G.toks ++ [(nth x.2 1, valD (nth x.2 2).data.toList, valD (nth x.2 3).data.toList)] } := by
              unfold giveB; rw [if_pos h0, if_neg (by rw [hnt]; decide)]
            have hf2 : CodeOk (fun s => if sameB (nth x.2 1) s = true then 2 * (t : Int) else f s) (tokWs (giveB G x.2).1.toks) (giveB G x.2).1.names := by
              rw [eg]
              simp only [tokWs_add]
              have h4 := hf.tok (u := nth x.2 1) (by rw [← hasTok_ws]; exact hnt) hno
              rw [← hI.nt]
              unfold tokWs at h4 ⊢
              rwa [List.length_map] at h4
            have hg := pass_gives ls _ mm _ _ _ _ _ hrest hI2 hf2 (by rw [eg]; exact ho) hn
            refine ⟨?_, ?_, ?_, ?_, hg.once⟩
            · rw [hg.toks, eg]; simp [tokLs, tokT]
            · rw [hg.names, eg]; simp [namLs]
            · rw [hg.rules, eg]; simp [namLs]
            · have e : codeF ((x.1, 0, x.2) :: progL ls) t n f = codeF (progL ls) (t + 1) n (fun s => if sameB (nth x.2 1) s = true then 2 * (t : Int) else f s) := rfl
              rw [e]; exact hg.code
        · have h0 := shape_head hx h1 hsh
          rw [hsh]
          have hs := step_swap hI h0.1 h0.2
          have eg : (giveB G x.2).1 = { G with swps := G.swps ++ [(nth x.2 1, nth x.2 2, valD (nth x.2 3).data.toList)] } := by
            unfold giveB; rw [if_neg (by rw [h0.1]; decide), if_pos h0.2]
          have hg := pass_gives ls _ mm _ _ _ _ f hrest hs.1 (by rw [eg]; exact hf) (by rw [eg]; exact ho) hn
          refine ⟨?_, ?_, ?_, ?_, hg.once⟩
          · rw [hg.toks, eg]; simp [tokLs]
          · rw [hg.names, eg]; simp [namLs]
          · rw [hg.rules, eg]; simp [namLs]
          · have e : codeF ((x.1, 1, x.2) :: progL ls) t n f = codeF (progL ls) t n f := rfl
            rw [e]; exact hg.code
        · have h0 := shape_head hx h1 hsh
          rw [hsh]
          rcases step_rule hI h0.1 h0.2.1 h0.2.2 hnm with ⟨hc, h3'⟩ | ⟨hc, hI2, _⟩
          · exact absurd h3' h3
          · have hnn : hasNam G.names (nth x.2 1) = false := by
              cases hq : hasNam G.names (nth x.2 1) with
              | false => rfl
              | true => exact absurd ((hI.has _).1 (.inr hq)) hc
            have eg : (giveB G x.2).1 = { G with names := G.names ++ [nth x.2 1], rules := G.rules ++ (rulesL x.2).map fun r => (nth x.2 1, r) } := by
              unfold giveB
              rw [if_neg (by rw [h0.1]; decide), if_neg (by rw [h0.2.1]; decide), if_pos h0.2.2, if_neg (by rw [hnn]; decide), (rst_rules G.rules (nth x.2 1) x.2).1]
            have hf2 : CodeOk (fun s => if sameB (nth x.2 1) s = true then 2 * (n : Int) + 1 else f s) (tokWs (giveB G x.2).1.toks) (giveB G x.2).1.names := by
              rw [eg, ← hI.nn]
              exact hf.nam hnn
            have hg := pass_gives ls _ mm _ _ _ _ _ hrest hI2 hf2 (by rw [eg]; exact ho.add hnn) hn
            refine ⟨?_, ?_, ?_, ?_, hg.once⟩
            · rw [hg.toks, eg]; simp [tokLs]
            · rw [hg.names, eg]; simp [namLs]
            · rw [hg.rules, eg]; simp [namLs]
            · have e : codeF ((x.1, 2, x.2) :: progL ls) t n f = codeF (progL ls) t (n + 1) (fun s => if sameB (nth x.2 1) s = true then 2 * (n : Int) + 1 else f s) := rfl
              rw [e]; exact hg.code

theorem many_none : ∀ (P : List Ln) (t n r : Nat), manyB P t n r = none → t ≤ 20 → n ≤ 20 → r ≤ 60 →
    t + (tokLs P).length ≤ 20 ∧ n + (namLs P).length ≤ 20 ∧ r + ((namLs P).flatMap fun x => rulesL x.2.2).length ≤ 60 ∧ ∀ x ∈ namLs P, longB (rulesL x.2.2) ≤ 8
  | [], t, n, r, _, h1, h2, h3 => ⟨by simpa [tokLs] using h1, by simpa [namLs] using h2, by simpa [namLs] using h3, fun x hx => by simp [namLs] at hx⟩
  | x :: P, t, n, r, h, h1, h2, h3 => by
    rw [manyB] at h
    by_cases hc : 20 < (if x.2.1 = 0 then t + 1 else t) ∨ 20 < (if x.2.1 = 2 then n + 1 else n) ∨ 60 < (if x.2.1 = 2 then r + (rulesL x.2.2).length else r) ∨ 8 < (if x.2.1 = 2 then longB (rulesL x.2.2) else 0)
    · rw [if_pos hc] at h; cases h
    · rw [if_neg hc] at h
      have ih := many_none P _ _ _ h (by omega) (by omega) (by omega)
      clear h
      by_cases h0 : x.2.1 = 0
      · have h02 : ¬ x.2.1 = 2 := by omega
        simp only [if_pos h0, if_neg h02] at ih
        have e1 : tokLs (x :: P) = x :: tokLs P := by unfold tokLs; rw [List.filter_cons_of_pos (by simp [h0])]
        have e2 : namLs (x :: P) = namLs P := by unfold namLs; rw [List.filter_cons_of_neg (by simp [h0])]
        rw [e1, e2]
        exact ⟨by rw [List.length_cons]; omega, ih.2.1, ih.2.2.1, ih.2.2.2⟩
      · have e1 : tokLs (x :: P) = tokLs P := by unfold tokLs; rw [List.filter_cons_of_neg (by simp [h0])]
        by_cases h02 : x.2.1 = 2
        · simp only [if_neg h0, if_pos h02] at ih hc
          have e2 : namLs (x :: P) = x :: namLs P := by unfold namLs; rw [List.filter_cons_of_pos (by simp [h02])]
          rw [e1, e2]
          refine ⟨ih.1, by rw [List.length_cons]; omega, by rw [List.flatMap_cons, List.length_append]; omega, fun y hy => ?_⟩
          rcases List.mem_cons.1 hy with rfl | hy
          · omega
          · exact ih.2.2.2 y hy
        · simp only [if_neg h0, if_neg h02] at ih
          have e2 : namLs (x :: P) = namLs P := by unfold namLs; rw [List.filter_cons_of_neg (by simp [h02])]
          rw [e1, e2]
          exact ih

theorem long_le {rs : List (List ByteArray)} : ∀ {r : List ByteArray}, r ∈ rs → r.length ≤ longB rs := by
  have h : ∀ (rs : List (List ByteArray)) (m : Nat), m ≤ rs.foldl (fun m r => max m r.length) m ∧ ∀ r ∈ rs, r.length ≤ rs.foldl (fun m r => max m r.length) m := by
    intro rs
    induction rs with
    | nil => intro m; exact ⟨Nat.le_refl _, fun r hr => by cases hr⟩
    | cons a rs ih =>
      intro m
      rw [List.foldl_cons]
      have h1 := ih (max m a.length)
      refine ⟨by omega, fun r hr => ?_⟩
      rcases List.mem_cons.1 hr with rfl | hr
      · omega
      · exact h1.2 r hr
  intro r hr
  exact (h rs 0).2 r hr

theorem unk_none : ∀ {P : List Ln} {ws : List ByteArray}, unkL ws P = none → ∀ x ∈ P, lineUnk ws x = false
  | [], _, _, x, hx => by cases hx
  | y :: P, ws, h, x, hx => by
    rw [unkL] at h
    split at h
    · cases h
    · rename_i hc
      rcases List.mem_cons.1 hx with rfl | hx
      · simpa using hc
      · exact unk_none h x hx

/-- What a text that is a grammar gives. -/
structure GOk (P : List Ln) (G : Gr) : Prop where
  g : Gives P G0 G (codeL P)
  nT : (tokLs P).length ≤ 20
  nN : (namLs P).length ≤ 20
  nR : ((namLs P).flatMap fun x => rulesL x.2.2).length ≤ 60
  long : ∀ x ∈ namLs P, longB (rulesL x.2.2) ≤ 8
  pos : 0 < (namLs P).length
  known : ∀ x ∈ namLs P, ∀ r ∈ rulesL x.2.2, ∀ u ∈ r, hasTok G.toks u = true ∨ hasNam G.names u = true
  num : ∀ x ∈ tokLs P, numB (nth x.2.2 2) = true
  num3 : ∀ x ∈ tokLs P, numB (nth x.2.2 3) = true
  swn : ∀ x ∈ P, x.2.1 = 1 → numB (nth x.2.2 3) = true ∧ x.2.2.length = 4
  swk : ∀ x ∈ P, x.2.1 = 1 → hasTok G.toks (nth x.2.2 1) = true ∧ hasTok G.toks (nth x.2.2 2) = true
  swm : ∀ x ∈ P, x.2.1 = 1 → hasNam G.names (nth x.2.2 1) = false ∧ hasNam G.names (nth x.2.2 2) = false

theorem gok_of (s : ByteArray) (he : (readB s).1 = 0) : GOk (progL (scanA s 0).1) (readB s).2.2 := by
  have hp : (progB s).1 = 0 := by rw [prog_same]; exact he
  unfold progB at hp
  unfold readB at he ⊢
  by_cases h1 : 4000 < s.size
  · rw [if_pos h1] at he; cases he
  · rw [if_neg h1] at he hp ⊢
    by_cases h2 : (scanA s 0).2 < s.size
    · rw [if_pos h2] at he; cases he
    · rw [if_neg h2] at he hp ⊢
      have hall : ∀ x ∈ (scanA s 0).1, isLineB x.2 = true := fun x hx => (scan_mem s _ _ x hx).2
      have hI : Inv G0 [] 0 0 0 := ⟨fun u => by simp [hasTok, hasNam, G0, cnt], fun x hx => by simp [G0] at hx, fun x hx => by simp [G0] at hx, rfl, rfl, rfl⟩
      have hS := pass_same (scanA s 0).1 G0 (-1) 0 0 0 [] hall hI (.inl ⟨rfl, by omega⟩)
      have hV := pass_gives (scanA s 0).1 G0 (-1) 0 0 0 [] (fun _ => 0) hall hI (fun s => rfl) (fun i u h => by simp [G0] at h)
      rcases hpp : pass2 (scanA s 0).1 G0 (-1) with ⟨G, m, o⟩
      rw [hpp] at hS hV he
      cases o with
      | some a => simp only at he; cases he
      | none =>
        obtain ⟨ht, hm, t', r', hI'⟩ := hS.2 rfl
        rw [ht] at hp
        simp only at hp he hm ⊢
        cases hM : manyB (progL (scanA s 0).1) 0 0 0 with
        | some a => rw [hM] at hp; cases hp
        | none =>
          rw [hM] at hp hm
          rw [if_neg (by decide)] at hm
          have hm' : m = -1 := hm
          have e0 : ¬ (0 : Int) ≤ m := by omega
          simp only [if_neg e0] at he ⊢
          simp only at hp
          split at hp
          · rename_i hany
            cases hU : unkL (givenB (progL (scanA s 0).1)) (progL (scanA s 0).1) with
            | some a => rw [hU] at hp; cases hp
            | none =>
              by_cases hl0 : G.names.length = 0
              · rw [if_pos hl0] at he; cases he
              · rw [if_neg hl0] at he ⊢
                have hG := hV rfl
                have hmn := many_none _ 0 0 0 hM (by omega) (by omega) (by omega)
                have hfin : GOk (progL (scanA s 0).1) G := by
                  have hnum : ∀ x ∈ tokLs (progL (scanA s 0).1), x.2.2.length = 4 ∧ tokB (nth x.2.2 1) = true ∧ numB (nth x.2.2 2) = true ∧ numB (nth x.2.2 3) = true := fun x hx => by
                    have hx' := List.mem_filter.1 hx
                    have h8 : x.2.1 = 0 := by simpa using hx'.2
                    have h9 := hx'.1
                    unfold progL at h9
                    rw [List.mem_map] at h9
                    obtain ⟨y, hy, rfl⟩ := h9
                    have hy' := List.mem_filter.1 hy
                    exact line_tok (hall y hy'.1) (shape_head (hall y hy'.1) (of_decide_eq_true hy'.2) h8)
                  have hswl : ∀ x ∈ progL (scanA s 0).1, x.2.1 = 1 → x.2.2.length = 4 ∧ tokB (nth x.2.2 1) = true ∧ tokB (nth x.2.2 2) = true ∧ numB (nth x.2.2 3) = true := fun x hx h8 => by
                    have h9 := hx
                    unfold progL at h9
                    rw [List.mem_map] at h9
                    obtain ⟨y, hy, rfl⟩ := h9
                    have hy' := List.mem_filter.1 hy
                    have h10 := shape_head (hall y hy'.1) (of_decide_eq_true hy'.2) h8
                    exact line_swap (hall y hy'.1) h10.1 h10.2
                  refine ⟨hG, by omega, by omega, by omega, hmn.2.2.2, ?_, fun x hx r hr u hu => ?_, fun x hx => (hnum x hx).2.2.1, fun x hx => (hnum x hx).2.2.2, fun x hx h8 => ?_, fun x hx h8 => ?_, fun x hx h8 => ⟨hI'.no_name (hswl x hx h8).2.1, hI'.no_name (hswl x hx h8).2.2.1⟩⟩
                  · have h5 := congrArg List.length hG.names
                    simp [G0] at h5
                    omega
                  · have hx' := List.mem_filter.1 hx
                    have h6 := unk_none hU x hx'.1
                    unfold lineUnk at h6
                    rw [Bool.or_eq_false_iff] at h6
                    have h7 := List.any_eq_false.1 h6.2 u (by
                      unfold usesB
                      have h8 : x.2.1 = 2 := by simpa using hx'.2
                      rw [if_neg (by omega), if_pos h8]
                      exact List.mem_flatten.2 ⟨r, hr, hu⟩)
                    have h9 := hI'.has u
                    simp only [List.nil_append] at h9
                    exact h9.2 (by
                      have : ¬ cnt (givenB (progL (scanA s 0).1)) u = 0 := by simpa using h7
                      omega)
                  · exact ⟨(hswl x hx h8).2.2.2, (hswl x hx h8).1⟩
                  · have h6 := unk_none hU x hx
                    unfold lineUnk at h6
                    rw [Bool.or_eq_false_iff] at h6
                    have hk : ∀ u ∈ usesB x.2.1 x.2.2, tokB u = true → hasTok G.toks u = true := fun u hu ht => by
                      have h7 := List.any_eq_false.1 h6.2 u hu
                      have h9 := hI'.has u
                      simp only [List.nil_append] at h9
                      have h10 := h9.2 (by
                        have : ¬ cnt (givenB (progL (scanA s 0).1)) u = 0 := by simpa using h7
                        omega)
                      rcases h10 with h10 | h10
                      · exact h10
                      · rw [hI'.no_name ht] at h10; cases h10
                    have hu : usesB x.2.1 x.2.2 = [nth x.2.2 1, nth x.2.2 2] := by rw [h8]; rfl
                    exact ⟨hk _ (by rw [hu]; simp) (hswl x hx h8).2.1, hk _ (by rw [hu]; simp) (hswl x hx h8).2.2.1⟩
                cases hf : (scanA s 0).1.find? fun x => unknownB G x.2 with
                | some x => rw [hf] at he; cases he
                | none => exact hfin
          · cases hp

end Go.Proofs.YtjjggdcnpndgjaaGreatDoor

namespace Go.Proofs.YtjjggdcnpndgjaaGreatDoor
open Go.RowKit

def allR (P : List Ln) : List (Nat × ByteArray × List ByteArray) := (namLs P).zipIdx.flatMap fun x => (rulesL x.1.2.2).map fun r => (x.2, nth x.1.2.2 1, r)

theorem rulN_all (f : ByteArray → Int) (P : List Ln) : rulN (pgL f P) = (allR P).map fun j => (j.1, j.2.2.map fun w => ptC (f w)) := by
  unfold rulN pgL allR
  rw [List.zipIdx_map, List.flatMap_map, List.map_flatMap]
  congr 1
  funext x
  simp [nmOf, Function.comp_def]

theorem flat_all {β : Type} (P : List Ln) (h : ByteArray → List ByteArray → β) : ((namLs P).flatMap fun x => (rulesL x.2.2).map fun r => h (nth x.2.2 1) r) = (allR P).map fun j => h j.2.1 j.2.2 := by
  have e : namLs P = (namLs P).zipIdx.map Prod.fst := by simp
  unfold allR
  rw [List.map_flatMap]
  conv => lhs; rw [e, List.flatMap_map]
  congr 1
  funext x
  simp [Function.comp_def]

theorem mem_allR {P : List Ln} {j : Nat × ByteArray × List ByteArray} (h : j ∈ allR P) : ∃ x, (namLs P)[j.1]? = some x ∧ j.2.1 = nth x.2.2 1 ∧ j.2.2 ∈ rulesL x.2.2 := by
  unfold allR at h
  rw [List.mem_flatMap] at h
  obtain ⟨⟨x, i⟩, hx, hj⟩ := h
  rw [List.mem_map] at hj
  obtain ⟨r, hr, rfl⟩ := hj
  exact ⟨x, List.mem_zipIdx_iff_getElem?.1 hx, rfl, hr⟩

theorem ptC_nam (k : Nat) : ptC (2 * (k : Int) + 1) = .nam k := by
  unfold ptC
  rw [if_pos (by omega)]
  congr 1
  omega
theorem ptC_tok (k : Nat) : ptC (2 * (k : Int)) = .tok k := by
  unfold ptC
  rw [if_neg (by omega)]
  congr 1
  omega

theorem GOk.part {P : List Ln} {G : Gr} (h : GOk P G) {w : ByteArray} (hk : hasTok G.toks w = true ∨ hasNam G.names w = true) :
    PtRep G w (ptC (codeL P w)) ∧ (∀ n, ptC (codeL P w) = .nam n → n < G.names.length) ∧ (∀ t, ptC (codeL P w) = .tok t → t < G.toks.length) := by
  have hc := h.g.code w
  rw [hc]
  cases hM : fIdx G.names w with
  | some k =>
    simp only [ptC_nam]
    refine ⟨?_, fun n hn => ?_, fun t ht => (by cases ht)⟩
    · show idxB G.names w = k
      rw [idxB_eq, hM]
    · injection hn with hn; subst hn; exact fIdx_lt hM
  | none =>
    simp only
    cases hT : fIdx (tokWs G.toks) w with
    | some k =>
      simp only [ptC_tok]
      refine ⟨?_, fun n hn => (by cases hn), fun t ht => ?_⟩
      · show idxB G.names w = -1 ∧ idxB (tokWs G.toks) w = k
        rw [idxB_eq, idxB_eq, hM, hT]; exact ⟨rfl, rfl⟩
      · injection ht with ht; subst ht
        have := fIdx_lt hT
        unfold tokWs at this
        rwa [List.length_map] at this
    | none =>
      exfalso
      rw [fIdx_none] at hM hT
      rw [← hasTok_ws] at hT
      rw [hM, hT] at hk
      simp at hk

theorem numB_val {s : ByteArray} (h : numB s = true) : 1 ≤ valD s.data.toList ∧ valD s.data.toList ≤ 99 := by
  have hz := num_size h
  have hlen : s.data.toList.length = s.size := by simp
  have h2 : costB s.data.toList = true := h
  have h3 : madeB s.data.toList 48 57 2 = true ∧ (s.data.toList.head? == some 48) = false := by
    unfold costB at h2
    simpa using h2
  have h5 := h3.1
  unfold madeB at h5
  simp only [Bool.and_eq_true, decide_eq_true_eq] at h5
  have h6 := h5.2.2
  unfold allIn at h6
  rw [List.all_eq_true] at h6
  generalize s.data.toList = l at h3 h5 h6 hlen
  have h7 : ∀ x ∈ l, 48 ≤ (x.toNat : Int) ∧ (x.toNat : Int) ≤ 57 := fun x hx => by simpa using h6 x hx
  match l, h5.1, h5.2.1 with
  | [a], _, _ =>
    have h8 := h7 a (by simp)
    have h9 : ¬ a = 48 := by simpa using h3.2
    have h10 : ¬ a.toNat = 48 := fun e => h9 (UInt8.toNat_inj.1 e)
    simp [valD]; omega
  | [a, b], _, _ =>
    have h8 := h7 a (by simp)
    have h8b := h7 b (by simp)
    have h9 : ¬ a = 48 := by simpa using h3.2
    have h10 : ¬ a.toNat = 48 := fun e => h9 (UInt8.toNat_inj.1 e)
    simp [valD]; omega
  | a :: b :: c :: l, _, h => simp at h; omega

theorem ngL_nN (P : List Ln) : (ngL P).nN = (namLs P).length := by show (pgL (codeL P) P).length = _; unfold pgL; simp
theorem ngL_nT (P : List Ln) : (ngL P).nT = (tokLs P).length := by show (twsL P).length = _; unfold twsL; simp
theorem GOk.names_len {P : List Ln} {G : Gr} (h : GOk P G) : G.names.length = (namLs P).length := by rw [h.g.names]; simp [G0]
theorem GOk.toks_len {P : List Ln} {G : Gr} (h : GOk P G) : G.toks.length = (tokLs P).length := by rw [h.g.toks]; simp [G0]
theorem ngL_rules (P : List Ln) : (ngL P).rules = (allR P).map fun j => (j.1, j.2.2.map fun w => ptC (codeL P w)) := rulN_all _ _
theorem GOk.rules_eq {P : List Ln} {G : Gr} (h : GOk P G) : G.rules = (allR P).map fun j => (j.2.1, j.2.2) := by
  rw [h.g.rules]
  show [] ++ _ = _
  rw [List.nil_append]
  exact flat_all P fun a r => (a, r)

theorem GOk.knownR {P : List Ln} {G : Gr} (h : GOk P G) {j : Nat × ByteArray × List ByteArray} (hj : j ∈ allR P) : ∀ u ∈ j.2.2, hasTok G.toks u = true ∨ hasNam G.names u = true := by
  obtain ⟨x, hx, _, hr⟩ := mem_allR hj
  exact h.known x (List.mem_of_getElem? hx) j.2.2 hr

theorem GOk.put_at {P : List Ln} {G : Gr} (h : GOk P G) {t : Nat} (ht : t < (tokLs P).length) : ((ngL P).put t : Int) = valD (nth (tokLs P)[t].2.2 2).data.toList ∧ 1 ≤ (ngL P).put t ∧ (ngL P).put t ≤ 99 := by
  have hv := numB_val (h.num _ (List.getElem_mem ht))
  have e : (ngL P).put t = (valD (nth (tokLs P)[t].2.2 2).data.toList).toNat := by
    show (((tokLs P)[t]?.map fun x => valD (nth x.2.2 2).data.toList).getD 0).toNat = _
    rw [List.getElem?_eq_getElem ht]; rfl
  rw [e]
  omega

theorem GOk.drop_at {P : List Ln} {G : Gr} (h : GOk P G) {t : Nat} (ht : t < (tokLs P).length) : ((ngL P).drop t : Int) = valD (nth (tokLs P)[t].2.2 3).data.toList ∧ 1 ≤ (ngL P).drop t ∧ (ngL P).drop t ≤ 99 := by
  have hv := numB_val (h.num3 _ (List.getElem_mem ht))
  have e : (ngL P).drop t = (valD (nth (tokLs P)[t].2.2 3).data.toList).toNat := by
    show (((tokLs P)[t]?.map fun x => valD (nth x.2.2 3).data.toList).getD 0).toNat = _
    rw [List.getElem?_eq_getElem ht]; rfl
  rw [e]
  omega

theorem code_tok {P : List Ln} {G : Gr} (h : GOk P G) {w : ByteArray} (h1 : hasTok G.toks w = true) (h2 : hasNam G.names w = false) : ∃ t : Nat, t < (tokLs P).length ∧ codeL P w = 2 * (t : Int) := by
  have hc := h.g.code w
  rw [fIdx_none.2 h2] at hc
  cases hT : fIdx (tokWs G.toks) w with
  | some k =>
    rw [hT] at hc
    have hk := fIdx_lt hT
    unfold tokWs at hk
    rw [List.length_map, h.toks_len] at hk
    exact ⟨k, hk, hc⟩
  | none => rw [fIdx_none, ← hasTok_ws, h1] at hT; cases hT

theorem swpF_le (f : ByteArray → Int) : ∀ {P : List Ln}, (∀ x ∈ P, x.2.1 = 1 → numB (nth x.2.2 3) = true) → ∀ t u, swpF f P t u ≤ 99
  | [], _, _, _ => Nat.zero_le _
  | x :: P, h, t, u => by
    rw [swpF]
    split
    · rename_i hc
      have := numB_val (h x (List.mem_cons_self ..) hc.1)
      omega
    · exact swpF_le f (fun y hy => h y (List.mem_cons_of_mem _ hy)) t u

theorem GOk.ok {P : List Ln} {G : Gr} (h : GOk P G) : (ngL P).Ok where
  pos := by rw [ngL_nN]; exact h.pos
  lt := fun r hr => by
    rw [ngL_rules] at hr
    obtain ⟨j, hj, rfl⟩ := List.mem_map.1 hr
    obtain ⟨x, hx, _⟩ := mem_allR hj
    rw [ngL_nN]
    exact (List.getElem?_eq_some_iff.1 hx).1
  pn := fun r hr n hn => by
    rw [ngL_rules] at hr
    obtain ⟨j, hj, rfl⟩ := List.mem_map.1 hr
    obtain ⟨w, hw, e⟩ := List.mem_map.1 hn
    rw [ngL_nN, ← h.names_len]
    exact (h.part (h.knownR hj w hw)).2.1 n e
  pt := fun r hr t ht => by
    rw [ngL_rules] at hr
    obtain ⟨j, hj, rfl⟩ := List.mem_map.1 hr
    obtain ⟨w, hw, e⟩ := List.mem_map.1 ht
    rw [ngL_nT, ← h.toks_len]
    exact (h.part (h.knownR hj w hw)).2.2 t e
  put1 := fun t ht => by rw [ngL_nT] at ht; exact (h.put_at ht).2.1
  put2 := fun t ht => by rw [ngL_nT] at ht; exact (h.put_at ht).2.2
  drop1 := fun t ht => by rw [ngL_nT] at ht; exact (h.drop_at ht).2.1
  drop2 := fun t ht => by rw [ngL_nT] at ht; exact (h.drop_at ht).2.2
  swp2 := fun t u => swpF_le _ (fun x hx h1 => (h.swn x hx h1).1) t u
  parts := fun r hr => by
    rw [ngL_rules] at hr
    obtain ⟨j, hj, rfl⟩ := List.mem_map.1 hr
    obtain ⟨x, hx, _, h3⟩ := mem_allR hj
    simp only [List.length_map]
    exact Nat.le_trans (long_le h3) (h.long x (List.mem_of_getElem? hx))

theorem nth_some {l : List ByteArray} {j : Nat} {x : ByteArray} (h : l[j]? = some x) : nth l j = x := by unfold nth; rw [List.getD_eq_getElem?_getD, h]; rfl

theorem rep_of {P : List Ln} {G : Gr} (h : GOk P G) : Rep G (ngL P) where
  ok := h.ok
  nN := by rw [ngL_nN, h.names_len]
  nT := by rw [ngL_nT, h.toks_len]
  len := by rw [ngL_rules, h.rules_eq, List.length_map, List.length_map]
  rule := fun i r q hr hq => by
    rw [h.rules_eq, List.getElem?_map] at hr
    rw [ngL_rules, List.getElem?_map] at hq
    cases hj : (allR P)[i]? with
    | none => rw [hj] at hr; cases hr
    | some j =>
      rw [hj] at hr hq
      simp only [Option.map_some, Option.some.injEq] at hr hq
      subst hr; subst hq
      have hm := List.mem_of_getElem? hj
      obtain ⟨x, hx, h2, h3⟩ := mem_allR hm
      refine ⟨?_, ?_, fun k p hp => ?_⟩
      · have hn : G.names[j.1]? = some j.2.1 := by rw [h.g.names]; simp [G0, hx, h2]
        show idxB G.names j.2.1 = _
        rw [idxB_eq, h.g.once _ _ hn]
      · simp
      · simp only [List.getElem?_map] at hp
        cases hk : j.2.2[k]? with
        | none => rw [hk] at hp; cases hp
        | some u =>
          rw [hk] at hp
          simp only [Option.map_some, Option.some.injEq] at hp
          subst hp
          show PtRep G (nth j.2.2 k) _
          rw [nth_some hk]
          exact (h.part (h.knownR hm u (List.mem_of_getElem? hk))).1
  put := fun t tk ht => by
    rw [h.g.toks] at ht
    simp only [G0, List.nil_append, List.getElem?_map] at ht
    cases hx : (tokLs P)[t]? with
    | none => rw [hx] at ht; cases ht
    | some x =>
      rw [hx] at ht
      simp only [Option.map_some, Option.some.injEq] at ht
      subst ht
      obtain ⟨h1, h2⟩ := List.getElem?_eq_some_iff.1 hx
      rw [(h.put_at h1).1, h2]; rfl
  leN := by rw [ngL_nN]; exact h.nN
  leT := by rw [ngL_nT]; exact h.nT
  leR := by
    have e : ((namLs P).flatMap fun x => rulesL x.2.2).length = (allR P).length := by
      have := congrArg List.length (flat_all P fun _ r => r)
      simpa using this
    rw [ngL_rules, List.length_map, ← e]; exact h.nR
  posR := by
    rw [ngL_rules, List.length_map]
    obtain ⟨x, hx⟩ : ∃ x, (namLs P)[0]? = some x := ⟨_, List.getElem?_eq_getElem h.pos⟩
    refine List.length_pos_of_mem (a := (0, nth x.2.2 1, (pst (x.2.2.drop 3)).2)) ?_
    unfold allR
    rw [List.mem_flatMap]
    refine ⟨(x, 0), List.mem_zipIdx_iff_getElem?.2 hx, List.mem_map.2 ⟨(pst (x.2.2.drop 3)).2, ?_, rfl⟩⟩
    unfold rulesL
    simp

theorem GOk.tws {P : List Ln} {G : Gr} (h : GOk P G) : tokWs G.toks = twsL P := by
  rw [h.g.toks]
  unfold tokWs twsL
  simp [G0, tokT]

end Go.Proofs.YtjjggdcnpndgjaaGreatDoor
