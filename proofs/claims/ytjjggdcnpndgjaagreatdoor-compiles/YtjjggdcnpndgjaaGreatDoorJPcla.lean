/- What table.Read tells of any text; darnlaw.Clashes and Compiles, for every text. -/
import Derived.Test.YtjjggdcnpndgjaaGreatDoorJPtab
import Derived.Test.YtjjggdcnpndgjaaGreatDoorJ17
import Derived.Test.YtjjggdcnpndgjaaGreatDoorJ13
import Derived.Test.YtjjggdcnpndgjaaGreatDoorJPclash
import Derived.Test.YtjjggdcnpndgjaaGreatDoorJWlaw2
import Derived.Test.YtjjggdcnpndgjaaGreatDoorJWunmade
import Derived.Test.YtjjggdcnpndgjaaGreatDoorJCl2
namespace Go.Proofs.YtjjggdcnpndgjaaGreatDoor
open Go.RowKit Go.Shelf

/-- The lines of a text, its numbered grammar, its tokens' words, its names. -/
abbrev PT (s : ByteArray) : List Ln := progL (scanA s 0).1
abbrev NT (s : ByteArray) : NG := ngL (PT s)
abbrev WT (s : ByteArray) : List ByteArray := twsL (PT s)
abbrev GT (s : ByteArray) : List Nm := pgL (codeL (PT s)) (PT s)
abbrev wst2 (s : ByteArray) : ByteArray × Int := wasteB (readB s).2.2 (NT s)

theorem gt_parts {s : ByteArray} (he : (readB s).1 = 0) (n : Nat) (nm : Nm) (r : Nat) (ps : List Pt) (hn : (GT s)[n]? = some nm) (hr : nm.2[r]? = some ps) : ps.length ≤ 8 ∧ PsOk (NT s) ps := by
  have hg := gok_of s he
  have hR := rep_of hg
  refine ⟨?_, ?_⟩
  · unfold GT pgL at hn
    rw [List.getElem?_map] at hn
    cases hx : (namLs (PT s))[n]? with
    | none => rw [hx] at hn; cases hn
    | some x =>
      rw [hx] at hn
      injection hn with hn
      subst hn
      unfold nmOf at hr
      rw [List.getElem?_map] at hr
      cases hy : (rulesL x.2.2)[r]? with
      | none => rw [hy] at hr; cases hr
      | some y =>
        rw [hy] at hr
        injection hr with hr
        subst hr
        rw [List.length_map]
        exact Nat.le_trans (long_le (List.mem_of_getElem? hy)) (hg.long x (List.mem_of_getElem? hx))
  · have h1 : (n, ps) ∈ (NT s).rules := by
      show (n, ps) ∈ rulN (GT s)
      rw [rulN_flat]
      have h2 := flatZ_at ((GT s).map (·.2)) 0 n r nm.2 ps (by rw [List.getElem?_map, hn]; rfl) hr
      rw [Nat.zero_add] at h2
      exact List.mem_of_getElem? h2
    exact hR.ok.ps h1

theorem tread_wrong (s : ByteArray) (w : World) (hG : Glob w) (hs : s.size ≤ 9223372036854775807) (he : (readB s).1 ≠ 0) :
    Calls Tryz.prog 49 #[.string s] w fun e w' => e = .returned (.tuple #[.pointer none, .agg #[.string ByteArray.empty, .int .i64 0, .int .i64 0, .string ByteArray.empty], .int .i64 (readB s).1]) ∧ Below w.heap.size w w' := by
  have hp : (progB s).1 = (readB s).1 := by rw [prog_same]
  exact tread_err s w _ _ he (fun W hb => fread_err s W _ he (fun W' hb' => by
    have hG' : Glob W' := (hG.below hb hG.size).below hb' (hG.below hb hG.size).size
    have h := sread_err s W' hG' hs (lines_ok s) (by rw [hp]; exact he)
    rw [hp] at h
    exact h))

theorem fread_text (s : ByteArray) (w : World) (hG : Glob w) (hs : s.size ≤ 9223372036854775807) (he : (readB s).1 = 0) :
    Calls Tryz.prog 68 #[.string s] w fun e w' => FEnd (NT s) (WT s) (GT s) w e w' :=
  fread_ok s w _ _ _ (fun W hb => sread_any s W (hG.below hb hG.size) hs he)

theorem tread_waste (s : ByteArray) (w : World) (hG : Glob w) (hs : s.size ≤ 9223372036854775807) (he : (readB s).1 = 0) (hz : (wst2 s).2 ≠ 0) :
    Calls Tryz.prog 49 #[.string s] w fun e w' => e = .returned (.tuple #[.pointer none, .agg #[.string (wst2 s).1, .int .i64 0, .int .i64 0, .string ByteArray.empty], .int .i64 (wst2 s).2]) ∧ Below w.heap.size w w' := by
  have hg := gok_of s he
  have hR := rep_of hg
  refine tread_err s w _ _ hz (fun W hb => (fread_text s W (hG.below hb hG.size) hs he).mono ?_)
  rintro e w' ⟨hb', k1, k2, hf, h⟩
  have hsame := fault_same hR.ok hf (nmW_names hg)
  rw [hsame] at h
  rcases h with ⟨_, h⟩ | ⟨h, _⟩
  · exact ⟨h, hb'⟩
  · exact absurd h hz

/-- A grammar without waste: a clash of the first name that has any, or the table. -/
theorem tread_text (s : ByteArray) (w : World) (hG : Glob w) (hT : TabAt 1 Lib.deBruijn32tab w) (hs : s.size ≤ 9223372036854775807) (he : (readB s).1 = 0) (hz : (wst2 s).2 = 0) :
    Calls Tryz.prog 49 #[.string s] w fun e w' => Below w.heap.size w w' ∧
      ((∃ (n q r t : Nat) (nm : Nm), e = .returned (.tuple #[.pointer none, .agg #[.string nm.1, .int .i64 q, .int .i64 r, .string (wordT (WT s) (NT s).nT t)], .int .i64 9]) ∧ (GT s)[n]? = some nm ∧ ClAt (NT s) ((GT s).map (·.2)) n q r t) ∨
        (∃ tb k4, e = .returned (.tuple #[.pointer (some ⟨tb, 0, none⟩), .agg #[.string ByteArray.empty, .int .i64 0, .int .i64 0, .string ByteArray.empty], .int .i64 0]) ∧ (∃ k1 k2 k3, Done (NT s) k1 k2 k3 k4) ∧ TabOk (NT s) (WT s) (GT s) k4 w' tb ∧ ∀ n, n < ((GT s).map (·.2)).length → NoCl (NT s) ((GT s).map (·.2)) n)) := by
  have hg := gok_of s he
  have hR := rep_of hg
  have key : ∀ {k1 k2 k3 k4 : List Fa}, Done (NT s) k1 k2 k3 k4 → ∀ {n r : Nat} {nm : Nm} {ps : List Pt} {t : Nat}, (GT s)[n]? = some nm → nm.2[r]? = some ps → (spkP k4 (GT s) n r).testBit t = spkN (NT s) n ps t := by
    intro k1 k2 k3 k4 hD n r nm ps t hn hr
    rw [spkP_at _ hn hr]
    exact spk_same (hD.em hR.ok) (hD.first hR.ok) (hD.follow hR.ok hR.leT) _ _ _
  have none_of : ∀ {k1 k2 k3 k4 : List Fa}, Done (NT s) k1 k2 k3 k4 → ∀ {R : Nat → Nat → Int} {m : Nat}, (∀ nm' : Nm, (GT s)[m]? = some nm' → ∀ t, t < 21 → RowI (spkP k4 (GT s) m) nm'.2.length (R m) t) → NoCl (NT s) ((GT s).map (·.2)) m := by
    intro k1 k2 k3 k4 hD R m hrow rs r0 r p0 p t h1 h2 h3 h4 h5
    rw [List.getElem?_map] at h1
    cases hm : (GT s)[m]? with
    | none => rw [hm] at h1; cases h1
    | some nm' =>
      rw [hm] at h1
      injection h1 with h1
      subst h1
      have ht : t < 21 := by have h9 : (NT s).nT ≤ 20 := hR.leT; omega
      have h6 := row_none (hrow nm' hm t ht) h2 (List.getElem?_eq_some_iff.1 h4).1
      rwa [key hD hm h3, key hD hm h4] at h6
  refine (tread_ok s w (NT s) (WT s) (GT s) hT hR.ok (fun k2 k3 k4 => ∃ k1, Done (NT s) k1 k2 k3 k4) (gt_parts he) (fun W hb => (fread_text s W (hG.below hb hG.size) hs he).mono ?_)).mono ?_
  · rintro e w' ⟨hb', k1, k2, hf, h⟩
    have hsame := fault_same hR.ok hf (nmW_names hg)
    rcases h with ⟨h, _⟩ | ⟨_, k3, k4, n₀, kb, adT, capT, gN, capN, h3, s3, h4, s4, h5, h6, h7, h8, h9⟩
    · rw [hsame] at h; exact absurd hz h
    · exact ⟨hb', k2, k3, k4, n₀, kb, adT, capT, gN, capN, ⟨k1, hf, h3, s3, h4, s4⟩, h3, h4, h5, h6, h9, h7, h8⟩
  · rintro e w' ⟨hb', k2, k3, k4, ⟨k1, hD⟩, ⟨n, q, r, t, nm, h1, h2, h3, h4, h5, h6, h7, R, h8⟩ | ⟨tb, h1, h2⟩⟩
    · refine ⟨hb', .inl ⟨n, q, r, t, nm, h1, h2, ⟨?_, fun m hm => none_of hD (h8 m hm)⟩⟩⟩
      obtain ⟨p0, hp0⟩ : ∃ p0, nm.2[q]? = some p0 := ⟨_, List.getElem?_eq_getElem (by omega)⟩
      obtain ⟨p, hp⟩ : ∃ p, nm.2[r]? = some p := ⟨_, List.getElem?_eq_getElem h4⟩
      exact ⟨nm.2, p0, p, by rw [List.getElem?_map, h2]; rfl, h3, hp0, hp, h5, by rw [← key hD h2 hp0]; exact h6, by rw [← key hD h2 hp]; exact h7⟩
    · obtain ⟨n₀, kb, adT, capT, gN, capN, R, E, _, _, _, _, _, h3⟩ := h2.ex
      exact ⟨hb', .inr ⟨tb, k4, h1, ⟨k1, k2, k3, hD⟩, h2, fun n _ => none_of hD (h3 n)⟩⟩

theorem nm_idx {s : ByteArray} (he : (readB s).1 = 0) {n : Nat} {nm : Nm} (hn : (GT s)[n]? = some nm) : idxB (readB s).2.2.names nm.1 = n := by
  have hg := gok_of s he
  have hl : n < (NT s).nN := (List.getElem?_eq_some_iff.1 hn).1
  have h1 := nmW_names hg n hl
  unfold nmW at h1
  rw [Int.toNat_natCast, List.getD_eq_getElem?_getD, hn] at h1
  simp only [Option.getD_some] at h1
  have hl2 : n < (readB s).2.2.names.length := by rw [hg.names_len]; rw [ngL_nN] at hl; exact hl
  have h2 := hg.g.once n _ (List.getElem?_eq_getElem hl2)
  rw [idxB_eq, h1]
  unfold nth
  rw [List.getD_eq_getElem?_getD, List.getElem?_eq_getElem hl2]
  simp only [Option.getD_some]
  rw [h2]

theorem word_tok {s : ByteArray} (he : (readB s).1 = 0) {t : Nat} (ht : t ≤ (NT s).nT) : wordT (WT s) (NT s).nT t = tokE (readB s).2.2 (NT s) t := by
  have hg := gok_of s he
  unfold wordT tokE
  by_cases e : t = (NT s).nT
  · rw [if_pos e, if_neg (by omega)]
  · rw [if_neg e, if_pos (by omega), tokW_nth, hg.tws]

theorem wanted_any (s : ByteArray) (W : World) (hs : s.size ≤ 9223372036854775807) (he : (readB s).1 = 0) (hz : (wst2 s).2 = 0) {Q : Ending → World → World → Prop} (pn pt : ByteArray) (pr po : Int)
    (hQ : ∀ w' gb, GrAt w' W.heap.size gb (readB s).2.2 → Calls Tryz.prog 50 #[.pointer (some ⟨gb, 0, none⟩), .agg #[.string pn, .int .i64 pr, .int .i64 po, .string pt]] w' fun e w'' => Q e w' w'') :
    Calls Tryz.prog 46 #[.string s] W fun e w' => ∃ gb nm, e = .returned (.tuple #[.pointer (some ⟨gb, 0, none⟩), .string nm, .int .i64 0]) ∧ Below W.heap.size W w' ∧
      Calls Tryz.prog 50 #[.pointer (some ⟨gb, 0, none⟩), .agg #[.string pn, .int .i64 pr, .int .i64 po, .string pt]] w' fun e w'' => Q e w' w'' := by
  refine (wanted_ok s W hs he _ (rep_of (gok_of s he))).mono ?_
  rintro e w' ⟨gb, rfl, hgr, hb'⟩
  exact ⟨gb, (wst2 s).1, by show Ending.returned (Value.tuple #[_, _, .int .i64 (wst2 s).2]) = _; rw [hz], hb', hQ w' gb hgr⟩

/-- darnlaw.Clashes, for every text. -/
theorem clashes_text (s : ByteArray) (w : World) (hG : Glob w) (hT : TabAt 1 Lib.deBruijn32tab w) (hs : s.size ≤ 9223372036854775807) :
    Calls Tryz.prog 4 #[.string s] w fun e w' => e = .returned (.bool true) ∧ Below w.heap.size w w' := by
  have htl : 1 < w.heap.size := World.block_lt_of_cell? _ _ (hT 0 (by decide))
  refine clashes_of s w ?_
  by_cases he : (readB s).1 = 0
  · have hg := gok_of s he
    have hR := rep_of hg
    by_cases hz : (wst2 s).2 = 0
    · refine (clash_over s w (fun _ pn pr po pt err => (∃ (n q r t : Nat) (nm : Nm), pn = nm.1 ∧ pr = (q : Int) ∧ po = (r : Int) ∧ pt = wordT (WT s) (NT s).nT t ∧ err = 9 ∧ (GT s)[n]? = some nm ∧ ClAt (NT s) ((GT s).map (·.2)) n q r t) ∨ (pn = ByteArray.empty ∧ pr = 0 ∧ po = 0 ∧ pt = ByteArray.empty ∧ err = 0 ∧ ∀ n, n < ((GT s).map (·.2)).length → NoCl (NT s) ((GT s).map (·.2)) n)) (fun W hb => (tread_text s W (hG.below hb hG.size) (TabAt.below hT hb htl) hs he hz).mono ?_)).mono ?_
      · rintro e w' ⟨hb', ⟨n, q, r, t, nm, rfl, h1, h2⟩ | ⟨tb, k4, rfl, _, _, h2⟩⟩
        · exact ⟨none, _, _, _, _, _, rfl, .inl ⟨n, q, r, t, nm, rfl, rfl, rfl, rfl, rfl, h1, h2⟩, hb'⟩
        · exact ⟨_, _, _, _, _, _, rfl, .inr ⟨rfl, rfl, rfl, rfl, rfl, h2⟩, hb'⟩
      · rintro e w' ⟨p, pn, pr, po, pt, err, rfl, hH, hb'⟩
        refine ⟨pn, pt, pr, po, err, rfl, hb', fun W hbW => ?_⟩
        rcases hH with ⟨n, q, r, t, nm, rfl, rfl, rfl, rfl, rfl, h1, h2⟩ | ⟨rfl, rfl, rfl, rfl, rfl, h2⟩
        · refine (clashed_hit s W nm.1 _ _ _ (fun W' hb2 => wanted_any s W' hs he hz (Q := fun e w' w'' => e = .returned (.tuple #[.bool true, .bool false]) ∧ Below w'.heap.size w' w'') _ _ _ _ fun w' gb hgr => (clashes_any _ _ hR hg.g.once w' _ gb hgr _ _ _ _).mono ?_)).mono ?_
          · rintro e w'' ⟨a, b, rfl, ha, hb, hbl⟩
            obtain ⟨hit, hno⟩ := clash_hit hR.ok (rulN_flat _) h2 (nm_idx he h1)
            have ht : t ≤ (NT s).nT := by obtain ⟨_, _, _, _, _, _, _, h, _⟩ := h2.ex; exact h
            rw [← word_tok he ht] at hit
            have e1 : a = true := ha.2 hit
            have e2 : b = false := by cases b with | false => rfl | true => exact absurd (hb.1 rfl) hno
            subst e1; subst e2
            exact ⟨rfl, hbl⟩
          · rintro e w'' ⟨rfl, hbl⟩
            exact ⟨9, rfl, hbl⟩
        · refine (clashed_none s W (fun W' hb2 => wanted_any s W' hs he hz (Q := fun e w' w'' => ∃ a, e = .returned (.tuple #[.bool a, .bool false]) ∧ Below w'.heap.size w' w'') _ _ _ _ fun w' gb hgr => (clashes_any _ _ hR hg.g.once w' _ gb hgr _ _ _ _).mono ?_)).mono ?_
          · rintro e w'' ⟨a, b, rfl, ha, hb, hbl⟩
            have e2 : b = false := by
              cases b with
              | false => rfl
              | true =>
                obtain ⟨x, y, z, hc, _⟩ := hb.1 rfl
                exact absurd hc (no_clash hR.ok (rulN_flat _) h2 x y z)
            subst e2
            exact ⟨a, rfl, hbl⟩
          · rintro e w'' ⟨rfl, hbl⟩
            exact ⟨0, rfl, hbl⟩
    · refine (clash_over s w (fun _ pn pr po pt err => pn = (wst2 s).1 ∧ pr = 0 ∧ po = 0 ∧ pt = ByteArray.empty ∧ err = (wst2 s).2) (fun W hb => (tread_waste s W (hG.below hb hG.size) hs he hz).mono ?_)).mono ?_
      · rintro e w' ⟨rfl, hb'⟩
        exact ⟨none, _, _, _, _, _, rfl, ⟨rfl, rfl, rfl, rfl, rfl⟩, hb'⟩
      · rintro e w' ⟨p, pn, pr, po, pt, err, rfl, ⟨rfl, rfl, rfl, rfl, rfl⟩, hb'⟩
        refine ⟨_, _, _, _, _, rfl, hb', fun W hbW => (clashed_bad s W _ _ hz (fun W' hb2 => (wanted_ok s W' hs he _ hR).mono ?_)).mono ?_⟩
        · rintro e w'' ⟨gb, rfl, _, hbl⟩
          exact ⟨_, rfl, hbl⟩
        · rintro e w'' ⟨rfl, hbl⟩
          exact ⟨_, rfl, hbl⟩
  · refine (clash_over s w (fun _ pn pr po pt err => pn = ByteArray.empty ∧ pr = 0 ∧ po = 0 ∧ pt = ByteArray.empty ∧ err = (readB s).1) (fun W hb => (tread_wrong s W (hG.below hb hG.size) hs he).mono ?_)).mono ?_
    · rintro e w' ⟨rfl, hb'⟩
      exact ⟨none, _, _, _, _, _, rfl, ⟨rfl, rfl, rfl, rfl, rfl⟩, hb'⟩
    · rintro e w' ⟨p, pn, pr, po, pt, err, rfl, ⟨rfl, rfl, rfl, rfl, rfl⟩, hb'⟩
      refine ⟨_, _, _, _, _, rfl, hb', fun W hbW => (clashed_bad s W _ _ he (fun W' hb2 => (wanted_bad s W' hs he).mono ?_)).mono ?_⟩
      · rintro e w'' ⟨q, h1, hbl⟩
        exact ⟨q, h1, hbl⟩
      · rintro e w'' ⟨rfl, hbl⟩
        exact ⟨_, rfl, hbl⟩

theorem names_upp (s : ByteArray) : ∀ x ∈ namLs (PT s), nameB (nth x.2.2 1) = true := by
  intro y hy
  unfold namLs at hy
  obtain ⟨hy, h2⟩ := List.mem_filter.1 hy
  unfold PT progL at hy
  rw [List.mem_map] at hy
  obtain ⟨x, hx, rfl⟩ := hy
  rw [List.mem_filter] at hx
  have h1 := scan_mem s _ _ x hx.1
  have h3 : shapeOf x.2 = 2 := by simpa using h2
  rcases line_shape h1.2 (of_decide_eq_true hx.2) with h | h | h
  · omega
  · omega
  · exact h.2.2.1

theorem idx_empty {s : ByteArray} (he : (readB s).1 = 0) : idxB (readB s).2.2.names ByteArray.empty < 0 := by
  have hg := gok_of s he
  have h0 : hasNam (readB s).2.2.names ByteArray.empty = false := by
    unfold hasNam
    rw [hg.g.names, List.any_eq_false]
    intro t ht
    have ht : t ∈ (namLs (PT s)).map fun x => nth x.2.2 1 := by simpa [G0] using ht
    obtain ⟨x, hx, rfl⟩ := List.mem_map.1 ht
    have h1 := names_upp s x hx
    unfold nameB madeB at h1
    simp only [Bool.and_eq_true, decide_eq_true_eq] at h1
    have h2 : (nth x.2.2 1).toList ≠ [] := fun e => by
      have h3 : (nth x.2.2 1).data.toList = [] := by rw [← e]; exact (ByteArray.toList_eq _).symm
      rw [h3] at h1
      have := h1.1
      simp at this
    simpa using h2
  rw [idxB_eq, fIdx_none.2 h0]
  decide

set_option maxHeartbeats 1000000 in
set_option maxRecDepth 100000 in
theorem compiles_of (s : ByteArray) (w : World) (hB : Calls Tryz.prog 18 #[.string s] w fun e w' => ∃ v1 v2, e = .returned (.tuple #[.pointer v1, .pointer v2, .bool true]) ∧ Below w.heap.size w w') :
    Calls Tryz.prog 5 #[.string s] w fun e w' => e = .returned (.bool true) ∧ Below w.heap.size w w' := by
  have HB : Hid _ := hid hB
  clear hB
  go_enter Tryz.func5, Tryz.ntmps5
  go_wp2_with (first
    | (go_at_call 18; refine HB.out.mono ?_; rintro e w1 ⟨v1, v2, rfl, hb1⟩; have HB1 : Hid _ := hid hb1; clear hb1 HB)
    | (go_at_call 19; refine (unmade_any _).mono ?_; rintro e w2 ⟨rfl, hb2⟩; have HB2 : Hid _ := hid hb2; clear hb2))
  go_ret
  exact ⟨rfl, HB1.out.trans (HB2.out.mono HB1.out.size)⟩

/-- darnlaw.Compiles, for every text. -/
theorem compiles_text (s : ByteArray) (w : World) (hG : Glob w) (hT : TabAt 1 Lib.deBruijn32tab w) (hs : s.size ≤ 9223372036854775807) :
    Calls Tryz.prog 5 #[.string s] w fun e w' => e = .returned (.bool true) ∧ Below w.heap.size w w' := by
  have htl : 1 < w.heap.size := World.block_lt_of_cell? _ _ (hT 0 (by decide))
  refine compiles_of s w ?_
  by_cases he : (readB s).1 = 0
  · have hg := gok_of s he
    have hR := rep_of hg
    by_cases hz : (wst2 s).2 = 0
    · by_cases hcl : ∃ x y z, Clash3 (NT s) x y z
      · refine (begun_clash s w (compile_bad s w 9 (by decide) ((tread_text s w hG hT hs he hz).mono ?_)) (fun W hb2 => wanted_any s W hs he hz (Q := fun e w' w'' => ∃ a, e = .returned (.tuple #[.bool a, .bool true]) ∧ Below w'.heap.size w' w'') _ _ _ _ fun w' gb hgr => (clashes_any _ _ hR hg.g.once w' _ gb hgr _ _ _ _).mono ?_)).mono ?_
        · rintro e w' ⟨hb', ⟨n, q, r, t, nm, rfl, h1, h2⟩ | ⟨tb, k4, rfl, _, _, h2⟩⟩
          · exact ⟨none, _, _, _, _, rfl, hb'⟩
          · obtain ⟨x, y, z, hc⟩ := hcl
            exact absurd hc (no_clash hR.ok (rulN_flat _) h2 x y z)
        · rintro e w'' ⟨a, b, rfl, ha, hb, hbl⟩
          have hneg : idxB (readB s).2.2.names ByteArray.empty < 0 := idx_empty he
          have e2 : b = true := by
            obtain ⟨x, y, z, hc⟩ := hcl
            exact hb.2 ⟨x, y, z, hc, .inl hneg⟩
          subst e2
          exact ⟨a, rfl, hbl⟩
        · rintro e w'' ⟨p, rfl, hbl⟩
          exact ⟨none, p, rfl, hbl⟩
      · refine (begun_ok s w (fun _ _ => True) (fun _ _ _ _ _ => trivial) ((compile_ok s w (fun _ _ => True) (fun _ _ _ _ _ => trivial) ((tread_text s w hG hT hs he hz).mono ?_)).mono ?_) (fun W hb2 => wanted_any s W hs he hz (Q := fun e w' w'' => ∃ a, e = .returned (.tuple #[.bool a, .bool false]) ∧ Below w'.heap.size w' w'') _ _ _ _ fun w' gb hgr => (clashes_any _ _ hR hg.g.once w' _ gb hgr _ _ _ _).mono ?_)).mono ?_
        · rintro e w' ⟨hb', ⟨n, q, r, t, nm, rfl, h1, h2⟩ | ⟨tb, k4, rfl, _, _, h2⟩⟩
          · obtain ⟨⟨x, y, z, hc, _⟩, _⟩ := clash_hit hR.ok (rulN_flat _) h2 (nm_idx he h1)
            exact absurd ⟨x, y, z, hc⟩ hcl
          · exact ⟨tb, _, _, _, _, rfl, trivial, hb'⟩
        · rintro e w' ⟨gp, rfl, _, hb'⟩
          exact ⟨gp, rfl, trivial, hb'⟩
        · rintro e w'' ⟨a, b, rfl, ha, hb, hbl⟩
          have e2 : b = false := by
            cases b with
            | false => rfl
            | true =>
              obtain ⟨x, y, z, hc, _⟩ := hb.1 rfl
              exact absurd ⟨x, y, z, hc⟩ hcl
          subst e2
          exact ⟨a, rfl, hbl⟩
        · rintro e w'' ⟨gp, gb, rfl, _, hbl⟩
          exact ⟨_, _, rfl, hbl⟩
    · refine (begun_bad s w (wst2 s).1 _ hz (compile_bad s w _ hz ((tread_waste s w hG hs he hz).mono ?_)) (fun W hb2 => (wanted_ok s W hs he _ hR).mono ?_)).mono ?_
      · rintro e w' ⟨rfl, hb'⟩
        exact ⟨none, _, _, _, _, rfl, hb'⟩
      · rintro e w'' ⟨gb, rfl, _, hbl⟩
        exact ⟨_, rfl, hbl⟩
      · rintro e w'' ⟨p, rfl, hbl⟩
        exact ⟨none, p, rfl, hbl⟩
  · refine (begun_bad s w ByteArray.empty _ he (compile_bad s w _ he ((tread_wrong s w hG hs he).mono ?_)) (fun W hb2 => (wanted_bad s W hs he).mono ?_)).mono ?_
    · rintro e w' ⟨rfl, hb'⟩
      exact ⟨none, _, _, _, _, rfl, hb'⟩
    · rintro e w'' ⟨q, h1, hbl⟩
      exact ⟨q, h1, hbl⟩
    · rintro e w'' ⟨p, rfl, hbl⟩
      exact ⟨none, p, rfl, hbl⟩

end Go.Proofs.YtjjggdcnpndgjaaGreatDoor
