/- For every list of numbers 'darnkeep.Known' returns true and leaves the numbers as they were: the grammar that the numbers make is told by Facts as it was made. Conditions: the package-level variables that the road reads hold what the program's text lays (the card ties them: the table of the lines' shapes, strconv's two errors, Go's own tables). -/
import Derived.Test.YtjjggdcnpndgjaaGreatDoorCards
import Derived.Test.YtjjggdcnpndgjaaGreatDoorTie
import Derived.Test.YtjjggdcnpndgjaaGreatDoorJK7
import Derived.Test.YtjjggdcnpndgjaaGreatDoorJ20
import Derived.Test.YtjjggdcnpndgjaaGreatDoorJK13
import Derived.Test.YtjjggdcnpndgjaaGreatDoorJGlz
import Derived.ChangeMaps5
import Derived.ChangeSlices
import Derived.Carry
import Derived.SizedLaws
import Derived.Lay
import Derived.SevenTiedAt
import Derived.Stop.Joined
import Derived.JoinedCond
import Derived.Deep.DeepHandedRow
namespace Go.Proofs.YtjjggdcnpndgjaaGreatDoor
open Go Go.ChangeShapes Go.WideShapes Go.ChangeAt Go.RowKit
open Go.ChangeMaps (shut_string)

theorem laid : laidOutB Tryz.prog = true := by kernel_rfl

/-- What an argument of ints reads as is what the walks speak of. -/
theorem raw_of {H : Type} {enc : TypeId × Value → H} {W : World} {v : Value} {d : DataW H} {p : List MemPlace} (hv : ∃ a len cap, v = .slice a len cap) (hs : ∀ e s, d = .slice e s → (e.length + s.length) * Tryz.prog.bytesOf 3 ≤ reachBytes) (h : DataW.Trod enc Tryz.prog W 0 (fun _ => true) true 45 v d p) : RawV W v := by
  obtain ⟨a0, len, cap, rfl⟩ := hv
  obtain ⟨fuel, hf⟩ := h
  have hc : Tryz.prog.cellsOf 3 = 1 := by kernel_rfl
  have hb : Tryz.prog.bytesOf 3 = 8 := by kernel_rfl
  rcases open_ints Tryz.underlying45 Tryz.underlying3 hc hf with ⟨hcs, _⟩ | ⟨a, len', cap', zs, hcs, _, hl, _, hz, hx, hcell, hw⟩
  · simp [Value.cells] at hcs
    obtain ⟨rfl, rfl, rfl⟩ := hcs
    exact ⟨none, 0, 0, rfl, Nat.le_refl _, by omega, fun h => by omega⟩
  · simp [Value.cells] at hcs
    obtain ⟨rfl, rfl, rfl⟩ := hcs
    simp only [Prod.mk.injEq] at hx
    obtain ⟨rfl, _⟩ := hx
    have hr := hs _ _ rfl
    have h47 := reachBytes_lt
    simp only [if_true] at hz
    rw [hb] at hr
    simp only [lits, List.length_map, List.length_take, List.length_drop, hz] at hr
    refine ⟨some a, len, cap, rfl, hl, by omega, fun h0 => ?_⟩
    obtain ⟨b, off, spot⟩ := a
    have hspot : spot = none := by simpa [Addr.add] using World.cell?_spot (hcell 0 (by omega))
    subst hspot
    refine ⟨b, off, rfl, ?_, fun j hj => ⟨zs.getD j 0, ?_, ?_⟩⟩
    · exact World.block_lt_of_cell? W _ (hcell 0 (by omega))
    · rw [← add_plain]; exact hcell j (by omega)
    · have hm : zs.getD j 0 ∈ zs := by
        have hj' : j < zs.length := by omega
        simp [List.getD, List.getElem?_eq_getElem hj']
      have := hw _ hm
      simp [Lit.wf, IntKind.min, IntKind.max, show IntKind.i64.signed = true from rfl, show IntKind.i64.bits = 64 from rfl] at this
      unfold I64
      exact this

theorem known_any (v : Value) (w : World) (hG : Glob w) (hT : TabAt 1 Lib.deBruijn32tab w) (hv : RawV w v) :
    Calls Tryz.prog 10 #[v] w fun e w' => e = .returned (.bool true) ∧ Below w.heap.size w w' :=
  known_of v w ((build_any v w hv).mono (by rintro e w' ⟨b, m, he, hg, hm, hb⟩; exact ⟨b, m, hg, he, hm, hb⟩))
    (fun m hm W hb => kfacts_any hm W (hG.below hb hG.size) (TabAt.below hT hb (World.block_lt_of_cell? _ _ (hT 0 (by decide)))))

theorem own : ownKnob Tryz.prog.godebug = none := by kernel_rfl

set_option maxRecDepth 100000 in
theorem known_witness (os : Os) (H : Type) (enc : TypeId × Value → H) :
    ∃ (w : World) (tape : Tape) (i : Input), w.os = os ∧ (w.forCall tape i).Shaped Tryz.prog ∧ i.vars = [] ∧ Input.okWide Tryz.prog (w.forCall tape i) .any w.heap.size 10 i ∧
      (OpenSpec.ofChange Rows.knownSpec).preRow enc Tryz.prog Tryz.f10 Rows.knownRow.domain false Rows.knownRow.laid (w.forCall tape i).memory i.args ∧ ({} : Assume).holds Tryz.prog (lone (Frame.enter Tryz.prog 10 i.args .normal) [] (w.forCall tape i)) := by
  obtain ⟨w, tape, i, h1, h2, h3, h4, ⟨⟨h5, h6⟩, h7⟩, h8⟩ := ChangeSpec.witness_shaped (enc := enc) (C := Tryz.checked) (os := os) (f := 10) (fn := Tryz.f10) (s := Rows.knownSpec) (conds := Rows.knownRow.domain) (apart := false)
    (X := fun w _ => laidMetH Tryz.prog Rows.knownRow.laid w) false (World.laidAll Tryz.prog os Rows.knownRow.laid) #[.slice none 0 0] 8 (World.laidAll_os _ _ _)
      (World.shaped_of_ZipB (by kernel_rfl) (by kernel_rfl)) (by kernel_rfl) (by kernel_rfl) (by kernel_rfl)
      (by rw [MakeChecks.laidMetH_plain _ _ _ (by kernel_rfl)]; exact laidMet_laidAll _ (by kernel_rfl) (by kernel_rfl))
  obtain ⟨ds, gs, before, hw, hc⟩ := h5
  exact ⟨w, tape, i, h1, h2, h3, h4, ⟨⟨OpenSpec.pre_of_parts hw hc (fun k hk => by cases hk), h6⟩, h7⟩, h8⟩

set_option maxRecDepth 100000 in
theorem known_lifted (os : Os) (started : os.Started) (H : Type) (enc : TypeId × Value → H) (F : Stop.Interp) :
    ReturnsInHanded {} Tryz.checked os 10 .any ((OpenSpec.ofChange Rows.knownSpec).preRow enc Tryz.prog Tryz.f10 Rows.knownRow.domain false Rows.knownRow.laid) (((OpenSpec.ofChange Rows.knownSpec).at F).post enc Tryz.prog Tryz.f10 false true false false) := by
  refine returnsInHanded_of_row (C := Tryz.checked) (s := OpenSpec.ofChange Rows.knownSpec) own started (by kernel_rfl) Tryz.func10 (known_witness os H enc) ?_
  intro W base args ds gs before hval0 hW _ _ hwt hL hsh _
  have hval : ∀ (j : Nat) t v, Tryz.f10.params[j]? = some t → args[j]? = some v → Value.okWide Tryz.prog W .any base t v := hval0
  have hW' := hW
  obtain ⟨p, q, hA0, hV0, rfl, _, _⟩ := hW
  have hA : DataW.TrodAll enc Tryz.prog W 0 (fun _ => true) true Tryz.f10.params.toList args.toList ds p := hA0
  rw [Tryz.params10] at hA hval
  obtain ⟨v0, d0, rfl, rfl, h0⟩ := trodAll_one hA
  obtain ⟨rfl, rfl⟩ := trodVars_none hV0
  have h0k := h0
  have hraw : RawV W v0 := raw_of (okWide_slice Tryz.underlying45 (hval 0 45 v0 rfl rfl)) (fun e s h => sized_slice hwt (j := 0) (t := 45) (e := 3) rfl (by rw [h]; rfl) Tryz.underlying45) h0
  have hlt : ∀ x ∈ p, x.block < W.heap.size := fun x hx => by simpa using hW'.lt x (by simpa using hx)
  clear hA0 hV0 hval0
  refine (known_any v0 W (glob_of hL hsh).1 (glob_of hL hsh).2 hraw).mono ?_
  rintro e W' ⟨rfl, hb⟩
  have e1 : ((OpenSpec.ofChange Rows.knownSpec).at F).fn H ([d0] ++ []) = { results := [.lit (.bool true)], args := [d0] } := rfl
  refine ⟨_, rfl, _, _, _, [], p, [], hW', ?_, ?_, ?_, hb.frame _, fun h => by cases h⟩
  · rw [e1]; exact trodAll_mk1 (shut_bool Tryz.underlying4 _)
  · rw [e1]; exact trodAll_mk1 (Below.trod laid (by kernel_rfl) (of_decide_eq_true (by kernel_rfl)) h0k hb hlt)
  · rw [e1]; rfl

theorem known_named : Tryz.pinned.checked.prog.funcNamed Rows.knownRow.func = some 10 := by kernel_rfl
theorem known_joined : joinedFacts Tryz.pinned.checked.prog 10 Tryz.f10 (OpenSpec.ofChange Rows.knownSpec).bare Rows.knownRow = true := by kernel_rfl
theorem known_instance : Func.isInstance Tryz.pinned.checked.prog Tryz.f10 Rows.knownRow.origin Rows.knownRow.targs := of_decide_eq_true (by kernel_rfl)
theorem known_wrapper : Func.isWrapper Tryz.pinned.checked.prog Tryz.f10 Rows.knownRow.wrapper Rows.knownRow.mainSum := by
  unfold Func.isWrapper; first | (rw [if_pos (by decide +kernel)]; kernel_rfl) | (rw [if_neg (by decide +kernel)]; exact ⟨rfl, rfl⟩)

theorem known_said : Rows.KnownSaid :=
  OpenClaim.holds_of_cond 10 Tryz.f10 rfl rfl rfl rfl rfl rfl rfl ⟨rfl, rfl, rfl, rfl, rfl⟩ rfl rfl rfl rfl rfl known_named Tryz.func10 known_joined
    known_instance known_wrapper
    (fun os started H enc _ F0 => by rw [OpenClaim.pre_eq_preRow]; exact known_lifted os started H enc F0)

theorem known_card : Rows.KnownCardSaid :=
  Claim7.holds_tied_plain_at .later [] [.data, .data, .data, .data, .sentinel, .sentinel, .data, .pinned] true Rows.knownCard.stood.harness true known_said (fun _ h => by cases h) (by kernel_rfl) (fun _ h => by cases h) known_row_tie rfl ⟨rfl, rfl⟩ (by kernel_rfl) rfl
    (fun f fn hf hfn => by
      obtain rfl : f = 10 := Option.some.inj ((show Tryz.prog.funcNamed "darn/darnkeep.Known" = some 10 by kernel_rfl).symm.trans hf) |>.symm
      obtain rfl : fn = Tryz.f10 := (Option.some.inj (Tryz.func10.symm.trans hfn)).symm
      exact ⟨by kernel_rfl, fun j t ht => by
        rw [Tryz.params10] at ht
        have hm : t ∈ [45] := by simpa using Array.mem_of_getElem? ht
        have hall : ([45].all fun u => !Tryz.prog.wantsStandIn u) = true := by kernel_rfl
        exact (show Tryz.prog.wantsStandIn t = false by simpa using List.all_eq_true.1 hall t hm)⟩)
    (by kernel_rfl)
#print axioms known_card
end Go.Proofs.YtjjggdcnpndgjaaGreatDoor
