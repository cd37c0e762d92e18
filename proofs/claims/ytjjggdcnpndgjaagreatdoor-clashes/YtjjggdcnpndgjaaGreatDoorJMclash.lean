/- For every text the law 'darnlaw.Clashes' returns true and leaves the text as it was: the pair and the error that the program's Clash tells are such as the document's rules allow. Conditions: the package-level variables that the road reads hold what the program's text lays (the card ties them: the table of the lines' shapes, strconv's two errors, Go's own tables). -/
import Derived.Test.YtjjggdcnpndgjaaGreatDoorCards
import Derived.Test.YtjjggdcnpndgjaaGreatDoorTie
import Derived.Test.YtjjggdcnpndgjaaGreatDoorJPcla
import Derived.Test.YtjjggdcnpndgjaaGreatDoorJGlz
import Derived.ChangeMaps5
import Derived.Lay
import Derived.SevenTiedAt
import Derived.Stop.Joined
import Derived.JoinedCond
import Derived.Deep.DeepHandedRow
namespace Go.Proofs.YtjjggdcnpndgjaaGreatDoor
open Go Go.ChangeShapes Go.WideShapes Go.ChangeAt Go.RowKit
open Go.ChangeMaps (open_string shut_string)

theorem own : ownKnob Tryz.prog.godebug = none := by kernel_rfl

set_option maxRecDepth 100000 in
theorem clashes_witness (os : Os) (H : Type) (enc : TypeId × Value → H) :
    ∃ (w : World) (tape : Tape) (i : Input), w.os = os ∧ (w.forCall tape i).Shaped Tryz.prog ∧ i.vars = [] ∧ Input.okWide Tryz.prog (w.forCall tape i) .any w.heap.size 4 i ∧
      (OpenSpec.ofChange Rows.clashesSpec).preRow enc Tryz.prog Tryz.f4 Rows.clashesRow.domain false Rows.clashesRow.laid (w.forCall tape i).memory i.args ∧ ({} : Assume).holds Tryz.prog (lone (Frame.enter Tryz.prog 4 i.args .normal) [] (w.forCall tape i)) := by
  obtain ⟨w, tape, i, h1, h2, h3, h4, ⟨⟨h5, h6⟩, h7⟩, h8⟩ := ChangeSpec.witness_shaped (enc := enc) (C := Tryz.checked) (os := os) (f := 4) (fn := Tryz.f4) (s := Rows.clashesSpec) (conds := Rows.clashesRow.domain) (apart := false)
    (X := fun w _ => laidMetH Tryz.prog Rows.clashesRow.laid w) false (World.laidAll Tryz.prog os Rows.clashesRow.laid) #[.string ⟨#[]⟩] 8 (World.laidAll_os _ _ _)
      (World.shaped_of_ZipB (by kernel_rfl) (by kernel_rfl)) (by kernel_rfl) (by kernel_rfl) (by kernel_rfl)
      (by rw [MakeChecks.laidMetH_plain _ _ _ (by kernel_rfl)]; exact laidMet_laidAll _ (by kernel_rfl) (by kernel_rfl))
  obtain ⟨ds, gs, before, hw, hc⟩ := h5
  exact ⟨w, tape, i, h1, h2, h3, h4, ⟨⟨OpenSpec.pre_of_parts hw hc (fun k hk => by cases hk), h6⟩, h7⟩, h8⟩

set_option maxRecDepth 100000 in
theorem clashes_lifted (os : Os) (started : os.Started) (H : Type) (enc : TypeId × Value → H) (F : Stop.Interp) :
    ReturnsInHanded {} Tryz.checked os 4 .any ((OpenSpec.ofChange Rows.clashesSpec).preRow enc Tryz.prog Tryz.f4 Rows.clashesRow.domain false Rows.clashesRow.laid) (((OpenSpec.ofChange Rows.clashesSpec).at F).post enc Tryz.prog Tryz.f4 false true false false) := by
  refine returnsInHanded_of_row (C := Tryz.checked) (s := OpenSpec.ofChange Rows.clashesSpec) own started (by kernel_rfl) Tryz.func4 (clashes_witness os H enc) ?_
  intro W base args ds gs before hval0 hW _ _ hwt hL hsh _
  have hval : ∀ (j : Nat) t v, Tryz.f4.params[j]? = some t → args[j]? = some v → Value.okWide Tryz.prog W .any base t v := hval0
  have hW' := hW
  obtain ⟨p, q, hA0, hV0, rfl, _, _⟩ := hW
  have hA : DataW.TrodAll enc Tryz.prog W 0 (fun _ => true) true Tryz.f4.params.toList args.toList ds p := hA0
  rw [Tryz.params4] at hA hval
  obtain ⟨v0, d0, rfl, rfl, h0⟩ := trodAll_one hA
  obtain ⟨rfl, rfl⟩ := trodVars_none hV0
  obtain ⟨s, rfl, rfl, rfl, ws⟩ := open_string Tryz.underlying9 (hval 0 9 v0 rfl rfl) h0
  clear hA0 hV0 hval0
  have hs : s.size ≤ 9223372036854775807 := Nat.le_trans ws (by decide)
  refine (clashes_text s W (glob_of hL hsh).1 (glob_of hL hsh).2 hs).mono ?_
  rintro e W' ⟨rfl, hb⟩
  have e1 : ((OpenSpec.ofChange Rows.clashesSpec).at F).fn H ([.lit (.string s.data.toList)] ++ []) = { results := [.lit (.bool true)], args := [.lit (.string s.data.toList)] } := rfl
  refine ⟨_, rfl, _, _, _, [], [], [], hW', ?_, ?_, ?_, hb.frame _, fun h => by cases h⟩
  · rw [e1]; exact trodAll_mk1 (shut_bool Tryz.underlying4 _)
  · rw [e1]; exact trodAll_mk1 (shut_string Tryz.underlying9 ws)
  · rw [e1]; rfl

theorem clashes_named : Tryz.pinned.checked.prog.funcNamed Rows.clashesRow.func = some 4 := by kernel_rfl
theorem clashes_joined : joinedFacts Tryz.pinned.checked.prog 4 Tryz.f4 (OpenSpec.ofChange Rows.clashesSpec).bare Rows.clashesRow = true := by kernel_rfl
theorem clashes_instance : Func.isInstance Tryz.pinned.checked.prog Tryz.f4 Rows.clashesRow.origin Rows.clashesRow.targs := of_decide_eq_true (by kernel_rfl)
theorem clashes_wrapper : Func.isWrapper Tryz.pinned.checked.prog Tryz.f4 Rows.clashesRow.wrapper Rows.clashesRow.mainSum := by
  unfold Func.isWrapper; first | (rw [if_pos (by decide +kernel)]; kernel_rfl) | (rw [if_neg (by decide +kernel)]; exact ⟨rfl, rfl⟩)

theorem clashes_said : Rows.ClashesSaid :=
  OpenClaim.holds_of_cond 4 Tryz.f4 rfl rfl rfl rfl rfl rfl rfl ⟨rfl, rfl, rfl, rfl, rfl⟩ rfl rfl rfl rfl rfl clashes_named Tryz.func4 clashes_joined
    clashes_instance clashes_wrapper
    (fun os started H enc _ F0 => by rw [OpenClaim.pre_eq_preRow]; exact clashes_lifted os started H enc F0)

theorem clashes_card : Rows.ClashesCardSaid :=
  Claim7.holds_tied_plain_at .later [] [.data, .data, .data, .data, .sentinel, .sentinel, .data, .pinned] true Rows.clashesCard.stood.harness true clashes_said (fun _ h => by cases h) (by kernel_rfl) (fun _ h => by cases h) clashes_row_tie rfl ⟨rfl, rfl⟩ (by kernel_rfl) rfl
    (fun f fn hf hfn => by
      obtain rfl : f = 4 := Option.some.inj ((show Tryz.prog.funcNamed "darn/darnlaw.Clashes" = some 4 by kernel_rfl).symm.trans hf) |>.symm
      obtain rfl : fn = Tryz.f4 := (Option.some.inj (Tryz.func4.symm.trans hfn)).symm
      exact ⟨by kernel_rfl, fun j t ht => by
        rw [Tryz.params4] at ht
        have hm : t ∈ [9] := by simpa using Array.mem_of_getElem? ht
        have hall : ([9].all fun u => !Tryz.prog.wantsStandIn u) = true := by kernel_rfl
        exact (show Tryz.prog.wantsStandIn t = false by simpa using List.all_eq_true.1 hall t hm)⟩)
    (by kernel_rfl)
#print axioms clashes_card
end Go.Proofs.YtjjggdcnpndgjaaGreatDoor
