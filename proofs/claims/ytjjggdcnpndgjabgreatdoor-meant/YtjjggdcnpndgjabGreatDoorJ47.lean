/- For every two lists of numbers 'darnkeep.Meant' returns true and leaves the numbers as they were: what Mend tells to be expected at an edit are the tokens with which Read goes on there, among them the edit's own new token. Conditions: the package-level variables that the road reads hold what the program's text lays (the card ties them: the table of the lines' shapes, strconv's two errors, Go's own tables). -/
import Derived.Test.YtjjggdcnpndgjabGreatDoorCards
import Derived.Test.YtjjggdcnpndgjabGreatDoorTie
import Derived.Test.YtjjggdcnpndgjabGreatDoorJ46
set_option linter.unusedSimpArgs false
set_option maxRecDepth 100000
namespace Go.Proofs.YtjjggdcnpndgjabGreatDoor
open Go Go.ChangeShapes Go.WideShapes Go.ChangeAt Go.RowKit
open Go.ChangeMaps (shut_string)
theorem Z0 (os:Os) (H:Type) (enc:TypeId × Value->H):
  ∃(w:World) (tape:Tape) (i:Input),w.os=os/\(w.forCall tape i).Shaped Tryz.prog/\i.vars=[]/\Input.okWide Tryz.prog (w.forCall tape i) .any w.heap.size 3 i/\
   (OpenSpec.ofChange Rows.meantSpec).preRow enc Tryz.prog Tryz.f3 Rows.meantRow.domain false Rows.meantRow.laid (w.forCall tape i).memory i.args/\({}:Assume).holds Tryz.prog (lone (Frame.enter Tryz.prog 3 i.args .normal) [] (w.forCall tape i)):=by
 obtain⟨w,tape,i,h1,h2,h3,h4,⟨⟨h5,h6⟩,h7⟩,h8⟩:=ChangeSpec.witness_shaped (enc:=enc) (C:=Tryz.checked) (os:=os) (f:=3) (fn:=Tryz.f3) (s:=Rows.meantSpec) (conds:=Rows.meantRow.domain) (apart:=false)
  (X:=fun w _=>laidMetH Tryz.prog Rows.meantRow.laid w) false (World.laidAll Tryz.prog os Rows.meantRow.laid) #[.slice none 0 0,.slice none 0 0] 8 (World.laidAll_os _ _ _)
   (World.shaped_of_ZipB y1Z y1Z) y1Z y1Z y1Z
   (by rw[MakeChecks.laidMetH_plain _ _ _ y1Z];exact laidMet_laidAll _ y1Z y1Z)
 obtain⟨ds,gs,before,hw,hc⟩:=h5;exact⟨w,tape,i,h1,h2,h3,h4,⟨⟨OpenSpec.pre_of_parts hw hc (fun k hk=>by cases hk),h6⟩,h7⟩,h8⟩
theorem aB (os:Os) (started:os.Started) (H:Type) (enc:TypeId × Value->H) (F:Stop.Interp):
  ReturnsInHanded {} Tryz.checked os 3 .any ((OpenSpec.ofChange Rows.meantSpec).preRow enc Tryz.prog Tryz.f3 Rows.meantRow.domain false Rows.meantRow.laid) (((OpenSpec.ofChange Rows.meantSpec).at F).post enc Tryz.prog Tryz.f3 false true false false):=by
 refine returnsInHanded_of_row (C:=Tryz.checked) (s:=OpenSpec.ofChange Rows.meantSpec) own started y1Z Tryz.func3 (Z0 os H enc) ?_;intro W base args ds gs before hval0 hW _ _ hwt hL hsh _;have hval:∀(j:Nat) t v,Tryz.f3.params[j]?=some t->args[j]?=some v->Value.okWide Tryz.prog W .any base t v:=hval0;have hW':=hW;obtain⟨p,q,hA0,hV0,rfl,_,_⟩:=hW;have hA:DataW.TrodAll enc Tryz.prog W 0 (fun _=>true) true Tryz.f3.params.toList args.toList ds p:=hA0;rw[Tryz.params3]at hA hval;obtain⟨v0,v1,d0,d1,p0,p1,rfl,rfl,rfl,h0,h1⟩:=trodAll_two hA;obtain⟨rfl,rfl⟩:=trodVars_none hV0;have hraw0:KT W v0:=oM (okWide_slice Tryz.underlying22 (hval 0 22 v0 rfl rfl)) (fun e s h=>sized_slice hwt (j:=0) (t:=22) (e:=3) rfl (by rw[h];rfl) Tryz.underlying22) h0;have hraw1:KT W v1:=oM (okWide_slice Tryz.underlying22 (hval 1 22 v1 rfl rfl)) (fun e s h=>sized_slice hwt (j:=1) (t:=22) (e:=3) rfl (by rw[h];rfl) Tryz.underlying22) h1
 have hlt:∀x∈p0++p1,x.block<W.heap.size:=fun x hx=>by simpa using hW'.lt x (by simpa using hx)
 clear hA0 hV0 hval0;refine(mR v0 v1 W (gF hL hsh).1 (gF hL hsh).2 hraw0 hraw1).mono ?_;rintro e W' ⟨rfl,hb⟩;have e1:((OpenSpec.ofChange Rows.meantSpec).at F).fn H ([d0,d1]++ [])= {results:=[.lit (.bool true)],args:=[d0,d1]}:=rfl;refine⟨_,rfl,_,_,_,[],p0++p1,[],hW',?_,?_,?_,hb.frame _,fun h=>by cases h⟩
 ·rw[e1];exact trodAll_mk1 (shut_bool Tryz.underlying4 _)
 ·rw[e1];exact trodAll_mk2 (Below.trod laid y1Z (of_decide_eq_true y1Z) h0 hb (fun x hx=>hlt x y31Z)) (Below.trod laid y1Z (of_decide_eq_true y1Z) h1 hb (fun x hx=>hlt x y31Z))
 ·rw[e1];rfl
theorem e7:Tryz.pinned.checked.prog.funcNamed Rows.meantRow.func=some 3:=by kernel_rfl
theorem aV:joinedFacts Tryz.pinned.checked.prog 3 Tryz.f3 (OpenSpec.ofChange Rows.meantSpec).bare Rows.meantRow=true:=by kernel_rfl
theorem WI:Func.isInstance Tryz.pinned.checked.prog Tryz.f3 Rows.meantRow.origin Rows.meantRow.targs:=of_decide_eq_true y1Z
theorem ZE:Func.isWrapper Tryz.pinned.checked.prog Tryz.f3 Rows.meantRow.wrapper Rows.meantRow.mainSum:=by
 unfold Func.isWrapper;first | (rw[if_pos (by decide+kernel)];kernel_rfl) | (rw[if_neg (by decide+kernel)];exact⟨rfl,rfl⟩)
theorem iU:Rows.MeantSaid:=
 OpenClaim.holds_of_cond 3 Tryz.f3 rfl rfl rfl rfl rfl rfl rfl ⟨rfl,rfl,rfl,rfl,rfl⟩ rfl rfl rfl rfl rfl e7 Tryz.func3 aV
  WI ZE
  (fun os started H enc _ F0=>by rw[OpenClaim.pre_eq_preRow];exact aB os started H enc F0)
theorem meant_card:Rows.MeantCardSaid:=
 Claim7.holds_tied_plain_at .later [] [.data,.data,.data,.data,.sentinel,.sentinel,.data,.pinned] true Rows.meantCard.stood.harness true iU (fun _ h=>by cases h) y1Z (fun _ h=>by cases h) meant_row_tie rfl ⟨rfl,rfl⟩ y1Z rfl
  (fun f fn hf hfn=>by
   obtain rfl:f=3:=Option.some.inj ((show Tryz.prog.funcNamed "darn/darnkeep.Meant" =some 3 by kernel_rfl).symm.trans hf) |>.symm;obtain rfl:fn=Tryz.f3:=(Option.some.inj (Tryz.func3.symm.trans hfn)).symm;exact⟨by kernel_rfl,fun j t ht=>by
    rw[Tryz.params3]at ht;have hm:t∈ [22,22]:=by simpa using Array.mem_of_getElem? ht
    have hall:([22,22].all fun u=> !Tryz.prog.wantsStandIn u)=true:=by kernel_rfl
    exact(show Tryz.prog.wantsStandIn t=false by simpa using List.all_eq_true.1 hall t hm)⟩)
  y1Z
#print axioms meant_card
end Go.Proofs.YtjjggdcnpndgjabGreatDoor
