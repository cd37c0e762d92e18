/- For every two lists of numbers and every two numbers 'darnkeep.Hurt' returns true and leaves the numbers as they were: a row that the grammar has with one token left out, or one put in, is mended at no more than it costs to undo that; and a row that Read refuses costs something. Conditions: the package-level variables that the road reads hold what the program's text lays (the card ties them: the table of the lines' shapes, strconv's two errors, Go's own tables). -/
import Derived.Test.YtjjggdcnpndgjaaGreatDoorCards
import Derived.Test.YtjjggdcnpndgjaaGreatDoorTie
import Derived.Test.YtjjggdcnpndgjaaGreatDoorHJ45
set_option linter.unusedSimpArgs false
set_option maxRecDepth 100000
namespace Go.Proofs.YtjjggdcnpndgjaaGreatDoor
open Go Go.ChangeShapes Go.WideShapes Go.ChangeAt Go.RowKit
open Go.ChangeMaps (shut_string)
theorem b7 (os:Os) (H:Type) (enc:TypeId × Value->H):
  ∃(w:World) (tape:Tape) (i:Input),w.os=os/\(w.forCall tape i).Shaped Tryz.prog/\i.vars=[]/\Input.okWide Tryz.prog (w.forCall tape i) .any w.heap.size 13 i/\
   (OpenSpec.ofChange Rows.hurtSpec).preRow enc Tryz.prog Tryz.f13 Rows.hurtRow.domain false Rows.hurtRow.laid (w.forCall tape i).memory i.args/\({}:Assume).holds Tryz.prog (lone (Frame.enter Tryz.prog 13 i.args .normal) [] (w.forCall tape i)):=by
 obtain⟨w,tape,i,h1,h2,h3,h4,⟨⟨h5,h6⟩,h7⟩,h8⟩:=ChangeSpec.witness_shaped (enc:=enc) (C:=Tryz.checked) (os:=os) (f:=13) (fn:=Tryz.f13) (s:=Rows.hurtSpec) (conds:=Rows.hurtRow.domain) (apart:=false)
  (X:=λw _=>laidMetH Tryz.prog Rows.hurtRow.laid w) false (World.laidAll Tryz.prog os Rows.hurtRow.laid) #[.slice none 0 0,.slice none 0 0,ab 0,ab 0] 8 (World.laidAll_os _ _ _)
   (World.shaped_of_ZipB yg yg) yg yg yg
   (by rw[MakeChecks.laidMetH_plain _ _ _ yg];exact laidMet_laidAll _ yg yg)
 obtain⟨ds,gs,before,hw,hc⟩:=h5;exact⟨w,tape,i,h1,h2,h3,h4,⟨⟨OpenSpec.pre_of_parts hw hc (λk hk=>by cases hk),h6⟩,h7⟩,h8⟩
theorem e7 (os:Os) (started:os.Started) (H:Type) (enc:TypeId × Value->H) (F:Stop.Interp):
  ReturnsInHanded {} Tryz.checked os 13 .any ((OpenSpec.ofChange Rows.hurtSpec).preRow enc Tryz.prog Tryz.f13 Rows.hurtRow.domain false Rows.hurtRow.laid) (((OpenSpec.ofChange Rows.hurtSpec).at F).post enc Tryz.prog Tryz.f13 false true false false):=by
 refine returnsInHanded_of_row (C:=Tryz.checked) (s:=OpenSpec.ofChange Rows.hurtSpec) own started yg Tryz.func13 (b7 os H enc) ?_;intro W base args ds gs before ahx hW _ _ hwt hL hsh _;have hval:∀(j:Nat) t v,Tryz.f13.params[j]?=some t->args[j]?=some v->Value.okWide Tryz.prog W .any base t v:=ahx;have hW':=hW;obtain⟨p,q,hA0,hV0,rfl,_,_⟩:=hW;have hA:DataW.TrodAll enc Tryz.prog W 0 (λ_=>true) true Tryz.f13.params.toList args.toList ds p:=hA0;rw[Tryz.params13]at hA hval;obtain⟨v0,v1,v2,v3,d0,d1,d2,d3,p0,p1,p2,p3,rfl,rfl,rfl,h0,h1,h2,h3⟩:=trodAll_four hA;obtain⟨rfl,rfl⟩:=trodVars_none hV0;have akB:KB W v0:=oK (okWide_slice Tryz.underlying45 (hval 0 45 v0 rfl rfl)) (λe s h=>sized_slice hwt (j:=0) (t:=45) (e:=3) rfl (by rw[h];rfl) Tryz.underlying45) h0;have akC:KB W v1:=oK (okWide_slice Tryz.underlying45 (hval 1 45 v1 rfl rfl)) (λe s h=>sized_slice hwt (j:=1) (t:=45) (e:=3) rfl (by rw[h];rfl) Tryz.underlying45) h1
 obtain⟨z2,rfl,rfl,rfl,hz2⟩:=open_int Tryz.underlying3 (hval 2 3 v2 rfl rfl) h2;have akD:=hz2;have hi2:Ja z2:=by
  simp[Lit.wf,IntKind.min,IntKind.max,show IntKind.i64.signed=true from rfl,show IntKind.i64.bits=64 from rfl]at hz2;unfold Ja;exact hz2
 obtain⟨z3,rfl,rfl,rfl,hz3⟩:=open_int Tryz.underlying3 (hval 3 3 v3 rfl rfl) h3;have akE:=hz3;have Cs:Ja z3:=by
  simp[Lit.wf,IntKind.min,IntKind.max,show IntKind.i64.signed=true from rfl,show IntKind.i64.bits=64 from rfl]at hz3;unfold Ja;exact hz3
 have hlt:∀x∈p0++p1++ []++ [],x.block<W.heap.size:=λx hx=>by simpa using hW'.lt x (by simpa using hx)
 clear hA0 hV0 ahx;refine(rG v0 v1 z2 z3 W (fV hL hsh).1 (fV hL hsh).2 akB akC hi2 Cs).mono ?_;rintro e W' ⟨rfl,hb⟩;have e1:((OpenSpec.ofChange Rows.hurtSpec).at F).fn H ([d0,d1,.lit (.int .i64 z2),.lit (.int .i64 z3)]++ [])= {results:=[.lit (.bool true)],args:=[d0,d1,.lit (.int .i64 z2),.lit (.int .i64 z3)]}:=rfl;refine⟨_,rfl,_,_,_,[],p0++p1++ []++ [],[],hW',?_,?_,?_,hb.frame _,λh=>by cases h⟩
 ·rw[e1];exact trodAll_mk1 (shut_bool Tryz.underlying4 _)
 ·rw[e1];simp only[aA];exact trodAll_mk4 (Below.trod laid yg (kf yg) h0 hb (λx hx=>hlt x Le)) (Below.trod laid yg (kf yg) h1 hb (λx hx=>hlt x Le)) (shut_int Tryz.underlying3 akD) (shut_int Tryz.underlying3 akE)
 ·rw[e1];rfl
theorem jS:Tryz.pinned.checked.prog.funcNamed Rows.hurtRow.func=some 13:=by kernel_rfl
theorem dX:joinedFacts Tryz.pinned.checked.prog 13 Tryz.f13 (OpenSpec.ofChange Rows.hurtSpec).bare Rows.hurtRow=true:=by kernel_rfl
theorem YY:Func.isInstance Tryz.pinned.checked.prog Tryz.f13 Rows.hurtRow.origin Rows.hurtRow.targs:=kf yg
theorem aV:Func.isWrapper Tryz.pinned.checked.prog Tryz.f13 Rows.hurtRow.wrapper Rows.hurtRow.mainSum:=by
 unfold Func.isWrapper;first | (rw[aq (by decide+kernel)];kernel_rfl) | (rw[au (by decide+kernel)];exact⟨rfl,rfl⟩)
theorem nU:Rows.HurtSaid:=
 OpenClaim.holds_of_cond 13 Tryz.f13 rfl rfl rfl rfl rfl rfl rfl ⟨rfl,rfl,rfl,rfl,rfl⟩ rfl rfl rfl rfl rfl jS Tryz.func13 dX
  YY aV
  (λos started H enc _ F0=>by rw[OpenClaim.pre_eq_preRow];exact e7 os started H enc F0)
theorem hurt_card:Rows.HurtCardSaid:=
 Claim7.holds_tied_plain_at .later [] [.data,.data,.data,.data,.sentinel,.sentinel,.data,.pinned] true Rows.hurtCard.stood.harness true nU (λ_ h=>by cases h) yg (λ_ h=>by cases h) hurt_row_tie rfl ⟨rfl,rfl⟩ yg rfl
  (λf fn hf hfn=>by
   obtain rfl:f=13:=td ((show Tryz.prog.funcNamed "darn/darnkeep.Hurt" =some 13 by kernel_rfl).symm.trans hf) |>.symm;obtain rfl:fn=Tryz.f13:=(td (Tryz.func13.symm.trans hfn)).symm;exact⟨by kernel_rfl,λj t ht=>by
    rw[Tryz.params13]at ht;have hm:t∈ [45,45,3,3]:=by simpa using Array.mem_of_getElem? ht
    have hall:([45,45,3,3].all λu=> !Tryz.prog.wantsStandIn u)=true:=by kernel_rfl
    exact(show Tryz.prog.wantsStandIn t=false by simpa using nj.1 hall t hm)⟩)
  yg
#print axioms hurt_card
end Go.Proofs.YtjjggdcnpndgjaaGreatDoor
