/- For every three lists of numbers 'darnkeep.Cheap' returns true and leaves the numbers as they were: any row is mended by a script that makes the row that is told, the tree stands for that row, and the script costs no more than to make the row into another one that the grammar has. Conditions: the package-level variables that the road reads hold what the program's text lays (the card ties them: the table of the lines' shapes, strconv's two errors, Go's own tables). -/
import Derived.Test.YtjjggdcnpndgjaaGreatDoorCards
import Derived.Test.YtjjggdcnpndgjaaGreatDoorTie
import Derived.Test.YtjjggdcnpndgjaaGreatDoorCJ45
set_option linter.unusedSimpArgs false
set_option maxRecDepth 100000
namespace Go.Proofs.YtjjggdcnpndgjaaGreatDoor
open Go Go.ChangeShapes Go.WideShapes Go.ChangeAt Go.RowKit
open Go.ChangeMaps (shut_string)
theorem ZX (os:Os) (H:Type) (enc:TypeId × Value->H):
  ∃(w:World) (tape:Tape) (i:Input),w.os=os/\(w.forCall tape i).Shaped Tryz.prog/\i.vars=[]/\Input.okWide Tryz.prog (w.forCall tape i) .any w.heap.size 12 i/\
   (OpenSpec.ofChange Rows.cheapSpec).preRow enc Tryz.prog Tryz.f12 Rows.cheapRow.domain false Rows.cheapRow.laid (w.forCall tape i).memory i.args/\({}:Assume).holds Tryz.prog (lone (Frame.enter Tryz.prog 12 i.args .normal) [] (w.forCall tape i)):=by
 obtain⟨w,tape,i,h1,h2,h3,h4,⟨⟨h5,h6⟩,h7⟩,h8⟩:=ChangeSpec.witness_shaped (enc:=enc) (C:=Tryz.checked) (os:=os) (f:=12) (fn:=Tryz.f12) (s:=Rows.cheapSpec) (conds:=Rows.cheapRow.domain) (apart:=false)
  (X:=λw _=>laidMetH Tryz.prog Rows.cheapRow.laid w) false (World.laidAll Tryz.prog os Rows.cheapRow.laid) #[.slice none 0 0,.slice none 0 0,.slice none 0 0] 8 (World.laidAll_os _ _ _)
   (World.shaped_of_ZipB yM yM) yM yM yM
   (by rw[MakeChecks.laidMetH_plain _ _ _ yM];exact laidMet_laidAll _ yM yM)
 obtain⟨ds,gs,before,hw,hc⟩:=h5;exact⟨w,tape,i,h1,h2,h3,h4,⟨⟨OpenSpec.pre_of_parts hw hc (λk hk=>by cases hk),h6⟩,h7⟩,h8⟩
theorem dE (os:Os) (started:os.Started) (H:Type) (enc:TypeId × Value->H) (F:Stop.Interp):
  ReturnsInHanded {} Tryz.checked os 12 .any ((OpenSpec.ofChange Rows.cheapSpec).preRow enc Tryz.prog Tryz.f12 Rows.cheapRow.domain false Rows.cheapRow.laid) (((OpenSpec.ofChange Rows.cheapSpec).at F).post enc Tryz.prog Tryz.f12 false true false false):=by
 refine returnsInHanded_of_row (C:=Tryz.checked) (s:=OpenSpec.ofChange Rows.cheapSpec) own started yM Tryz.func12 (ZX os H enc) ?_;intro W base args ds gs before ah7 hW _ _ hwt hL hsh _;have hval:∀(j:Nat) t v,Tryz.f12.params[j]?=some t->args[j]?=some v->Value.okWide Tryz.prog W .any base t v:=ah7;have hW':=hW;obtain⟨p,q,hA0,hV0,rfl,_,_⟩:=hW;have hA:DataW.TrodAll enc Tryz.prog W 0 (λ_=>true) true Tryz.f12.params.toList args.toList ds p:=hA0;rw[Tryz.params12]at hA hval;obtain⟨v0,v1,v2,d0,d1,d2,p0,p1,p2,rfl,rfl,rfl,h0,h1,h2⟩:=trodAll_three hA;obtain⟨rfl,rfl⟩:=trodVars_none hV0;have ald:IQ W v0:=dR (okWide_slice Tryz.underlying45 (hval 0 45 v0 rfl rfl)) (λe s h=>sized_slice hwt (j:=0) (t:=45) (e:=3) rfl (by rw[h];rfl) Tryz.underlying45) h0;have ale:IQ W v1:=dR (okWide_slice Tryz.underlying45 (hval 1 45 v1 rfl rfl)) (λe s h=>sized_slice hwt (j:=1) (t:=45) (e:=3) rfl (by rw[h];rfl) Tryz.underlying45) h1
 have alf:IQ W v2:=dR (okWide_slice Tryz.underlying45 (hval 2 45 v2 rfl rfl)) (λe s h=>sized_slice hwt (j:=2) (t:=45) (e:=3) rfl (by rw[h];rfl) Tryz.underlying45) h2;have hlt:∀x∈p0++p1++p2,x.block<W.heap.size:=λx hx=>by simpa using hW'.lt x (by simpa using hx)
 clear hA0 hV0 ah7;refine(pK v0 v1 v2 W (gF hL hsh).1 (gF hL hsh).2 ald ale alf).mono ?_;rintro e W' ⟨rfl,hb⟩;have e1:((OpenSpec.ofChange Rows.cheapSpec).at F).fn H ([d0,d1,d2]++ [])= {results:=[.lit (.bool true)],args:=[d0,d1,d2]}:=rfl;refine⟨_,rfl,_,_,_,[],p0++p1++p2,[],hW',?_,?_,?_,hb.frame _,λh=>by cases h⟩
 ·rw[e1];exact trodAll_mk1 (shut_bool Tryz.underlying4 _)
 ·rw[e1];simp only[aA];exact trodAll_mk3 (Below.trod laid yM (kg yM) h0 hb (λx hx=>hlt x Lz)) (Below.trod laid yM (kg yM) h1 hb (λx hx=>hlt x Lz)) (Below.trod laid yM (kg yM) h2 hb (λx hx=>hlt x Lz))
 ·rw[e1];rfl
theorem eP:Tryz.pinned.checked.prog.funcNamed Rows.cheapRow.func=some 12:=by kernel_rfl
theorem aZ:joinedFacts Tryz.pinned.checked.prog 12 Tryz.f12 (OpenSpec.ofChange Rows.cheapSpec).bare Rows.cheapRow=true:=by kernel_rfl
theorem XD:Func.isInstance Tryz.pinned.checked.prog Tryz.f12 Rows.cheapRow.origin Rows.cheapRow.targs:=kg yM
theorem aB:Func.isWrapper Tryz.pinned.checked.prog Tryz.f12 Rows.cheapRow.wrapper Rows.cheapRow.mainSum:=by
 unfold Func.isWrapper;first | (rw[ay (by decide+kernel)];kernel_rfl) | (rw[aq (by decide+kernel)];exact⟨rfl,rfl⟩)
theorem jS:Rows.CheapSaid:=
 OpenClaim.holds_of_cond 12 Tryz.f12 rfl rfl rfl rfl rfl rfl rfl ⟨rfl,rfl,rfl,rfl,rfl⟩ rfl rfl rfl rfl rfl eP Tryz.func12 aZ
  XD aB
  (λos started H enc _ F0=>by rw[OpenClaim.pre_eq_preRow];exact dE os started H enc F0)
theorem cheap_card:Rows.CheapCardSaid:=
 Claim7.holds_tied_plain_at .later [] [.data,.data,.data,.data,.sentinel,.sentinel,.data,.pinned] true Rows.cheapCard.stood.harness true jS (λ_ h=>by cases h) yM (λ_ h=>by cases h) cheap_row_tie rfl ⟨rfl,rfl⟩ yM rfl
  (λf fn hf hfn=>by
   obtain rfl:f=12:=uj ((show Tryz.prog.funcNamed "darn/darnkeep.Cheap" =some 12 by kernel_rfl).symm.trans hf) |>.symm;obtain rfl:fn=Tryz.f12:=(uj (Tryz.func12.symm.trans hfn)).symm;exact⟨by kernel_rfl,λj t ht=>by
    rw[Tryz.params12]at ht;have hm:t∈ [45,45,45]:=by simpa using Array.mem_of_getElem? ht
    have hall:([45,45,45].all λu=> !Tryz.prog.wantsStandIn u)=true:=by kernel_rfl
    exact(show Tryz.prog.wantsStandIn t=false by simpa using oh.1 hall t hm)⟩)
  yM
#print axioms cheap_card
end Go.Proofs.YtjjggdcnpndgjaaGreatDoor
