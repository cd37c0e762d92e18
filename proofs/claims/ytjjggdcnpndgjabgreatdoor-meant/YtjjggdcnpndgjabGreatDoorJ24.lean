import Derived.Test.YtjjggdcnpndgjabGreatDoorJ23
import Derived.Laws.Tables
set_option linter.unusedSimpArgs false
set_option maxHeartbeats 4000000
set_option maxRecDepth 100000
namespace Go.Proofs.YtjjggdcnpndgjabGreatDoor
open Go.RowKit Go.Shelf
variable {E:Nat->Nat}{N:NG}{R:Nat->Nat->Int}{adT:Option Addr}{capN capT gN kb n₀ tb:Nat}{pg:List Nm}{tws:List ByteArray}{v:Value}{w:World}
section
attribute [local go_sem] Oper.semAt_some
theorem eH (w:World) (n₀ tb kb:Nat) (N:NG) (tws:List ByteArray) (pg:List Nm) (adT:Option Addr) (capT gN capN:Nat) (k:List Fa) (R:Nat->Nat->Int) (E:Nat->Nat) (h:FcM w n₀ tb kb N tws pg adT capT gN capN k) (hv:TbV w tb adT N.nT capT gN N.nN capN kb R E) (hfh:∀n,AL k n<2 ^21)
  (htb:n₀<=tb) (hE:∀m,m<20->E m<=939524097) (hlen:∀r∈N.rules,r.2.length<=8/\AY N r.2):
  Calls Tryz.prog 24 #[ac tb] w fun e w'=>e=.returned (.tuple #[])/\A1 w w' [tb]/\∃E',(∀m,m<20->E' m<=939524097)/\((∀r∈N.rules,FA (emP k) r.2=false)->E'=E)/\TbV w' tb adT N.nT capT gN N.nN capN kb R E':=by
 have H:=hid h;have HV0:=hid hv;have HE0:=hid hE;have HL:=hid hlen;have HF:Hid (∀n,AL k n<2 ^21):=hid hfh;have hN20:=h.gr.leN;have hT20:=h.gr.leT;have hlN:=h.gr.lN;have hln:=h.ln;have htw:=hv.lt;have f1:=h.f1;have hnk:tb≠kb:=h.ne;clear h hv hlen hfh hE;obtain⟨nN,hnN⟩:=qF (N.nN);rw[<-hnN]at f1 HV0 hN20 hlN ⊢;have HNN:Hid (nN=N.nN):=hid hnN;clear hnN;refine(callsIn_wide (n:=4)).1 ?_;refine callsIn_of_wp_marks Tryz.func24 rfl trivial ?_ rfl;simp only[Tryz.ntmps24,List.size_toArray,lC,List.length_nil,Nat.reduceAdd,Nat.reduceSub,Array.replicate_succ,Array.replicate_zero,List.push_toArray,List.append_toArray,List.nil_append,List.cons_append];refine wpIn_seq ?_
 gi_wp2
 obtain⟨W1,hW1⟩:=qE (w.alloc (.cells #[ac tb] 54));rw[hW1];have HK1:Hid (A1 w W1 []):=hid (by rw[<-hW1];exact(A1.refl w []).alloc _);have hb0:W1.heap[w.heap.size]?=some (.cells #[ac tb] 54 (0,0)):=by rw[<-hW1];exact World.alloc_heap_new w _
 have c0:W1.cell? (af w.heap.size 0)=some (ac tb):=A0 hb0;have c1:W1.cell? (af tb 1)=some (ae gN nN capN):=(HK1.out.cell (by exact htw) (by simp)).trans f1;have HB:=hid hb0;clear hb0 hW1 f1
 gi_wp2
 refine wpIn_loop_ghost (fun g a W=>∃(u:Nat->Value) (Ds:List Nat) (i:Nat) (E1:Nat->Nat),
   a= {tmps:= #[ac tb,ac w.heap.size,u 2,u 3,u 4,u 5,u 6,u 7,u 8,ae gN nN capN,ab nN,ab i,u 12,u 13,u 14,u 15,u 16,u 17,u 18,u 19,u 20,u 21,u 22,u 23,u 24,u 25,u 26,u 27,u 28,u 29,u 30,u 31,u 32,u 33,u 34],defers:=UU Ds}/\
   g=nN - i/\i<=nN/\TbV W tb adT N.nT capT gN nN capN kb R E1/\A1 w W [tb]/\W.heap[w.heap.size]?=some (.cells #[ac tb] 54 (0,0))/\DX w Ds W/\(∀m,m<20->E1 m<=939524097)/\((∀r∈N.rules,FA (emP k) r.2=false)->E1=E)) nN ?start ?round
 case start=>
  exact⟨RU #[undef,undef,_,_,_,_,_,_,_,undef,undef,undef,_,_,_,_,_,_,_,_,_,_,_,_,_,_,_,_,_,_,_,_,_,_,_] #[],[],0,E,rfl,rfl,Nat.zero_le _,HV0.out.keeps HK1.out (by simp),HK1.out.mono (fun q hq=>by cases hq),HB.out,⟨List.nodup_nil,fun D hD=>by cases hD⟩,HE0.out,fun _=>rfl⟩
 case round=>
  rintro g a W ⟨u,Ds,i,E1,rfl,rfl,hi,hvW,hW,bx0,hM,hEb,hEs⟩;have HVW:=hid hvW;have HW:Hid (A1 w W [tb]):=hid hW;have HM:Hid (DX w Ds W):=hid hM;have HBX:=hid bx0;have HEB:=hid (And.intro hEb hEs);have hl0:=lt_of_block bx0;have htW:tb<W.heap.size:=by omega
  clear HB HK1 c1 c0 hEb hEs hM hW HE0
  by_cases hlt:i<nN
  ·have c0:W.cell? (af w.heap.size 0)=some (ac tb):=A0 bx0
   obtain⟨cT0,cT1,_⟩:=hvW.heads;clear bx0 hvW
   gi_wp2_with (refine⟨trivial,?_⟩;gi_at_call 44;refine(TT Fence.wide 3 trivial rfl _ _ _ _ _ _ _).mono ?_;rintro e W2 ⟨rfl,rfl⟩)
   obtain⟨W0,hW0⟩:=qE (W.alloc (.cells #[.slice adT N.nT capT,ae gN nN capN] 69));rw[hW0];have hs0:W.heap.size<W0.heap.size:=by rw[<-hW0,World.size_alloc];omega
   have hbox:W0.cell? (af W.heap.size 1)=some (ae gN N.nN capN):=by rw[<-hW0,<-HNN.out];exact BG W _ _ 1
   have HKW:Hid (A1 W W0 []):=hid (by rw[<-hW0];exact(A1.refl W []).alloc _);have HK0:Hid (A1 w W0 [tb]):=hid (HW.out.trans (HKW.out.mono (fun q hq=>by cases hq)));have HM0:Hid (DX w Ds W0):=hid (HM.out.keeps HKW.out (fun q hq=>by cases hq));have HB0:=hid ((HKW.out.block _ hl0 (by simp)).trans HBX.out);have HV1:=hid (HVW.out.keeps HKW.out (by simp));have hszw:w.heap.size<W0.heap.size:=by omega
   clear hW0 c0 cT0 cT1;refine wpIn_rangeFunc_ownG (F:=Fence.wide) rfl (by omega) (gf:=76) (lb:= #[ac W.heap.size]) rfl trivial (enters_of Tryz.func76 y1Z rfl)
    (O2 Fence.wide 3 trivial rfl (by omega) W.heap.size n₀ N tws pg adT capT gN capN w W0 H.out.gr (HK0.out.below hln (fun q h=>by have:=mS.1 h;omega)) hln hs0 hbox) belowK_t (belowK_b (by omega)) (Below.refl _ _) (fun _=>rfl)
    (fun(pre:List (RI N w n₀)) V=>∃E3,TbV V tb adT N.nT capT gN nN capN kb R E3/\A1 W0 V [tb]/\(∀m,m<20->E3 m<=939524097)/\((∀r∈N.rules,FA (emP k) r.2=false)->E3=E)) (fun _ _ _=>False)
    ?own (fun _ _ _ _ _ hs _ _=>hs) ⟨E1,HV1.out,A1.refl _ _,HEB.out⟩
    (fun x=>{tmps:= #[ac tb,ac w.heap.size,ab (x.1.1.1:Int),x.1.2,u 4,u 5,u 6,u 7,u 8,ae gN nN capN,ab nN,ab i,.bool true,ac tb,ac tb,ac tb,ac tb,.agg #[.slice adT N.nT capT,ae gN nN capN],.func (.func 76) #[] #[ac W.heap.size],ab (x.1.1.1:Int),x.1.2,u 21,u 22,u 23,u 24,u 25,u 26,u 27,u 28,u 29,u 30,u 31,u 32,u 33,u 34],defers:=[]}) ?assign ?body ?done ?stop
   case assign=>
    intro l x V K hK;simp only[WB]
    gi_wp2
    exact hK
   case own=>
    rintro pre A B row ⟨E3,h1,h2,h3⟩ hg hrw;have hk:A1 A B row.toList:=(A1.refl A row.toList).grown hg (fun q e=>.inl y27Z);exact⟨E3,h1.keeps hk (fun hm=>by obtain⟨o,ho,hc⟩:=(hrw tb y59Z).2;obtain⟨c,e,f,hx⟩:=h1.kind;rw[hx]at ho;cases ho;cases hc),h2.grown hg (fun q e=>.inr (hrw q e).1),h3⟩
   case stop=>
    rintro D c pre V _ _ h _;exact h.elim
   case done=>
    rintro D ys V hD hys ⟨E3,h1,h2,h3,h4⟩ hd;have HE1:=hid h1;have HE2:Hid (A1 w V [tb]):=hid (HK0.out.trans h2);have HE3:=hid (And.intro h3 h4);have HE4:Hid (DX w (D::Ds) V):=hid (HM0.out.cons (HM0.out.keeps h2 (fun q hq=>by have:=mS.1 hq;subst this;exact HV1.out.kind)) (by omega) hD hd);have HE5:=hid ((h2.block _ hszw y2Z).trans HB0.out);clear h1 h2 h3 h4 hd
    gi_wp2
    exact⟨nN - (i+1),by omega,RU #[undef,undef,_,_,_,_,_,_,_,undef,undef,undef,_,_,_,_,_,_,_,_,_,_,_,_,_,_,_,_,_,_,_,_,_,_,_] #[],D::Ds,i+1,E3,rfl,rfl,by omega,HE1.out,HE2.out,HE5.out,HE4.out,HE3.out⟩
   case body=>
    rintro l pre ⟨⟨⟨rn,rp⟩,pv⟩,hx1,hx2⟩ V ⟨E3,h1,h2,h3,h4⟩ _;simp only at hx1 hx2 ⊢;obtain⟨hl8,hpk⟩:=HL.out _ hx1;simp only at hl8 hpk;have hrn:rn<nN:=by rw[HNN.out];exact H.out.gr.ok.lt _ hx1
    have hrn20:rn<20:=by omega
    have hrn3:(rn:Int)<20:=by omega
    have hkwV:A1 w V [tb]:=HK0.out.trans h2;have hszV:=h2.size;have cB:V.cell? (af w.heap.size 0)=some (ac tb):=A0 ((h2.block _ hszw y2Z).trans HB0.out);have XV:FcM V n₀ tb kb N tws pg adT capT gN capN k:=H.out.tab (S:=[tb]) (fun q hq=>by have:=mS.1 hq;exact⟨by omega,by omega⟩) hkwV (R:=R) (E:=E3) (by rw[<-HNN.out];exact h1);have hpV:C0 V n₀ pv rp:=hx2.below (hkwV.below hln (fun q h=>by have:=mS.1 h;omega));have HCE:=hid (eD V n₀ tb kb N tws pg adT capT gN capN k XV HF.out pv rp hpV hpk hl8);have HCN:=hid (fun V2 (hb2:Below V.heap.size V V2)=>WH V2.drew n₀ tb N hT20 (by rw[<-HNN.out];exact hN20) (by show n₀<=V2.heap.size;have:=hb2.size;omega) (by show tb<V2.heap.size;have:=hb2.size;omega)
     (fun m hm=>⟨E3 m,h3 m hm,(hb2.cell (p:=(af tb (423+m))) (by show tb<V.heap.size;omega)).trans (h1.empty hm)⟩) pv rp (hpV.below ((hb2.mono (by omega)).trans ⟨rfl,rfl,rfl,lR_ _,fun _ _=>rfl⟩)) hpk hl8)
    have HTV:=hid h1;have HK2:=hid h2;have HE3:=hid (And.intro h3 h4);have HX1:Hid ((rn,rp)∈N.rules):=hid hx1;have hl0V:w.heap.size<V.heap.size:=by omega
    have htV:tb<V.heap.size:=by omega
    clear h1 h2 h3 h4 hkwV XV hpV hpk
    by_cases hnu:FA (emP k) rp=true
    ·rw[hnu]at HCE
     gi_wp2_with (refine⟨trivial,?_⟩;gi_at_call 45;refine(CallsIn.inRound l ((callsIn_wide (n:=1)).2 HCE.out)).mono ?_;rintro e V2 ⟨rfl,hb2⟩;have HB2:=hid hb2;have hs2:=hb2.size;replace cB:=(hb2.cell (p:=(af w.heap.size 0)) (by exact hl0V)).trans cB;clear hb2)
     have hl0V2:w.heap.size<V2.heap.size:=by omega
     refine GA (S:=fun w'=>(w'.cell? (af w.heap.size 0)=some (ac tb))/\A1 V2 w' [tb]) hmx y1Z y9Z ⟨cB,(A1.refl _ _).drew⟩ (fun hH=>?_);refine tB 0 hH ?_;refine tB 1 hH ?_;refine tB 2 hH ?_;refine tB 3 hH ?_;refine tB 5 hH ?_;refine tB 6 hH ?_;refine tL ?_;refine tS 4 fun K hK=>?_
     refine tM ?_;rw[if_pos (by rfl)];go_simp;refine(HCN.out V2 HB2.out).mono ?_;rintro e w5 ⟨⟨x,hx,rfl⟩,hb5⟩;try dsimp only;refine hK.out _ _ ?_ fun hH=>?_
     ·exact⟨(hb5.cell (by exact hl0V2)).trans hH.1,hH.2.trans (A1.of_below hb5 _)⟩
     clear hK K;refine tL ?_;have hk5:A1 V w5 []:=(A1.of_below HB2.out []).trans ((A1.refl V2 []).drew.trans (A1.of_below hb5 []));have hv5:=HTV.out.keeps hk5 (by simp);have e0:=hv5.empty hrn20;have e1:=hv5.free (423+rn);have HV6:=hid (hv5.putE hrn20 x);have hk6:A1 V (w5.setCell (af tb (423+rn)) (ab (x:Int))) [tb]:=(hk5.mono (fun q hq=>by cases hq)).setCell (by simp) _;have HK6:=hid hk6;have hs5:=hk5.size;clear hb5 hk5 hv5 hk6 HCN HCE;refine tB 7 hH ?_;refine tL ?_;refine tS 8 fun K hK=>?_
     refine tM ?_;rw[if_pos (by rfl)];go_simp;refine hK.out _ _ ?_ fun hH=>?_
     ·exact⟨(World.cell?_setCell_other _ _ _ _ (fun e=>by injection e with e _ _;omega)).trans hH.1,hH.2.setCell (by simp) _⟩
     clear hK K;refine tL ?_;refine wpAnyH_done y1Z ?_ _;clear hH
     gi_wp2
     refine⟨KeepsFrom.of_keeps (S:=[tb]) HK6.out (fun q h=>by have:=mS.1 h;omega),HK6.out.below (by omega) (fun q h=>by have:=mS.1 h;omega),_,HV6.out,HK2.out.trans HK6.out,fun m hm=>?_,fun hall=>?_⟩
     ·by_cases e:m=rn
      ·simp only[if_pos e];exact hx
      ·simp only[if_neg e];exact HE3.out.1 m hm
     ·have h9:=hall _ HX1.out
      simp only at h9;rw[hnu]at h9;cases h9
    ·have hnu0:FA (emP k) rp=false:=by simpa using hnu
     rw[hnu0]at HCE
     gi_wp2_with (refine⟨trivial,?_⟩;gi_at_call 45;refine(CallsIn.inRound l ((callsIn_wide (n:=1)).2 HCE.out)).mono ?_;rintro e V2 ⟨rfl,hb2⟩;have HB2:=hid hb2;clear hb2)
     have hk5:A1 V V2 []:=A1.of_below HB2.out [];exact⟨KeepsFrom.of_keeps (S:=[]) hk5 (fun q h=>by cases h),hk5.below (by omega) (fun q h=>by cases h),E3,HTV.out.keeps hk5 (by simp),HK2.out.trans (hk5.mono (fun q h=>by cases h)),HE3.out⟩
  ·have hnn:i=nN:=by omega
   subst hnn;clear bx0 hvW
   gi_wp2
   refine KJ w.heap.size (fun w'=>A1 w w' [tb]/\TbV w' tb adT N.nT capT gN i capN kb R E1) ?_ ?_ Ds _ ⟨HW.out,HVW.out⟩ HM.out.1 (fun D' hD'=>HM.out.2 D' hD')
   ·rintro w' D' ⟨h1,h2⟩ hD' hd'
    have hg':=grownBy_putObj' w' D' (.deferred none);have hk':A1 w' (w'.putObj D' (.deferred none)) [D']:=(A1.refl w' [D']).grown hg' (fun q e=>.inl (by cases e;simp));exact⟨h1.grown hg' (fun q e=>by cases e;exact .inr hD'),h2.keeps hk' (fun hm=>by obtain⟨cs,e,f,hx⟩:=h2.kind;have:=mS.1 hm;subst this;rw[hd']at hx;cases hx)⟩
   ·rintro w' ⟨h1,h2⟩
    exact⟨_,results_none rfl _ _ _,rfl,h1,E1,HEB.out.1,HEB.out.2,h2⟩
end
section
theorem dM (a b c:Value):Tryz.prog.built 79 [(0,.agg #[a,b,c])]=some (a::b::c::List.replicate 440 (ab 0)).toArray:=by kernel_rfl
theorem wS (w:World) (adT:Option Addr) (nT capT gN nN capN kb:Nat) (cs:Array Value) (hs:cs.size=443) (h0:cs[0]?=some (.slice adT nT capT)) (h1:cs[1]?=some (ae gN nN capN)) (h2:cs[2]?=some (ae kb nN nN)) (h3:∀j,j<440->cs[3+j]?=some (ab 0)):
  TbV (w.alloc (.cells cs 79)) w.heap.size adT nT capT gN nN capN kb (fun _ _=>0) (fun _=>0):=
 ⟨cs,World.alloc_heap_new w _,hs,h0,h1,h2,fun n t hn ht=>by rw[show 3+n*21+t=3+(n*21+t) by omega];exact h3 _ (by omega),fun m hm=>by rw[show 423+m=3+(420+m) by omega];exact h3 _ (by omega)⟩
theorem uF (a b c:Value) (cs:Array Value) (h:cs=(a::b::c::List.replicate 440 (ab 0)).toArray):cs.size=443/\cs[0]?=some a/\cs[1]?=some b/\cs[2]?=some c/\∀j,j<440->cs[3+j]?=some (ab 0):=by
 subst h;obtain⟨l,hl⟩:=qE (List.replicate 440 (ab 0));have h1:l.length=440:=by rw[<-hl,List.length_replicate]
 have h2:∀j,j<440->l[j]?=some (ab 0):=fun j hj=>by rw[<-hl,List.getElem?_replicate,if_pos hj]
 rw[hl];clear hl;refine⟨by simp[h1],by simp,by simp,by simp,fun j hj=>?_⟩;rw[List.getElem?_toArray,show 3+j=j+1+1+1 by omega];simp only[List.getElem?_cons_succ];exact h2 j hj
theorem aQ {P:Program}{ops:Array Oper}{rest:List Oper}{o:Oper}{a:Act}{Q:Exit->Act->World->Prop} (hg:o.guard=none) (t:TypeId) (parts:Array (Nat × Operand)) (ho:o.op=.build t parts)
  (vs:List (Nat × Value)) (hv:(parts.map fun(i,x)=>(i,a.eval x)).toList=vs) (cs:Array Value) (hb:P.built t vs=some cs) (h:wpList P ops Q rest (a.put o.dst (.agg cs)) w):wpList P ops Q (o::rest) a w:=
 wpList_build hg t parts ho (by rw[hv,hb];rfl) (by rw[hv,hb];exact h)
theorem SF {P:Program}{fn:Func}{p t u:Tmp}{ty:TypeId} (h:fn.results= #[.tmp t,.cell p ty,.tmp u]) (tmps:Array Value) (w:World) (g:Nat) (t':TypeId) (cs:Array Value) (fr:Nat × Nat) (d:TypeDesc)
  (hp:tmps.getD p undef=ac g) (hg:w.heap[g]?=some (.cells cs t' fr)) (hu:P.underlying ty=some d) (hd:(match d with | .struct _ | .array _ _=>true |_=>false)=true) (hi:(P.info? ty).map (·.size)=some cs.size):
  (results fn tmps).run P w=.ok (.tuple #[tmps.getD t undef,.agg cs,tmps.getD u undef]) w:=by
 have hp':tmps[p]?.getD undef=ac g:=by simpa using hp
 simp[results,h,hp',asAddr,run_loadVar_row w g t' ty cs fr d hg hu hd hi,Result.andThen]
theorem sF {a b:ByteArray}{i j:Int}{k:Nat} (h:(#[Value.string a,ab i,ab j,.string b]:Array Value)[k]?=some v):(∀x y z,v≠ .slice x y z)/\(∀x,v≠ .bool x)/\(k=0->∀x y,v≠ .int x y):=by
 match k with
 |0=>simp at h;subst h;simp
 |1=>simp at h;subst h;simp
 |2=>simp at h;subst h;simp
 |3=>simp at h;subst h;simp
 |k+4=>simp at h
section
variable {w w':World}{p:Nat}{a b:ByteArray}{i j:Int}{n₀:Nat}{S:List Nat}
theorem OB (hZ:w.heap[p]?=some (.cells #[.string a,ab i,ab j,.string b] 56 (0,0))) {g k:Nat} (hc:w.cell? (af g k)=some v) (hv:(∃x y z,v=.slice x y z)\/(∃x,v=.bool x)\/(k=0/\∃x y,v=.int x y)):g≠p:=fun e=>by
 subst e;rw[A0 hZ]at hc;obtain⟨h1,h2,h3⟩:=sF hc
 rcases hv with⟨x,y,z,rfl⟩ | ⟨x,rfl⟩ | ⟨hk,x,y,rfl⟩
 ·exact h1 _ _ _ rfl
 ·exact h2 _ rfl
 ·exact h3 hk _ _ rfl
theorem C0.pair (hZ:w.heap[p]?=some (.cells #[.string a,ab i,ab j,.string b] 56 (0,0))) (hS:∀q∈S,q=p\/n₀<=q) (hk:A1 w w' S) (hn:n₀<=w.heap.size) {ps:List Pt} (h:C0 w n₀ v ps):C0 w' n₀ v ps:=by
 obtain⟨ad,cap,h1,h2,h3⟩:=h;refine⟨ad,cap,h1,h2,fun h0=>?_⟩;obtain⟨g,off,h4,h5,h6⟩:=h3 h0;have hg:g∉S:=fun hm=>by
  obtain⟨q,hq⟩:∃q,ps[0]?=some q:=⟨_,gE h0⟩
  rcases hS g hm with e |e
  ·exact OB hZ (h6 0 q hq).1 (.inr (.inl ⟨_,rfl⟩)) e
  ·omega
 exact⟨g,off,h4,h5,fun i q hq=>⟨(hk.cell y6Z hg).trans (h6 i q hq).1,(hk.cell y6Z hg).trans (h6 i q hq).2⟩⟩
theorem PGr.pair  (h:PGr w n₀ N tws pg adT capT gN capN) (hZ:w.heap[p]?=some (.cells #[.string a,ab i,ab j,.string b] 56 (0,0))) (hS:∀q∈S,q=p\/n₀<=q) (hk:A1 w w' S) (hn:n₀<=w.heap.size):PGr w' n₀ N tws pg adT capT gN capN:=by
 have hT:∀t,t<N.nT->∀gT,adT=some (af gT 0)->gT<n₀->gT∉S:=fun t ht gT e hlt hm=>by
  obtain⟨gT',gs,cs,h1,h2,_,h4,_⟩:=h.toks2 t ht;rw[e]at h1;injection h1 with h1
  injection h1 with h1 _ _
  subst h1
  rcases hS _ hm with e2 |e2
  ·exact OB hZ h4 (.inl ⟨_,_,_,rfl⟩) e2
  ·omega
 refine⟨h.ok,h.leN,h.leT,h.leR,h.lT,h.lN,h.twl,h.pgl,h.hgN,h.rules,fun t ht=>?_,fun t ht=>?_,fun n nm hn'=>?_⟩
 ·obtain⟨gT,h1,h2,h3,h4⟩:=h.toks t ht
  have hg:=hT t ht gT h1 h2;exact⟨gT,h1,h2,(hk.cell y54Z hg).trans h3,(hk.cell y54Z hg).trans h4⟩
 ·obtain⟨gT,gs,cs,h1,h2,h3,h4,h5,h6,h7⟩:=h.toks2 t ht
  have hg:=hT t ht gT h1 h2;have hgs:gs∉S:=fun hm=>by
   rcases hS gs hm with e |e
   ·exact OB hZ (h7 0 (by omega)) (.inr (.inr ⟨rfl,_,_,rfl⟩)) e
   ·omega
  exact⟨gT,gs,cs,h1,h2,(hk.cell y54Z hg).trans h3,(hk.cell y54Z hg).trans h4,h5,h6,fun u hu=>(hk.cell (by show gs<w.heap.size;omega) hgs).trans (h7 u hu)⟩
 ·obtain⟨h1,v,h2,gR,capR,rfl,h4,h5,h6⟩:=h.names n nm hn'
  have hgN:=h.hgN;have hg:gN∉S:=fun hm=>by
   rcases hS gN hm with e |e
   ·exact OB hZ h2 (.inl ⟨_,_,_,rfl⟩) e
   ·omega
  refine⟨(hk.cell y39Z hg).trans h1,_,(hk.cell y39Z hg).trans h2,gR,capR,rfl,h4,h5,fun r ps hr=>?_⟩;obtain⟨q,h7,h8⟩:=h6 r ps hr;have hgR:gR∉S:=fun hm=>by
   obtain⟨ad,cap,e1,_⟩:=h8
   rcases hS gR hm with e |e
   ·exact OB hZ h7 (.inl ⟨_,_,_,e1⟩) e
   ·omega
  exact⟨q,(hk.cell (by show gR<w.heap.size;omega) hgR).trans h7,h8.pair hZ hS hk hn⟩
theorem FcM.pair {k:List Fa} (h:FcM w n₀ tb kb N tws pg adT capT gN capN k) (hZ:w.heap[p]?=some (.cells #[.string a,ab i,ab j,.string b] 56 (0,0))) (htb:n₀<=tb) (hk:A1 w w' [tb,p]) (hv:TbV w' tb adT N.nT capT gN N.nN capN kb R E):FcM w' n₀ tb kb N tws pg adT capT gN capN k where
 gr:=h.gr.pair hZ (fun q hq=>by
  simp only[List.mem_cons,List.not_mem_nil,or_false]at hq
  rcases hq with rfl |rfl
  ·exact .inr htb
  ·exact .inl rfl) hk h.ln
 n0:=h.n0
 ne:=h.ne
 lf:=hv.lt
 f0:=hv.heads.1
 f1:=hv.heads.2.1
 f2:=hv.heads.2.2
 kn:=h.kn.keeps hk (fun hm=>by
  simp only[List.mem_cons,List.not_mem_nil,or_false]at hm
  rcases hm with e |e
  ·exact h.ne e.symm
  ·obtain⟨c,hc⟩:=BJ h.kn.2 (g:=kb) rfl
   exact FY hc hZ (by decide) e)
end
theorem lK  (h:PGr w n₀ N tws pg adT capT gN capN) {r:Nat × List Pt} (hr:r∈N.rules):∃(n:Nat) (nm:Nm),pg[n]?=some nm/\∃i:Nat,nm.2[i]?=some r.2:=by
 rw[h.rules]at hr;obtain⟨x,hx,h2⟩:=List.mem_flatMap.1 hr;obtain⟨ps,hps,rfl⟩:=List.mem_map.1 h2;have h3:=List.mem_zipIdx_iff_getElem?.1 hx;obtain⟨i,hi,e⟩:=List.mem_iff_getElem.1 hps;exact⟨x.2,x.1,h3,i,gS_.2 ⟨hi,e⟩⟩
theorem oK (w:World) (n₀ tb kb:Nat) (N:NG) (tws:List ByteArray) (pg:List Nm) (adT:Option Addr) (capT gN capN:Nat) (k:List Fa) (R0:Nat->Nat->Int) (E:Nat->Nat) (h:FcM w n₀ tb kb N tws pg adT capT gN capN k) (hv:TbV w tb adT N.nT capT gN N.nN capN kb R0 E) (hfh:∀n,AL k n<2 ^21) (hfo:∀n,B2 k n<2 ^21)
  (hT:TabAt 0 Lib.deBruijn32tab w) (h0:0<n₀) (htb:n₀<=tb)
  (hlen:∀(n:Nat) (nm:Nm) (r:Nat) (ps:List Pt),pg[n]?=some nm->nm.2[r]?=some ps->ps.length<=8/\AY N ps)
  (hbits:∀(n:Nat) (nm:Nm) (r:Nat),pg[n]?=some nm->r<nm.2.length->∀t∈B1 (EX k pg n r),t<=N.nT):
  Calls Tryz.prog 23 #[ac tb] w fun e w'=>∃pn pr po pt fd R,e=.returned (.tuple #[.agg #[.string pn,ab pr,ab po,.string pt],.bool fd])/\TbV w' tb adT N.nT capT gN N.nN capN kb R E/\A1 w w' [tb]/\
   (fd=true->∃(n q r t:Nat) (nm:Nm),pn=nm.1/\pr=(q:Int)/\po=(r:Int)/\pt=CX tws N.nT t/\pg[n]?=some nm/\q<r/\r<nm.2.length/\t<=N.nT/\(EX k pg n q).testBit t=true/\(EX k pg n r).testBit t=true/\
     ∀m,m<n->∀nm':Nm,pg[m]?=some nm'->∀t,t<21->IY (EX k pg m) nm'.2.length (R m) t)/\
    (fd=false->∀(m:Nat) (nm':Nm),pg[m]?=some nm'->∀t,t<21->IY (EX k pg m) nm'.2.length (R m) t):=by
 refine(qA w n₀ tb kb N tws pg adT capT gN capN k R0 E h hv hfh hfo hT h0 htb hlen hbits).mono ?_;rintro e w' ⟨R,h1,h2,⟨n,q,r,t,nm,rfl,h3⟩ | ⟨rfl,h3⟩⟩
 ·exact⟨_,_,_,_,_,R,rfl,h1,h2,fun _=>⟨n,q,r,t,nm,rfl,rfl,rfl,rfl,h3⟩,fun h=>by cases h⟩
 ·exact⟨_,_,_,_,_,R,rfl,h1,h2,fun h=>(by cases h),fun _=>h3⟩
structure kA (N:NG) (tws:List ByteArray) (pg:List Nm) (k4:List Fa) (w':World) (tb:Nat):Prop where
 ex:∃n₀ kb adT capT gN capN R E,n₀<=tb/\FcM w' n₀ tb kb N tws pg adT capT gN capN k4/\TbV w' tb adT N.nT capT gN N.nN capN kb R E/\(∀m,m<20->E m<=939524097)/\((∀r∈N.rules,FA (emP k4) r.2=false)->E=fun _=>0)/\
  ∀(m:Nat) (nm':Nm),pg[m]?=some nm'->∀t,t<21->IY (EX k4 pg m) nm'.2.length (R m) t
theorem qN (s:ByteArray) (w:World) (N:NG) (tws:List ByteArray) (pg:List Nm) (hT:TabAt 0 Lib.deBruijn32tab w) (hN:N.Ok) (C:List Fa->List Fa->List Fa->Prop)
  (hlen:∀(n:Nat) (nm:Nm) (r:Nat) (ps:List Pt),pg[n]?=some nm->nm.2[r]?=some ps->ps.length<=8/\AY N ps)
  (hS:∀W,Below w.heap.size w W->Calls Tryz.prog 22 #[.string s] W fun e w'=>Below W.heap.size W w'/\∃k2 k3 k4 n₀ kb adT capT gN capN,C k2 k3 k4/\I4 N k2 k3/\F9 N k3 k4/\e=.returned (.tuple #[.agg #[.slice adT N.nT capT,ae gN N.nN capN,ae kb N.nN N.nN],.string ByteArray.empty,ab 0])/\n₀<=kb/\W.heap.size<=n₀/\PGr w' n₀ N tws pg adT capT gN capN/\KnV w' kb N.nN k4):
  Calls Tryz.prog 16 #[.string s] w fun e w'=>Below w.heap.size w w'/\∃k2 k3 k4,C k2 k3 k4/\
   ((∃(n q r t:Nat) (nm:Nm),e=.returned (.tuple #[.pointer none,.agg #[.string nm.1,ab q,ab r,.string (CX tws N.nT t)],ab 9])/\pg[n]?=some nm/\q<r/\r<nm.2.length/\t<=N.nT/\(EX k4 pg n q).testBit t=true/\(EX k4 pg n r).testBit t=true/\
     ∃R:Nat->Nat->Int,∀m,m<n->∀nm':Nm,pg[m]?=some nm'->∀t,t<21->IY (EX k4 pg m) nm'.2.length (R m) t)\/
    (∃tb,e=.returned (.tuple #[ac tb,.agg #[.string ByteArray.empty,ab 0,ab 0,.string ByteArray.empty],ab 0])/\kA N tws pg k4 w' tb)):=by
 have HS:=hid hS;have HT:=hid hT;have HNO:=hid hN;have HL:=hid hlen;have htl:0<w.heap.size:=World.block_lt_of_cell? _ _ (hT 0 (by decide));clear hS hT hN hlen
 go_enter Tryz.func16,Tryz.ntmps16
 go_upto_region 4 with(go_at_call 22;refine(HS.out _ (bal (Below.refl _ _))).mono ?_;rintro e w1 ⟨hb1,k2,k3,k4,n₀,kb,adT,capT,gN,capN,hC,hi3,hi4,rfl,hn0,hwn,hP,hK⟩;rw[World.size_alloc]at hb1 hwn;have Z1:w1.heap[w.heap.size]?=some (.cells #[.string ⟨#[]⟩,ab 0,ab 0,.string ⟨#[]⟩] 56 (0,0)):=(hb1.block w.heap.size (by omega)).trans (World.alloc_heap_new w _);have HB1:Hid (Below w.heap.size w w1):=hid ((bal (Below.refl _ _)).trans (hb1.mono (by omega)));have HZ1:=hid Z1;have hwl:w.heap.size<w1.heap.size:=lt_of_block Z1;have HX:=hid (And.intro hn0 (And.intro hwn (And.intro hP hK)));have HI:=hid (And.intro hC (And.intro hi3 hi4));clear hb1 Z1 hn0 hwn hP hK hC hi3 hi4)
 refine wp_region_lit ?_
 go_step
 go_step
 go_step
 obtain⟨cs,hcs⟩:=qF ((Value.slice adT N.nT capT:: ae gN N.nN capN:: ae kb N.nN N.nN::List.replicate 440 (ab 0)).toArray);refine aQ rfl 79 #[(0,.tmp 22)] rfl [(0,.agg #[.slice adT N.nT capT,ae gN N.nN capN,ae kb N.nN N.nN])] ?_ cs (by rw[hcs];exact dM _ _ _) ?_
 ·simp only[List.map_toArray,List.map_cons,List.map_nil]
  go_simp
 have HCS:=hid (uF _ _ _ cs hcs);clear hcs
 try simp only[Act.put,List.setIfInBounds_toArray,List.set_cons_zero,List.set_cons_succ]
 obtain⟨W1,hW1⟩:=qE (w1.alloc (.cells #[.slice adT N.nT capT,ae gN N.nN capN,ae kb N.nN N.nN] 72));rw[hW1];have HBW1:Hid (Below w1.heap.size w1 W1):=hid (by rw[<-hW1];exact bal (Below.refl _ _));have hs1:w1.heap.size<W1.heap.size:=by rw[<-hW1,World.size_alloc];omega
 clear hW1;have hkl:=HX.out.2.2.2.lt;have hTB:=wS W1 adT N.nT capT gN N.nN capN kb cs HCS.out.1 HCS.out.2.1 HCS.out.2.2.1 HCS.out.2.2.2.1 HCS.out.2.2.2.2;have hFX:FcM (W1.alloc (.cells cs 79)) n₀ W1.heap.size kb N tws pg adT capT gN capN k4:=
  {gr:=(HX.out.2.2.1.below (HBW1.out.mono (by have:=HX.out.1;omega))).below ((Below.refl n₀ W1).alloc (by have:=HX.out.1;omega) _),n0:=HX.out.1,ne:=by omega,lf:=hTB.lt,f0:=hTB.heads.1,f1:=hTB.heads.2.1,f2:=hTB.heads.2.2,kn:=(HX.out.2.2.2.keeps (A1.of_below HBW1.out []) (by simp)).keeps ((A1.refl W1 []).alloc _) (by simp)}
 have hfb:=gL HNO.out HI.out.2.1;have hwb:Below w.heap.size w (W1.alloc (.cells cs 79)):=bal (HB1.out.trans (HBW1.out.mono (by omega)));have hn0t:n₀<=W1.heap.size:=by have:=HX.out.1;omega
 have HFI:=hid (oK (W1.alloc (.cells cs 79)) n₀ W1.heap.size kb N tws pg adT capT gN capN k4 _ _ hFX hTB (fun n=>by rw[HI.out.2.2.fh];exact HI.out.2.1.lt n) (fun n=>HI.out.2.2.lt n) (TabAt.below HT.out hwb htl) (by have:=HX.out.2.1;omega) hn0t HL.out
  (fun n nm r hn hr t ht=>by
   rcases Nat.lt_or_ge N.nT t with h2 |h2
   ·exfalso
    obtain⟨ps,hps⟩:∃ps,nm.2[r]?=some ps:=⟨_,gE hr⟩;have h1:=LE ht;rw[RQ k4 hn hps,JP]at h1;have e1:(fun n=>(AL k4 n).testBit t)=fun _=>false:=by funext m;rw[HI.out.2.2.fh];exact hfb m t (by omega)
    rw[e1,NB (by omega) ps (HL.out n nm r ps hn hps).2,eA HNO.out hfb HI.out.2.2 n t h2]at h1;simp at h1
   ·exact h2))
 have HFX:=hid hFX;have HWB:=hid hwb;clear hTB hFX hwb hfb HT HX HCS
 go_upto_region 6 with(go_at_call 23;refine HFI.out.mono ?_;rintro e w3 ⟨pn,pr,po,pt,fd,R,rfl,hv3,hk3,h3t,h3f⟩;have HV3:=hid hv3;have HK3:=hid hk3;have H3:=hid (And.intro h3t h3f);have hs3:=hk3.size;rw[World.size_alloc]at hs3;clear hv3 hk3 h3t h3f)
 have hW1w:w.heap.size<W1.heap.size:=by omega
 have Z3:w3.heap[w.heap.size]?=some (.cells #[.string ⟨#[]⟩,ab 0,ab 0,.string ⟨#[]⟩] 56 (0,0)):=(HK3.out.block _ y5Z y2Z).trans ((Below.heap_alloc _ _ _ hW1w).trans ((HBW1.out.block _ hwl).trans HZ1.out));have hlw3:=lt_of_block Z3;obtain⟨W4,hW4⟩:=qE (w3.alloc (.cells #[.string pn,ab pr,ab po,.string pt] 56));have Z4:W4.heap[w.heap.size]?=some (.cells #[.string ⟨#[]⟩,ab 0,ab 0,.string ⟨#[]⟩] 56 (0,0)):=by rw[<-hW4];exact(Below.heap_alloc _ _ _ hlw3).trans Z3
 have Y4:W4.heap[w3.heap.size]?=some (.cells #[.string pn,ab pr,ab po,.string pt] 56 (0,0)):=by rw[<-hW4];exact World.alloc_heap_new w3 _
 have HK4:Hid (A1 w3 W4 []):=hid (by rw[<-hW4];exact(A1.refl w3 []).alloc _);rw[hW4];have hl4:w3.heap.size<W4.heap.size:=lt_of_block Y4;have HBW4:Hid (Below w.heap.size w W4):=hid (HWB.out.trans (((HK3.out.below (B:=w.heap.size) y5Z (fun q hq=>by have:=mS.1 hq;omega)).trans (HK4.out.below (by omega) (fun q hq=>by cases hq)))));have HV4:=hid (HV3.out.keeps HK4.out (by simp));have HZ4:=hid Z4;clear hW4 Z3 HV3 HZ1 HB1 HWB HBW1 HFI;cases fd
 ·have hszW1:W1.heap.size<w3.heap.size:=by omega
  have XF4:FcM W4 n₀ W1.heap.size kb N tws pg adT capT gN capN k4:=HFX.out.tab (S:=[W1.heap.size]) (fun q hq=>by have:=mS.1 hq;subst this;exact⟨hn0t,HFX.out.ne⟩) (HK3.out.trans (HK4.out.mono (fun q hq=>by cases hq))) HV4.out;have HME:=hid (eH W4 n₀ W1.heap.size kb N tws pg adT capT gN capN k4 _ _ XF4 HV4.out (fun n=>by rw[HI.out.2.2.fh];exact HI.out.2.1.lt n) hn0t (fun m hm=>by decide) (fun r hr=>by
   obtain⟨n,nm,hn,i,hi⟩:=lK XF4.gr hr;exact HL.out n nm i r.2 hn hi))
  have HXF:=hid XF4;clear XF4 Y4 Z4
  go_wp2_with (go_at_call 24;refine HME.out.mono ?_;rintro e w5 ⟨rfl,hk5,E',hE1,hE2,hv5⟩;have HK5:=hid hk5;have HV5:=hid (And.intro hE1 (And.intro hE2 hv5));have Z5:=(hk5.block w.heap.size (by omega) y2Z).trans HZ4.out;have g0:w5.cell? (af w.heap.size 0)=some (.string ⟨#[]⟩):=A0 Z5;have g1:w5.cell? (af w.heap.size 1)=some (ab 0):=A0 Z5;have g2:w5.cell? (af w.heap.size 2)=some (ab 0):=A0 Z5;have g3:w5.cell? (af w.heap.size 3)=some (.string ⟨#[]⟩):=A0 Z5;have q0:w5.frozen? (af w.heap.size 0)=false:=A3 Z5;have q1:w5.frozen? (af w.heap.size 1)=false:=A3 Z5;have q2:w5.frozen? (af w.heap.size 2)=false:=A3 Z5;have q3:w5.frozen? (af w.heap.size 3)=false:=A3 Z5;have hl5:w.heap.size<w5.heap.size:=lt_of_block Z5;have HZ5:=hid Z5;clear hk5 hE1 hE2 hv5 Z5)
  have hrow:=A5 (j:=3) (A5 (j:=2) (A5 (j:=1) (A5 (j:=0) HZ5.out (.string ⟨#[]⟩)) (ab 0)) (ab 0)) (.string ⟨#[]⟩);have hk6:A1 w5 ((((w5.setCell (af w.heap.size 0) (.string ⟨#[]⟩)).setCell (af w.heap.size 1) (ab 0)).setCell (af w.heap.size 2) (ab 0)).setCell (af w.heap.size 3) (.string ⟨#[]⟩)) [w.heap.size]:=((((A1.refl w5 [w.heap.size]).setCell (by simp) _).setCell (by simp) _).setCell (by simp) _).setCell (by simp) _;have hv6:=HV5.out.2.2.keeps hk6 y2Z;have hbk:Below w.heap.size W4 ((((w5.setCell (af w.heap.size 0) (.string ⟨#[]⟩)).setCell (af w.heap.size 1) (ab 0)).setCell (af w.heap.size 2) (ab 0)).setCell (af w.heap.size 3) (.string ⟨#[]⟩)):=(HK5.out.below (by omega) (fun q hq=>by have:=mS.1 hq;omega)).trans (hk6.below (by omega) (fun q hq=>by have:=mS.1 hq;omega));refine⟨rfl,_,SF (p:=3) (t:=2) (u:=4) (ty:=56) rfl _ _ w.heap.size _ _ _ _ rfl hrow Tryz.underlying56 rfl y1Z,?_⟩
  refine⟨HBW4.out.trans hbk,k2,k3,k4,HI.out.1,.inr ⟨W1.heap.size,rfl,⟨n₀,kb,adT,capT,gN,capN,R,E',hn0t,?_,hv6,HV5.out.1,HV5.out.2.1,fun m nm' hm t ht=>H3.out.2 (by simp) m nm' hm t ht⟩⟩⟩;exact HXF.out.pair HZ4.out hn0t ((HK5.out.mono (fun q hq=>by have:=mS.1 hq;simp[this])).trans (hk6.mono (fun q hq=>by have:=mS.1 hq;simp[this]))) hv6
 ·have g0:W4.cell? (af w.heap.size 0)=some (.string ⟨#[]⟩):=A0 Z4
  have g1:W4.cell? (af w.heap.size 1)=some (ab 0):=A0 Z4;have g2:W4.cell? (af w.heap.size 2)=some (ab 0):=A0 Z4;have g3:W4.cell? (af w.heap.size 3)=some (.string ⟨#[]⟩):=A0 Z4;have q0:W4.frozen? (af w.heap.size 0)=false:=A3 Z4;have q1:W4.frozen? (af w.heap.size 1)=false:=A3 Z4;have q2:W4.frozen? (af w.heap.size 2)=false:=A3 Z4;have q3:W4.frozen? (af w.heap.size 3)=false:=A3 Z4;have d0:W4.cell? (af w3.heap.size 0)=some (.string pn):=A0 Y4;have d1:W4.cell? (af w3.heap.size 1)=some (ab pr):=A0 Y4;have d2:W4.cell? (af w3.heap.size 2)=some (ab po):=A0 Y4;have d3:W4.cell? (af w3.heap.size 3)=some (.string pt):=A0 Y4;have hl5:w.heap.size<W4.heap.size:=lt_of_block Z4;clear Z4 Y4;go_wp2;have hne3:w3.heap.size∉ [w.heap.size]:=by simp;omega
  have HSS:∀w',A1 W4 w' [w.heap.size]->(w'.cell? (af w3.heap.size 0)=some (.string pn)/\w'.cell? (af w3.heap.size 1)=some (ab pr)/\w'.cell? (af w3.heap.size 2)=some (ab po)/\w'.cell? (af w3.heap.size 3)=some (.string pt))/\Hid (A1 W4 w' [w.heap.size]):=fun w' hk=>⟨⟨(hk.cell (by exact hl4) hne3).trans d0,(hk.cell (by exact hl4) hne3).trans d1,(hk.cell (by exact hl4) hne3).trans d2,(hk.cell (by exact hl4) hne3).trans d3⟩,hid hk⟩
  have HSH:=hid HSS;clear HSS;refine wp_region_held_drew (S:=fun w'=>(w'.cell? (af w3.heap.size 0)=some (.string pn)/\w'.cell? (af w3.heap.size 1)=some (ab pr)/\w'.cell? (af w3.heap.size 2)=some (ab po)/\w'.cell? (af w3.heap.size 3)=some (.string pt))/\Hid (A1 W4 w' [w.heap.size])) y1Z (HSH.out _ (A1.refl _ _).drew) (fun hH=>?_);refine tB 0 hH ?_;refine tB 1 hH ?_;refine tL ?_;refine tS 2 fun K hK=>?_
  refine tM ?_;go_simp;refine hK.out _ _ ?_ fun hH=>?_
  ·exact HSH.out _ ((((hH.2.out.setCell (by simp) _).setCell (by simp) _).setCell (by simp) _).setCell (by simp) _)
  clear hK K;refine tB 3 hH ?_;refine tL ?_;refine wpAnyH_done y1Z ?_ _;have HKE:=hid hH.2.out;clear hH g0 g1 g2 g3 q0 q1 q2 q3 d0 d1 d2 d3;go_wp2;have hrow:=A5 (j:=3) (A5 (j:=2) (A5 (j:=1) (A5 (j:=0) HZ4.out (.string pn)) (ab pr)) (ab po)) (.string pt);obtain⟨n,q,r,t,nm,rfl,rfl,rfl,rfl,h3⟩:=H3.out.1 (by simp);refine⟨rfl,_,SF (p:=3) (t:=2) (u:=4) (ty:=56) rfl _ _ w.heap.size _ _ _ _ rfl hrow Tryz.underlying56 rfl y1Z,?_⟩;refine⟨HBW4.out.trans (HKE.out.below (by omega) (fun q hq=>by have:=mS.1 hq;omega)),k2,k3,k4,HI.out.1,.inl ⟨n,q,r,t,nm,rfl,h3.1,h3.2.1,h3.2.2.1,h3.2.2.2.1,h3.2.2.2.2.1,h3.2.2.2.2.2.1,R,h3.2.2.2.2.2.2⟩⟩
end
theorem Mz29 {P:Prop} (h:P:=by
  rw[hd]at HC;clear hd hz
  go_enter Tryz.func109,Tryz.ntmps109
  go_wp2_with (go_at_call 128;refine HC.out.mono ?_;rintro e w2 ⟨rfl,hb⟩;have HB:=hid hb;clear hb)
  go_ret;exact⟨rfl,HB.out⟩):P:=h
theorem QL {wb:Nat} (hP:PGr w n₀ N tws pg adT capT gN capN) (h0:n₀<=w.heap.size)
  (hV:TbV w tb adT N.nT capT gN N.nN capN kb R E) (hw:w.cell? (af wb 0)=some (ac tb)) (t u:Nat) (ht:t<N.nT) (hu:u<N.nT):
  Calls Tryz.prog 109 #[ac wb,ab t,ab u] w fun e w'=>e=.returned (ab (FC N t u))/\Below w.heap.size w w':=by
 by_cases he:t=u
 ·have hi:((t:Int)==(u:Int))=true:=by rw[beq_iff_eq];omega
  have hk:FC N t u=0:=by unfold FC JY;simp[he]
  rw[hk];clear hP hV he ht hu hk h0
  go_enter Tryz.func109,Tryz.ntmps109
  go_wp2;go_ret;exact⟨rfl,Below.refl _ _⟩
 ·have hi:((t:Int)==(u:Int))=false:=by rw[beq_eq_false_iff_ne];omega
  obtain⟨c4,c5,_⟩:=hV.heads;have CS:=ZZ hP h0 t u ht hu;obtain⟨nN,hn1⟩:=qF (N.nN);obtain⟨nT,hn2⟩:=qF (N.nT);have hk:FC N t u=if 0<N.swp t u then N.swp t u else 1048576:=by
   unfold FC JY AB;rw[if_neg he]
   by_cases h:N.swp t u=0
   ·rw[if_pos h,if_neg (by omega)];rfl
   ·rw[if_neg h,if_pos (by omega)];rfl
  rw[hk];obtain⟨s,hs⟩:=qF (N.swp t u);rw[<-hn1,<-hn2,<-hs]at CS;rw[<-hn2]at c4;rw[<-hn1]at c5;rw[<-hs];have HC:=hid CS;clear hP hV he ht hu hk h0 hs hn1 hn2 CS
  by_cases hz:0<s
  ·have hd:decide (0<s)=true:=decide_eq_true hz
   rw[if_pos hz];exact Mz29
  ·have hd:decide (0<s)=false:=decide_eq_false hz
   rw[if_neg hz];exact Mz29
theorem NJ (u v:Value) (w:World):
  Calls Tryz.prog 34 #[.agg #[u,v]] w fun e w'=>e=.returned (.agg #[.bool true,ab 0])/\Below w.heap.size w w':=by
 go_enter Tryz.func34,Tryz.ntmps34
 go_wp2;refine⟨rfl,_,FV (p:=2) (ty:=105) rfl _ _ (w.heap.size+1) _ _ _ _ rfl (P2 w _ _ _ _) Tryz.underlying105 rfl y1Z,?_⟩;exact⟨rfl,(IE w _).alloc y5Z _⟩
theorem YV {nT nN:Nat} (h:TbV w tb adT nT capT gN nN capN kb R E) (n:Nat) (hn:n<20):
  Calls Tryz.prog 91 #[ac tb,ab n] w fun e w'=>e=.returned (ab (E n))/\w=w':=by
 have h1:w.cell? (af tb (423+n))=some (ab (E n)):=by
  obtain⟨cs,h1,_,_,_,_,_,h2⟩:=h;exact(A0 h1).trans (h2 n hn)
 clear h
 go_enter Tryz.func91,Tryz.ntmps91
 go_wp2;go_ret;exact⟨rfl,rfl⟩
theorem QG (b x y:Nat) (hx:x<=939524097) (hy:y<=939524097) (w:World) (h:w.cell? (af b 2)=some (ab x)) (hf:w.frozen? (af b 2)=false):
  Calls Tryz.prog 55 #[ac b,ab y] w fun e w'=>e=.returned (.tuple #[])/\w'=w.setCell (af b 2) (ab (DJ x y)):=by
 have CA:Hid (∀W,Calls Tryz.prog 77 #[ab x,ab y] W fun e w'=>e=.returned (ab (DJ x y))/\W=w'):=hid fun W=>N7 x y hx hy W
 go_enter Tryz.func55,Tryz.ntmps55
 go_wp2_with (go_at_call 77;refine(CA.out _).mono ?_;rintro e w' ⟨rfl,rfl⟩)
 exact⟨rfl,_,results_none rfl _ _ _,rfl,rfl⟩
theorem cY  (hP:PGr w n₀ N tws pg adT capT gN capN)
  (hV:TbV w tb adT N.nT capT gN N.nN capN kb R E) (n t q:Nat) (ht:t<21) (nm:Nm) (ps:List Pt) (hn:pg[n]?=some nm) (hnN:n<N.nN) (hR:R n t=(q:Int)) (hr:nm.2[q]?=some ps):
  Calls Tryz.prog 58 #[ac tb,ab n,ab t] w fun e w'=>∃v,e=.returned (.tuple #[v,ab q])/\C0 w n₀ v ps/\w=w':=by
 have hn20:=hP.leN;obtain⟨_,v,c1,gR,capR,rfl,hgR,hcR,hrl⟩:=hP.names n nm hn;obtain⟨p,c2,hp⟩:=hrl q ps hr;have c3:=hV.row (n:=n) (t:=t) (by omega) ht;rw[hR]at c3;obtain⟨_,c4,_⟩:=hV.heads;have HP:=hid hp;have hqL:=(gS_.1 hr).1;obtain⟨nL,hnL⟩:=qF (nm.2.length);rw[<-hnL]at c1 hcR hqL;obtain⟨nN,hn1⟩:=qF (N.nN);rw[<-hn1]at c4 hn20 hnN;obtain⟨ad,cap,rfl,_,_⟩:=hp;clear hP hV hrl hn hr hnL hn1 hR
 go_enter Tryz.func58,Tryz.ntmps58
 go_wp2
 go_ret2
 exact⟨_,rfl,HP.out,rfl⟩
theorem jV (s t:Nat) (hs:s<2097152) (ht:t<=20) (w:World):
  Calls Tryz.prog 116 #[.int .u32 s,ab t] w fun e w'=>e=.returned (.bool (s.testBit t))/\w=w':=by
 obtain⟨x,hx⟩:∃x:Nat,x=1<<<t:=⟨_,rfl⟩;have CO:Hid (∀W,Calls Tryz.prog 71 #[ab t] W fun e w'=>e=.returned (.int .u32 (x:Int))/\W=w'):=hid fun W=>by rw[hx];exact TF W t ht
 have HX:=hid hx;clear hx
 go_enter Tryz.func116,Tryz.ntmps116
 go_wp2_with (go_at_call 71;refine(CO.out _).mono ?_;rintro e w2 ⟨rfl,rfl⟩)
 go_ret;have hx32:x<4294967296:=by
  rw[HX.out,Nat.one_shiftLeft];exact Nat.lt_of_le_of_lt (Nat.pow_le_pow_right (by omega) ht) (by decide)
 have hA:((((s&&& x:Nat):Int)) !=0)=s.testBit t:=by
  rw[HX.out,Nat.one_shiftLeft]
  by_cases hb:s.testBit t=true
  ·have h1:(s&&& 2 ^t).testBit t=true:=by rw[Nat.testBit_and,hb,Nat.testBit_two_pow_self];rfl
   have h2:s&&& 2 ^t≠0:=fun e=>by rw[e]at h1;simp at h1
   obtain⟨z,hz⟩:=qF (s&&& 2 ^t);rw[hb,<-hz];rw[<-hz]at h2;simpa using h2
  ·have hb':s.testBit t=false:=by simpa using hb
   have h1:s&&& 2 ^t=0:=Nat.eq_of_testBit_eq fun i=>by
    rw[Nat.testBit_and,Nat.testBit_two_pow,Nat.zero_testBit]
    by_cases e:t=i
    ·subst e;rw[hb'];rfl
    ·simp[e]
   rw[h1,hb'];rfl
 refine⟨?_,rfl⟩;show Ending.returned (Value.bool (bits .and .u32 (s:Int) (x:Int) !=0))=_;rw[u32_and_nat s x (by omega) hx32,hA]
theorem ST {fb:Nat}{k:List Fa} (h:FcM w n₀ fb kb N tws pg adT capT gN capN k) (hfh:∀n,AL k n<2 ^21)
  (n t:Nat) (hn:n<N.nN) (ht:t<=20):
  Calls Tryz.prog 90 #[ac fb,ab n,ab t] w fun e w'=>e=.returned (.bool ((AL k n).testBit t))/\w=w':=by
 obtain⟨a,ha⟩:∃a,k[n]?=some a:=⟨_,gE (by rw[h.kn.1];exact hn)⟩;obtain⟨c0,c1,c2,c3⟩:=h.kn.cells ha;have hn20:=h.gr.leN;have f2:=h.f2;have hf:=hfh n;rw[jO ha]at hf ⊢;have CH:Hid (∀W,Calls Tryz.prog 116 #[.int .u32 a.first,ab t] W fun e w'=>e=.returned (.bool (a.first.testBit t))/\W=w'):=hid fun W=>jV a.first t (by omega) ht W
 obtain⟨nN,hn1⟩:=qF (N.nN);rw[<-hn1]at f2 hn20 hn;clear h hfh ha hn1 hf
 go_enter Tryz.func90,Tryz.ntmps90
 go_wp2_with (go_at_call 116;refine(CH.out _).mono ?_;rintro e w2 ⟨rfl,rfl⟩)
 go_ret;exact⟨rfl,rfl⟩
theorem oF  (hP:PGr w n₀ N tws pg adT capT gN capN) (h0:n₀<=w.heap.size) (n:Nat) (nm:Nm) (hn:pg[n]?=some nm) (hnN:n<N.nN):
  Calls Tryz.prog 57 #[.agg #[.slice adT N.nT capT,ae gN N.nN capN],.agg #[.bool true,ab n]] w fun e w'=>e=.returned (.string nm.1)/\Below w.heap.size w w':=by
 have hn20:=hP.leN;obtain⟨c1,_⟩:=hP.names n nm hn;have hgN:gN<w.heap.size:=lL hP.hgN h0;obtain⟨nN,hn1⟩:=qF (N.nN);obtain⟨nT,hn2⟩:=qF (N.nT);obtain⟨s,hs⟩:=qF (nm.1);rw[<-hs]at c1 ⊢;rw[<-hn1]at hn20 hnN ⊢;rw[<-hn2];clear hP hn hn1 hn2 hs h0
 go_enter Tryz.func57,Tryz.ntmps57
 go_wp2;go_ret;exact⟨rfl,(IE w _).alloc y5Z _⟩
theorem l8  (hP:PGr w n₀ N tws pg adT capT gN capN) (h0:n₀<=w.heap.size) (t:Nat) (ht:t<N.nT):
  Calls Tryz.prog 57 #[.agg #[.slice adT N.nT capT,ae gN N.nN capN],.agg #[.bool false,ab t]] w fun e w'=>e=.returned (.string (nth tws t))/\Below w.heap.size w w':=by
 have hn20:=hP.leT;obtain⟨gT,rfl,hgT,c1,_⟩:=hP.toks t ht;have hgT:gT<w.heap.size:=lL hgT h0;obtain⟨nN,hn1⟩:=qF (N.nN);obtain⟨nT,hn2⟩:=qF (N.nT);obtain⟨s,hs⟩:=qF (nth tws t);rw[<-hs]at c1 ⊢;rw[<-hn2]at hn20 ht ⊢;rw[<-hn1];clear hP hn1 hn2 hs h0
 go_enter Tryz.func57,Tryz.ntmps57
 go_wp2;go_ret;exact⟨rfl,(IE w _).alloc y5Z _⟩
end Go.Proofs.YtjjggdcnpndgjabGreatDoor
