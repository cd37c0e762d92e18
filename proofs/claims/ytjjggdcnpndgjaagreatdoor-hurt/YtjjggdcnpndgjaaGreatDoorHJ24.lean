import Derived.Test.YtjjggdcnpndgjaaGreatDoorHJ23
import Derived.Laws.Tables
set_option linter.unusedSimpArgs false
set_option maxHeartbeats 4000000
set_option maxRecDepth 100000
namespace Go.Proofs.YtjjggdcnpndgjaaGreatDoor
open Go.RowKit Go.Shelf
variable {E:Nat->Nat}{N:NG}{R:Nat->Nat->Int}{yu:Option Addr}{xY yl gN kb n₀ tb:Nat}{pg:List Nm}{yL:List ByteArray}{v:Value}{w:World}
section
attribute [local go_sem] Oper.semAt_some
theorem eJ (w:World) (n₀ tb kb:Nat) (N:NG) (yL:List ByteArray) (pg:List Nm) (yu:Option Addr) (yl gN xY:Nat) (k:List Fa) (R:Nat->Nat->Int) (E:Nat->Nat) (h:zK w n₀ tb kb N yL pg yu yl gN xY k) (hv:zH w tb yu N.nT yl gN N.nN xY kb R E) (Bi:∀n,AL k n<2 ^21)
  (htb:n₀<=tb) (hE:∀m,m<20->E m<=939524097) (hlen:∀r∈N.rules,r.2.length<=8/\B3 N r.2):
  Calls Tryz.prog 82 #[ac tb] w λe w'=>e=.returned (.tuple #[])/\A1 w w' [tb]/\∃E',(∀m,m<20->E' m<=939524097)/\((∀r∈N.rules,FE (zT k) r.2=false)->E'=E)/\zH w' tb yu N.nT yl gN N.nN xY kb R E':=by
 have H:=hid h;have HV0:=hid hv;have Ey:=hid hE;have HL:=hid hlen;have HF:Hid (∀n,AL k n<2 ^21):=hid Bi;have aa3:=h.gr.Bt;have Cj:=h.gr.Aj;have Pm:=h.gr.lN;have Dn:=h.ln;have Nh:=hv.lt;have f1:=h.f1;have hnk:tb≠kb:=h.ne;clear h hv hlen Bi hE;obtain⟨nN,yY⟩:=qF (N.nN);rw[<-yY]at f1 HV0 aa3 Pm ⊢;have Ec:Hid (nN=N.nN):=hid yY;clear yY;refine(mq (n:=4)).1 ?_;refine qg Tryz.func82 rfl trivial ?_ rfl;simp only[Tryz.ntmps82,iz,lC,iw,Nat.reduceAdd,Nat.reduceSub,jg,jh,ju,jo,eu,ig];refine wpIn_seq ?_
 gi_wp2
 obtain⟨W1,hW1⟩:=qE (w.alloc (.cells #[ac tb] 107));rw[hW1];have Aa:Hid (A1 w W1 []):=hid (by rw[<-hW1];exact(A1.refl w []).alloc _);have hb0:W1.heap[w.heap.size]?=some (.cells #[ac tb] 107 (0,0)):=by rw[<-hW1];exact ay w _
 have c0:W1.cell? (af w.heap.size 0)=some (ac tb):=A0 hb0;have c1:W1.cell? (af tb 1)=some (ae gN nN xY):=(Aa.out.cell (by exact Nh) (by simp)).trans f1;have HB:=hid hb0;clear hb0 hW1 f1
 gi_wp2
 refine yq (λg a W=>∃(u:Nat->Value) (Ds:List Nat) (i:Nat) (E1:Nat->Nat),
   a= {tmps:= #[ac tb,ac w.heap.size,u 2,u 3,u 4,u 5,u 6,u 7,u 8,ae gN nN xY,ab nN,ab i,u 12,u 13,u 14,u 15,u 16,u 17,u 18,u 19,u 20,u 21,u 22,u 23,u 24,u 25,u 26,u 27,u 28,u 29,u 30,u 31,u 32,u 33,u 34],defers:=V9 Ds}/\
   g=nN - i/\i<=nN/\zH W tb yu N.nT yl gN nN xY kb R E1/\A1 w W [tb]/\W.heap[w.heap.size]?=some (.cells #[ac tb] 107 (0,0))/\DX w Ds W/\(∀m,m<20->E1 m<=939524097)/\((∀r∈N.rules,FE (zT k) r.2=false)->E1=E)) nN ?start ?round
 case start=>
  exact⟨RX #[undef,undef,_,_,_,_,_,_,_,undef,undef,undef,_,_,_,_,_,_,_,_,_,_,_,_,_,_,_,_,_,_,_,_,_,_,_] #[],[],0,E,rfl,rfl,bu _,HV0.out.keeps Aa.out (by simp),Aa.out.mono (λq hq=>by cases hq),HB.out,⟨List.nodup_nil,λD hD=>by cases hD⟩,Ey.out,λ_=>rfl⟩
 case round=>
  rintro g a W ⟨u,Ds,i,E1,rfl,rfl,hi,Qa,hW,bx0,hM,hEb,hEs⟩;have Xd:=hid Qa;have HW:Hid (A1 w W [tb]):=hid hW;have HM:Hid (DX w Ds W):=hid hM;have Nx:=hid bx0;have HEB:=hid (And.intro hEb hEs);have hl0:=ak bx0;have htW:tb<W.heap.size:=by omega
  clear HB Aa c1 c0 hEb hEs hM hW Ey
  by_cases hlt:i<nN
  ·have c0:W.cell? (af w.heap.size 0)=some (ac tb):=A0 bx0
   obtain⟨Xg,Xh,_⟩:=Qa.Ar;clear bx0 Qa
   gi_wp2_with (refine⟨trivial,?_⟩;gi_at_call 130;refine(U0 Fence.wide 3 trivial rfl _ _ _ _ _ _ _).mono ?_;rintro e W2 ⟨rfl,rfl⟩)
   obtain⟨W0,hW0⟩:=qE (W.alloc (.cells #[.slice yu N.nT yl,ae gN nN xY] 135));rw[hW0];have hs0:W.heap.size<W0.heap.size:=by rw[<-hW0,bg];omega
   have Tp:W0.cell? (af W.heap.size 1)=some (ae gN N.nN xY):=by rw[<-hW0,<-Ec.out];exact BF W _ _ 1
   have Ug:Hid (A1 W W0 []):=hid (by rw[<-hW0];exact(A1.refl W []).alloc _);have Gt:Hid (A1 w W0 [tb]):=hid (HW.out.trans (Ug.out.mono (λq hq=>by cases hq)));have HM0:Hid (DX w Ds W0):=hid (HM.out.keeps Ug.out (λq hq=>by cases hq));have zv:=hid ((Ug.out.block _ hl0 (by simp)).trans Nx.out);have Fx:=hid (Xd.out.keeps Ug.out (by simp));have Tq:w.heap.size<W0.heap.size:=by omega
   clear hW0 c0 Xg Xh;refine wm (F:=Fence.wide) rfl (by omega) (gf:=183) (lb:= #[ac W.heap.size]) rfl trivial (qo Tryz.func183 yg rfl)
    (NU Fence.wide 3 trivial rfl (by omega) W.heap.size n₀ N yL pg yu yl gN xY w W0 H.out.gr (Gt.out.below Dn (λq h=>by have:=mS.1 h;omega)) Dn hs0 Tp) belowK_t (xX (by omega)) (ah _ _) (λ_=>rfl)
    (fun(pre:List (RI N w n₀)) V=>∃E3,zH V tb yu N.nT yl gN nN xY kb R E3/\A1 W0 V [tb]/\(∀m,m<20->E3 m<=939524097)/\((∀r∈N.rules,FE (zT k) r.2=false)->E3=E)) (λ_ _ _=>False)
    ?own (λ_ _ _ _ _ hs _ _=>hs) ⟨E1,Fx.out,A1.refl _ _,HEB.out⟩
    (λx=>{tmps:= #[ac tb,ac w.heap.size,ab (x.1.1.1:Int),x.1.2,u 4,u 5,u 6,u 7,u 8,ae gN nN xY,ab nN,ab i,.bool true,ac tb,ac tb,ac tb,ac tb,.agg #[.slice yu N.nT yl,ae gN nN xY],.func (.func 183) #[] #[ac W.heap.size],ab (x.1.1.1:Int),x.1.2,u 21,u 22,u 23,u 24,u 25,u 26,u 27,u 28,u 29,u 30,u 31,u 32,u 33,u 34],defers:=[]}) ?assign ?body ?done ?stop
   case assign=>
    intro l x V K hK;simp only[WV]
    gi_wp2
    exact hK
   case own=>
    rintro pre A B row ⟨E3,h1,h2,h3⟩ hg hrw;have hk:A1 A B row.toList:=(A1.refl A row.toList).grown hg (λq e=>.inl Ld);exact⟨E3,h1.keeps hk (λhm=>by obtain⟨o,ho,hc⟩:=(hrw tb aaD).2;obtain⟨c,e,f,hx⟩:=h1.kind;rw[hx]at ho;cases ho;cases hc),h2.grown hg (λq e=>.inr (hrw q e).1),h3⟩
   case stop=>
    rintro D c pre V _ _ h _;exact h.elim
   case done=>
    rintro D ys V hD hys ⟨E3,h1,h2,h3,h4⟩ hd;have Uc:=hid h1;have zN:Hid (A1 w V [tb]):=hid (Gt.out.trans h2);have Ud:=hid (And.intro h3 h4);have HE4:Hid (DX w (D::Ds) V):=hid (HM0.out.cons (HM0.out.keeps h2 (λq hq=>by have:=mS.1 hq;subst this;exact Fx.out.kind)) (by omega) hD hd);have HE5:=hid ((h2.block _ Tq yM).trans zv.out);clear h1 h2 h3 h4 hd
    gi_wp2
    exact⟨nN - (i+1),by omega,RX #[undef,undef,_,_,_,_,_,_,_,undef,undef,undef,_,_,_,_,_,_,_,_,_,_,_,_,_,_,_,_,_,_,_,_,_,_,_] #[],D::Ds,i+1,E3,rfl,rfl,by omega,Uc.out,zN.out,HE5.out,HE4.out,Ud.out⟩
   case body=>
    rintro l pre ⟨⟨⟨rn,rp⟩,pv⟩,hx1,hx2⟩ V ⟨E3,h1,h2,h3,h4⟩ _;simp only at hx1 hx2 ⊢;obtain⟨Mj,hpk⟩:=HL.out _ hx1;simp only at Mj hpk;have Hq:rn<nN:=by rw[Ec.out];exact H.out.gr.ok.lt _ hx1
    have af0:rn<20:=by omega
    have ale:(rn:Int)<20:=by omega
    have adG:A1 w V [tb]:=Gt.out.trans h2;have aiu:=h2.size;have cB:V.cell? (af w.heap.size 0)=some (ac tb):=A0 ((h2.block _ Tq yM).trans zv.out);have XV:zK V n₀ tb kb N yL pg yu yl gN xY k:=H.out.tab (S:=[tb]) (λq hq=>by have:=mS.1 hq;exact⟨by omega,by omega⟩) adG (R:=R) (E:=E3) (by rw[<-Ec.out];exact h1);have hpV:C0 V n₀ pv rp:=hx2.below (adG.below Dn (λq h=>by have:=mS.1 h;omega));have Po:=hid (dF V n₀ tb kb N yL pg yu yl gN xY k XV HF.out pv rp hpV hpk Mj);have HCN:=hid (λV2 (hb2:Below V.heap.size V V2)=>WW V2.drew n₀ tb N Cj (by rw[<-Ec.out];exact aa3) (by show n₀<=V2.heap.size;have:=hb2.size;omega) (by show tb<V2.heap.size;have:=hb2.size;omega)
     (λm hm=>⟨E3 m,h3 m hm,(hb2.cell (p:=(af tb (423+m))) (by show tb<V.heap.size;omega)).trans (h1.empty hm)⟩) pv rp (hpV.below ((hb2.mono (by omega)).trans ⟨rfl,rfl,rfl,yF _,λ_ _=>rfl⟩)) hpk Mj)
    have HTV:=hid h1;have Fc:=hid h2;have Ud:=hid (And.intro h3 h4);have Ku:Hid ((rn,rp)∈N.rules):=hid hx1;have adA:w.heap.size<V.heap.size:=by omega
    have htV:tb<V.heap.size:=by omega
    clear h1 h2 h3 h4 adG XV hpV hpk
    by_cases hnu:FE (zT k) rp=true
    ·rw[hnu]at Po
     gi_wp2_with (refine⟨trivial,?_⟩;gi_at_call 131;refine(ym l ((mq (n:=1)).2 Po.out)).mono ?_;rintro e V2 ⟨rfl,hb2⟩;have yV:=hid hb2;have hs2:=hb2.size;replace cB:=(hb2.cell (p:=(af w.heap.size 0)) (by exact adA)).trans cB;clear hb2)
     have aiB:w.heap.size<V2.heap.size:=by omega
     refine GB (S:=λw'=>(w'.cell? (af w.heap.size 0)=some (ac tb))/\A1 V2 w' [tb]) hmx yg Ka ⟨cB,(A1.refl _ _).drew⟩ (λhH=>?_);refine tB 0 hH ?_;refine tB 1 hH ?_;refine tB 2 hH ?_;refine tB 3 hH ?_;refine tB 5 hH ?_;refine tB 6 hH ?_;refine tL ?_;refine tS 4 λK hK=>?_
     refine tM ?_;rw[aq (by rfl)];go_simp;refine(HCN.out V2 yV.out).mono ?_;rintro e w5 ⟨⟨x,hx,rfl⟩,yT⟩;try dsimp only;refine hK.out _ _ ?_ λhH=>?_
     ·exact⟨(yT.cell (by exact aiB)).trans hH.1,hH.2.trans (A1.yX yT _)⟩
     clear hK K;refine tL ?_;have zj:A1 V w5 []:=(A1.yX yV.out []).trans ((A1.refl V2 []).drew.trans (A1.yX yT []));have Xi:=HTV.out.keeps zj (by simp);have e0:=Xi.empty af0;have e1:=Xi.free (423+rn);have HV6:=hid (Xi.air af0 x);have Bc:A1 V (w5.setCell (af tb (423+rn)) (ab (x:Int))) [tb]:=(zj.mono (λq hq=>by cases hq)).setCell (by simp) _;have Se:=hid Bc;have hs5:=zj.size;clear yT zj Xi Bc HCN Po;refine tB 7 hH ?_;refine tL ?_;refine tS 8 λK hK=>?_
     refine tM ?_;rw[aq (by rfl)];go_simp;refine hK.out _ _ ?_ λhH=>?_
     ·exact⟨(vn _ _ _ _ (λe=>by injection e with e _ _;omega)).trans hH.1,hH.2.setCell (by simp) _⟩
     clear hK K;refine tL ?_;refine bk yg ?_ _;clear hH
     gi_wp2
     refine⟨KeepsFrom.Kk (S:=[tb]) Se.out (λq h=>by have:=mS.1 h;omega),Se.out.below (by omega) (λq h=>by have:=mS.1 h;omega),_,HV6.out,Fc.out.trans Se.out,λm hm=>?_,λhall=>?_⟩
     ·by_cases e:m=rn
      ·simp only[aq e];exact hx
      ·simp only[au e];exact Ud.out.1 m hm
     ·have h9:=hall _ Ku.out
      simp only at h9;rw[hnu]at h9;cases h9
    ·have aiC:FE (zT k) rp=false:=by simpa using hnu
     rw[aiC]at Po
     gi_wp2_with (refine⟨trivial,?_⟩;gi_at_call 131;refine(ym l ((mq (n:=1)).2 Po.out)).mono ?_;rintro e V2 ⟨rfl,hb2⟩;have yV:=hid hb2;clear hb2)
     have zj:A1 V V2 []:=A1.yX yV.out [];exact⟨KeepsFrom.Kk (S:=[]) zj (λq h=>by cases h),zj.below (by omega) (λq h=>by cases h),E3,HTV.out.keeps zj (by simp),Fc.out.trans (zj.mono (λq h=>by cases h)),Ud.out⟩
  ·have hnn:i=nN:=by omega
   subst hnn;clear bx0 Qa
   gi_wp2
   refine KW w.heap.size (λw'=>A1 w w' [tb]/\zH w' tb yu N.nT yl gN i xY kb R E1) ?_ ?_ Ds _ ⟨HW.out,Xd.out⟩ HM.out.1 (λD' Eu=>HM.out.2 D' Eu)
   ·rintro w' D' ⟨h1,h2⟩ Eu hd'
    have hg':=qa w' D' (.deferred none);have hk':A1 w' (w'.putObj D' (.deferred none)) [D']:=(A1.refl w' [D']).grown hg' (λq e=>.inl (by cases e;simp));exact⟨h1.grown hg' (λq e=>by cases e;exact .inr Eu),h2.keeps hk' (λhm=>by obtain⟨cs,e,f,hx⟩:=h2.kind;have:=mS.1 hm;subst this;rw[hd']at hx;cases hx)⟩
   ·rintro w' ⟨h1,h2⟩
    exact⟨_,ql rfl _ _ _,rfl,h1,E1,HEB.out.1,HEB.out.2,h2⟩
end
section
theorem eA (a b c:Value):Tryz.prog.built 166 [(0,.agg #[a,b,c])]=some (a::b::c::List.replicate 440 (ab 0)).toArray:=by kernel_rfl
theorem xC (w:World) (yu:Option Addr) (nT yl gN nN xY kb:Nat) (cs:Array Value) (hs:cs.size=443) (h0:cs[0]?=some (.slice yu nT yl)) (h1:cs[1]?=some (ae gN nN xY)) (h2:cs[2]?=some (ae kb nN nN)) (h3:∀j,j<440->cs[3+j]?=some (ab 0)):
  zH (w.alloc (.cells cs 166)) w.heap.size yu nT yl gN nN xY kb (λ_ _=>0) (λ_=>0):=
 ⟨cs,ay w _,hs,h0,h1,h2,λn t hn ht=>by rw[show 3+n*21+t=3+(n*21+t) by omega];exact h3 _ (by omega),λm hm=>by rw[show 423+m=3+(420+m) by omega];exact h3 _ (by omega)⟩
theorem tK (a b c:Value) (cs:Array Value) (h:cs=(a::b::c::List.replicate 440 (ab 0)).toArray):cs.size=443/\cs[0]?=some a/\cs[1]?=some b/\cs[2]?=some c/\∀j,j<440->cs[3+j]?=some (ab 0):=by
 subst h;obtain⟨l,hl⟩:=qE (List.replicate 440 (ab 0));have h1:l.length=440:=by rw[<-hl,List.length_replicate]
 have h2:∀j,j<440->l[j]?=some (ab 0):=λj hj=>by rw[<-hl,ny,aq hj]
 rw[hl];clear hl;refine⟨by simp[h1],by simp,by simp,by simp,λj hj=>?_⟩;rw[fy,show 3+j=j+1+1+1 by omega];simp only[List.getElem?_cons_succ];exact h2 j hj
theorem aE {P:Program}{ops:Array Oper}{rest:List Oper}{o:Oper}{a:Act}{Q:Exit->Act->World->Prop} (hg:o.guard=none) (t:TypeId) (parts:Array (Nat × Operand)) (ho:o.op=.build t parts)
  (vs:List (Nat × Value)) (hv:(parts.map fun(i,x)=>(i,a.eval x)).toList=vs) (cs:Array Value) (hb:P.built t vs=some cs) (h:wpList P ops Q rest (a.put o.dst (.agg cs)) w):wpList P ops Q (o::rest) a w:=
 wpList_build hg t parts ho (by rw[hv,hb];rfl) (by rw[hv,hb];exact h)
theorem SZ {P:Program}{fn:Func}{p t u:Tmp}{ty:TypeId} (h:fn.results= #[.tmp t,.cell p ty,.tmp u]) (tmps:Array Value) (w:World) (g:Nat) (t':TypeId) (cs:Array Value) (fr:Nat × Nat) (d:TypeDesc)
  (hp:tmps.getD p undef=ac g) (hg:w.heap[g]?=some (.cells cs t' fr)) (hu:P.underlying ty=some d) (hd:(match d with | .struct _ | .array _ _=>true |_=>false)=true) (hi:(P.info? ty).map (·.size)=some cs.size):
  (results fn tmps).run P w=.ok (.tuple #[tmps.getD t undef,.agg cs,tmps.getD u undef]) w:=by
 have hp':tmps[p]?.getD undef=ac g:=by simpa using hp
 simp[results,h,hp',asAddr,xK w g t' ty cs fr d hg hu hd hi,Result.andThen]
theorem tY {a b:ByteArray}{i j:Int}{k:Nat} (h:(#[Value.string a,ab i,ab j,.string b]:Array Value)[k]?=some v):(∀x y z,v≠ .slice x y z)/\(∀x,v≠ .bool x)/\(k=0->∀x y,v≠ .int x y):=by
 match k with
 |0=>simp at h;subst h;simp
 |1=>simp at h;subst h;simp
 |2=>simp at h;subst h;simp
 |3=>simp at h;subst h;simp
 |k+4=>simp at h
section
variable {w w':World}{p:Nat}{a b:ByteArray}{i j:Int}{n₀:Nat}{S:List Nat}
theorem OJ (hZ:w.heap[p]?=some (.cells #[.string a,ab i,ab j,.string b] 27 (0,0))) {g k:Nat} (hc:w.cell? (af g k)=some v) (hv:(∃x y z,v=.slice x y z)\/(∃x,v=.bool x)\/(k=0/\∃x y,v=.int x y)):g≠p:=λe=>by
 subst e;rw[A0 hZ]at hc;obtain⟨h1,h2,h3⟩:=tY hc
 rcases hv with⟨x,y,z,rfl⟩ | ⟨x,rfl⟩ | ⟨hk,x,y,rfl⟩
 ·exact h1 _ _ _ rfl
 ·exact h2 _ rfl
 ·exact h3 hk _ _ rfl
theorem C0.pair (hZ:w.heap[p]?=some (.cells #[.string a,ab i,ab j,.string b] 27 (0,0))) (hS:∀q∈S,q=p\/n₀<=q) (hk:A1 w w' S) (hn:n₀<=w.heap.size) {ps:List Pt} (h:C0 w n₀ v ps):C0 w' n₀ v ps:=by
 obtain⟨ad,cap,h1,h2,h3⟩:=h;refine⟨ad,cap,h1,h2,λh0=>?_⟩;obtain⟨g,off,h4,h5,h6⟩:=h3 h0;have hg:g∉S:=λhm=>by
  obtain⟨q,hq⟩:∃q,ps[0]?=some q:=⟨_,gE h0⟩
  rcases hS g hm with e |e
  ·exact OJ hZ (h6 0 q hq).1 (.inr (.inl ⟨_,rfl⟩)) e
  ·omega
 exact⟨g,off,h4,h5,λi q hq=>⟨(hk.cell Hj hg).trans (h6 i q hq).1,(hk.cell Hj hg).trans (h6 i q hq).2⟩⟩
theorem Ba.pair  (h:Ba w n₀ N yL pg yu yl gN xY) (hZ:w.heap[p]?=some (.cells #[.string a,ab i,ab j,.string b] 27 (0,0))) (hS:∀q∈S,q=p\/n₀<=q) (hk:A1 w w' S) (hn:n₀<=w.heap.size):Ba w' n₀ N yL pg yu yl gN xY:=by
 have hT:∀t,t<N.nT->∀gT,yu=some (af gT 0)->gT<n₀->gT∉S:=λt ht gT e hlt hm=>by
  obtain⟨gT',gs,cs,h1,h2,_,h4,_⟩:=h.Wc t ht;rw[e]at h1;injection h1 with h1
  injection h1 with h1 _ _
  subst h1
  rcases hS _ hm with e2 |e2
  ·exact OJ hZ h4 (.inl ⟨_,_,_,rfl⟩) e2
  ·omega
 refine⟨h.ok,h.Bt,h.Aj,h.Lr,h.lT,h.lN,h.twl,h.Rg,h.hgN,h.rules,λt ht=>?_,λt ht=>?_,λn nm hn'=>?_⟩
 ·obtain⟨gT,h1,h2,h3,h4⟩:=h.toks t ht
  have hg:=hT t ht gT h1 h2;exact⟨gT,h1,h2,(hk.cell abN hg).trans h3,(hk.cell abN hg).trans h4⟩
 ·obtain⟨gT,gs,cs,h1,h2,h3,h4,h5,h6,h7⟩:=h.Wc t ht
  have hg:=hT t ht gT h1 h2;have Hs:gs∉S:=λhm=>by
   rcases hS gs hm with e |e
   ·exact OJ hZ (h7 0 (by omega)) (.inr (.inr ⟨rfl,_,_,rfl⟩)) e
   ·omega
  exact⟨gT,gs,cs,h1,h2,(hk.cell abN hg).trans h3,(hk.cell abN hg).trans h4,h5,h6,λu hu=>(hk.cell (by show gs<w.heap.size;omega) Hs).trans (h7 u hu)⟩
 ·obtain⟨h1,v,h2,gR,Nw,rfl,h4,h5,h6⟩:=h.names n nm hn'
  have hgN:=h.hgN;have hg:gN∉S:=λhm=>by
   rcases hS gN hm with e |e
   ·exact OJ hZ h2 (.inl ⟨_,_,_,rfl⟩) e
   ·omega
  refine⟨(hk.cell aaz hg).trans h1,_,(hk.cell aaz hg).trans h2,gR,Nw,rfl,h4,h5,λr ps hr=>?_⟩;obtain⟨q,h7,h8⟩:=h6 r ps hr;have Mh:gR∉S:=λhm=>by
   obtain⟨ad,cap,e1,_⟩:=h8
   rcases hS gR hm with e |e
   ·exact OJ hZ h7 (.inl ⟨_,_,_,e1⟩) e
   ·omega
  exact⟨q,(hk.cell (by show gR<w.heap.size;omega) Mh).trans h7,h8.pair hZ hS hk hn⟩
theorem zK.pair {k:List Fa} (h:zK w n₀ tb kb N yL pg yu yl gN xY k) (hZ:w.heap[p]?=some (.cells #[.string a,ab i,ab j,.string b] 27 (0,0))) (htb:n₀<=tb) (hk:A1 w w' [tb,p]) (hv:zH w' tb yu N.nT yl gN N.nN xY kb R E):zK w' n₀ tb kb N yL pg yu yl gN xY k where
 gr:=h.gr.pair hZ (λq hq=>by
  simp only[bh,jy,qu]at hq
  rcases hq with rfl |rfl
  ·exact .inr htb
  ·exact .inl rfl) hk h.ln
 n0:=h.n0
 ne:=h.ne
 lf:=hv.lt
 f0:=hv.Ar.1
 f1:=hv.Ar.2.1
 f2:=hv.Ar.2.2
 kn:=h.kn.keeps hk (λhm=>by
  simp only[bh,jy,qu]at hm
  rcases hm with e |e
  ·exact h.ne e.symm
  ·obtain⟨c,hc⟩:=BI h.kn.2 (g:=kb) rfl
   exact G5 hc hZ (by decide) e)
end
theorem lK  (h:Ba w n₀ N yL pg yu yl gN xY) {r:Nat × List Pt} (hr:r∈N.rules):∃(n:Nat) (nm:Nm),pg[n]?=some nm/\∃i:Nat,nm.2[i]?=some r.2:=by
 rw[h.rules]at hr;obtain⟨x,hx,h2⟩:=ow.1 hr;obtain⟨ps,hps,rfl⟩:=cj.1 h2;have h3:=jx.1 hx;obtain⟨i,hi,e⟩:=jr.1 hps;exact⟨x.2,x.1,h3,i,yS.2 ⟨hi,e⟩⟩
theorem oR (w:World) (n₀ tb kb:Nat) (N:NG) (yL:List ByteArray) (pg:List Nm) (yu:Option Addr) (yl gN xY:Nat) (k:List Fa) (R0:Nat->Nat->Int) (E:Nat->Nat) (h:zK w n₀ tb kb N yL pg yu yl gN xY k) (hv:zH w tb yu N.nT yl gN N.nN xY kb R0 E) (Bi:∀n,AL k n<2 ^21) (hfo:∀n,B1 k n<2 ^21)
  (hT:TabAt 1 Lib.deBruijn32tab w) (h0:1<n₀) (htb:n₀<=tb)
  (hlen:∀(n:Nat) (nm:Nm) (r:Nat) (ps:List Pt),pg[n]?=some nm->nm.2[r]?=some ps->ps.length<=8/\B3 N ps)
  (ab9:∀(n:Nat) (nm:Nm) (r:Nat),pg[n]?=some nm->r<nm.2.length->∀t∈BA (F5 k pg n r),t<=N.nT):
  Calls Tryz.prog 81 #[ac tb] w λe w'=>∃pn pr po pt fd R,e=.returned (.tuple #[.agg #[.string pn,ab pr,ab po,.string pt],.bool fd])/\zH w' tb yu N.nT yl gN N.nN xY kb R E/\A1 w w' [tb]/\
   (fd=true->∃(n q r t:Nat) (nm:Nm),pn=nm.1/\pr=(q:Int)/\po=(r:Int)/\pt=CV yL N.nT t/\pg[n]?=some nm/\q<r/\r<nm.2.length/\t<=N.nT/\(F5 k pg n q).testBit t=true/\(F5 k pg n r).testBit t=true/\
     ∀m,m<n->∀nm':Nm,pg[m]?=some nm'->∀t,t<21->IZ (F5 k pg m) nm'.2.length (R m) t)/\
    (fd=false->∀(m:Nat) (nm':Nm),pg[m]?=some nm'->∀t,t<21->IZ (F5 k pg m) nm'.2.length (R m) t):=by
 refine(pY w n₀ tb kb N yL pg yu yl gN xY k R0 E h hv Bi hfo hT h0 htb hlen ab9).mono ?_;rintro e w' ⟨R,h1,h2,⟨n,q,r,t,nm,rfl,h3⟩ | ⟨rfl,h3⟩⟩
 ·exact⟨_,_,_,_,_,R,rfl,h1,h2,λ_=>⟨n,q,r,t,nm,rfl,rfl,rfl,rfl,h3⟩,λh=>by cases h⟩
 ·exact⟨_,_,_,_,_,R,rfl,h1,h2,λh=>(by cases h),λ_=>h3⟩
structure iK (N:NG) (yL:List ByteArray) (pg:List Nm) (k4:List Fa) (w':World) (tb:Nat):Prop where
 ex:∃n₀ kb yu yl gN xY R E,n₀<=tb/\zK w' n₀ tb kb N yL pg yu yl gN xY k4/\zH w' tb yu N.nT yl gN N.nN xY kb R E/\(∀m,m<20->E m<=939524097)/\((∀r∈N.rules,FE (zT k4) r.2=false)->E=λ_=>0)/\
  ∀(m:Nat) (nm':Nm),pg[m]?=some nm'->∀t,t<21->IZ (F5 k4 pg m) nm'.2.length (R m) t
theorem rS (s:ByteArray) (w:World) (N:NG) (yL:List ByteArray) (pg:List Nm) (hT:TabAt 1 Lib.deBruijn32tab w) (hN:N.Ok) (C:List Fa->List Fa->List Fa->Prop)
  (hlen:∀(n:Nat) (nm:Nm) (r:Nat) (ps:List Pt),pg[n]?=some nm->nm.2[r]?=some ps->ps.length<=8/\B3 N ps)
  (hS:∀W,Below w.heap.size w W->Calls Tryz.prog 68 #[.string s] W λe w'=>Below W.heap.size W w'/\∃k2 k3 k4 n₀ kb yu yl gN xY,C k2 k3 k4/\IA N k2 k3/\FD N k3 k4/\e=.returned (.tuple #[.agg #[.slice yu N.nT yl,ae gN N.nN xY,ae kb N.nN N.nN],.string ByteArray.empty,ab 0])/\n₀<=kb/\W.heap.size<=n₀/\Ba w' n₀ N yL pg yu yl gN xY/\y8 w' kb N.nN k4):
  Calls Tryz.prog 49 #[.string s] w λe w'=>Below w.heap.size w w'/\∃k2 k3 k4,C k2 k3 k4/\
   ((∃(n q r t:Nat) (nm:Nm),e=.returned (.tuple #[.pointer none,.agg #[.string nm.1,ab q,ab r,.string (CV yL N.nT t)],ab 9])/\pg[n]?=some nm/\q<r/\r<nm.2.length/\t<=N.nT/\(F5 k4 pg n q).testBit t=true/\(F5 k4 pg n r).testBit t=true/\
     ∃R:Nat->Nat->Int,∀m,m<n->∀nm':Nm,pg[m]?=some nm'->∀t,t<21->IZ (F5 k4 pg m) nm'.2.length (R m) t)\/
    (∃tb,e=.returned (.tuple #[ac tb,.agg #[.string ByteArray.empty,ab 0,ab 0,.string ByteArray.empty],ab 0])/\iK N yL pg k4 w' tb)):=by
 have HS:=hid hS;have HT:=hid hT;have HNO:=hid hN;have HL:=hid hlen;have Bk:1<w.heap.size:=bq _ _ (hT 0 (by decide));clear hS hT hN hlen
 go_enter Tryz.func49,Tryz.ntmps49
 go_upto_region 4 with(go_at_call 68;refine(HS.out _ (zl (ah _ _))).mono ?_;rintro e w1 ⟨hb1,k2,k3,k4,n₀,kb,yu,yl,gN,xY,hC,Cs,hi4,rfl,hn0,hwn,hP,hK⟩;rw[bg]at hb1 hwn;have Z1:w1.heap[w.heap.size]?=some (.cells #[.string ⟨#[]⟩,ab 0,ab 0,.string ⟨#[]⟩] 27 (0,0)):=(hb1.block w.heap.size (by omega)).trans (ay w _);have yR:Hid (Below w.heap.size w w1):=hid ((zl (ah _ _)).trans (hb1.mono (by omega)));have Nz:=hid Z1;have Au:w.heap.size<w1.heap.size:=ak Z1;have HX:=hid (And.intro hn0 (And.intro hwn (And.intro hP hK)));have HI:=hid (And.intro hC (And.intro Cs hi4));clear hb1 Z1 hn0 hwn hP hK hC Cs hi4)
 refine wp_region_lit ?_
 go_step
 go_step
 go_step
 obtain⟨cs,hcs⟩:=qF ((Value.slice yu N.nT yl:: ae gN N.nN xY:: ae kb N.nN N.nN::List.replicate 440 (ab 0)).toArray);refine aE rfl 166 #[(0,.tmp 22)] rfl [(0,.agg #[.slice yu N.nT yl,ae gN N.nN xY,ae kb N.nN N.nN])] ?_ cs (by rw[hcs];exact eA _ _ _) ?_
 ·simp only[List.map_toArray,jv,ur]
  go_simp
 have Bw:=hid (tK _ _ _ cs hcs);clear hcs
 try simp only[Act.put,uz,xd,uu]
 obtain⟨W1,hW1⟩:=qE (w1.alloc (.cells #[.slice yu N.nT yl,ae gN N.nN xY,ae kb N.nN N.nN] 138));rw[hW1];have Wu:Hid (Below w1.heap.size w1 W1):=hid (by rw[<-hW1];exact zl (ah _ _));have hs1:w1.heap.size<W1.heap.size:=by rw[<-hW1,bg];omega
 clear hW1;have hkl:=HX.out.2.2.2.lt;have hTB:=xC W1 yu N.nT yl gN N.nN xY kb cs Bw.out.1 Bw.out.2.1 Bw.out.2.2.1 Bw.out.2.2.2.1 Bw.out.2.2.2.2;have hFX:zK (W1.alloc (.cells cs 166)) n₀ W1.heap.size kb N yL pg yu yl gN xY k4:=
  {gr:=(HX.out.2.2.1.below (Wu.out.mono (by have:=HX.out.1;omega))).below ((ah n₀ W1).alloc (by have:=HX.out.1;omega) _),n0:=HX.out.1,ne:=by omega,lf:=hTB.lt,f0:=hTB.Ar.1,f1:=hTB.Ar.2.1,f2:=hTB.Ar.2.2,kn:=(HX.out.2.2.2.keeps (A1.yX Wu.out []) (by simp)).keeps ((A1.refl W1 []).alloc _) (by simp)}
 have Pk:=kL HNO.out HI.out.2.1;have Xj:Below w.heap.size w (W1.alloc (.cells cs 166)):=zl (yR.out.trans (Wu.out.mono (by omega)));have aa7:n₀<=W1.heap.size:=by have:=HX.out.1;omega
 have HFI:=hid (oR (W1.alloc (.cells cs 166)) n₀ W1.heap.size kb N yL pg yu yl gN xY k4 _ _ hFX hTB (λn=>by rw[HI.out.2.2.fh];exact HI.out.2.1.lt n) (λn=>HI.out.2.2.lt n) (TabAt.below HT.out Xj Bk) (by have:=HX.out.2.1;omega) aa7 HL.out
  (λn nm r hn hr t ht=>by
   rcases jw N.nT t with h2 |h2
   ·exfalso
    obtain⟨ps,hps⟩:∃ps,nm.2[r]?=some ps:=⟨_,gE hr⟩;have h1:=Q0 ht;rw[RP k4 hn hps,JR]at h1;have e1:(λn=>(AL k4 n).testBit t)=λ_=>false:=by funext m;rw[HI.out.2.2.fh];exact Pk m t (by omega)
    rw[e1,NC (by omega) ps (HL.out n nm r ps hn hps).2,dO HNO.out Pk HI.out.2.2 n t h2]at h1;simp at h1
   ·exact h2))
 have HFX:=hid hFX;have Vv:=hid Xj;clear hTB hFX Xj Pk HT HX Bw
 go_upto_region 6 with(go_at_call 81;refine HFI.out.mono ?_;rintro e w3 ⟨pn,pr,po,pt,fd,R,rfl,hv3,hk3,h3t,h3f⟩;have Ej:=hid hv3;have HK3:=hid hk3;have H3:=hid (And.intro h3t h3f);have hs3:=hk3.size;rw[bg]at hs3;clear hv3 hk3 h3t h3f)
 have aiD:w.heap.size<W1.heap.size:=by omega
 have Z3:w3.heap[w.heap.size]?=some (.cells #[.string ⟨#[]⟩,ab 0,ab 0,.string ⟨#[]⟩] 27 (0,0)):=(HK3.out.block _ Hw yM).trans ((dm _ _ _ aiD).trans ((Wu.out.block _ Au).trans Nz.out));have aiE:=ak Z3;obtain⟨W4,Dv⟩:=qE (w3.alloc (.cells #[.string pn,ab pr,ab po,.string pt] 27));have Z4:W4.heap[w.heap.size]?=some (.cells #[.string ⟨#[]⟩,ab 0,ab 0,.string ⟨#[]⟩] 27 (0,0)):=by rw[<-Dv];exact(dm _ _ _ aiE).trans Z3
 have Y4:W4.heap[w3.heap.size]?=some (.cells #[.string pn,ab pr,ab po,.string pt] 27 (0,0)):=by rw[<-Dv];exact ay w3 _
 have Ht:Hid (A1 w3 W4 []):=hid (by rw[<-Dv];exact(A1.refl w3 []).alloc _);rw[Dv];have hl4:w3.heap.size<W4.heap.size:=ak Y4;have Xk:Hid (Below w.heap.size w W4):=hid (Vv.out.trans (((HK3.out.below (B:=w.heap.size) Hw (λq hq=>by have:=mS.1 hq;omega)).trans (Ht.out.below (by omega) (λq hq=>by cases hq)))));have HV4:=hid (Ej.out.keeps Ht.out (by simp));have Xl:=hid Z4;clear Dv Z3 Ej Nz yR Vv Wu HFI;cases fd
 ·have alf:W1.heap.size<w3.heap.size:=by omega
  have XF4:zK W4 n₀ W1.heap.size kb N yL pg yu yl gN xY k4:=HFX.out.tab (S:=[W1.heap.size]) (λq hq=>by have:=mS.1 hq;subst this;exact⟨aa7,HFX.out.ne⟩) (HK3.out.trans (Ht.out.mono (λq hq=>by cases hq))) HV4.out;have HME:=hid (eJ W4 n₀ W1.heap.size kb N yL pg yu yl gN xY k4 _ _ XF4 HV4.out (λn=>by rw[HI.out.2.2.fh];exact HI.out.2.1.lt n) aa7 (λm hm=>by decide) (λr hr=>by
   obtain⟨n,nm,hn,i,hi⟩:=lK XF4.gr hr;exact HL.out n nm i r.2 hn hi))
  have HXF:=hid XF4;clear XF4 Y4 Z4
  go_wp2_with (go_at_call 82;refine HME.out.mono ?_;rintro e w5 ⟨rfl,zj,E',Xm,hE2,Xi⟩;have Fh:=hid zj;have Sa:=hid (And.intro Xm (And.intro hE2 Xi));have Z5:=(zj.block w.heap.size (by omega) yM).trans Xl.out;have g0:w5.cell? (af w.heap.size 0)=some (.string ⟨#[]⟩):=A0 Z5;have g1:w5.cell? (af w.heap.size 1)=some (ab 0):=A0 Z5;have g2:w5.cell? (af w.heap.size 2)=some (ab 0):=A0 Z5;have g3:w5.cell? (af w.heap.size 3)=some (.string ⟨#[]⟩):=A0 Z5;have q0:w5.frozen? (af w.heap.size 0)=false:=A3 Z5;have q1:w5.frozen? (af w.heap.size 1)=false:=A3 Z5;have q2:w5.frozen? (af w.heap.size 2)=false:=A3 Z5;have q3:w5.frozen? (af w.heap.size 3)=false:=A3 Z5;have Xf:w.heap.size<w5.heap.size:=ak Z5;have HZ5:=hid Z5;clear zj Xm hE2 Xi Z5)
  have hrow:=A6 (j:=3) (A6 (j:=2) (A6 (j:=1) (A6 (j:=0) HZ5.out (.string ⟨#[]⟩)) (ab 0)) (ab 0)) (.string ⟨#[]⟩);have Bc:A1 w5 ((((w5.setCell (af w.heap.size 0) (.string ⟨#[]⟩)).setCell (af w.heap.size 1) (ab 0)).setCell (af w.heap.size 2) (ab 0)).setCell (af w.heap.size 3) (.string ⟨#[]⟩)) [w.heap.size]:=((((A1.refl w5 [w.heap.size]).setCell (by simp) _).setCell (by simp) _).setCell (by simp) _).setCell (by simp) _;have hv6:=Sa.out.2.2.keeps Bc yM;have hbk:Below w.heap.size W4 ((((w5.setCell (af w.heap.size 0) (.string ⟨#[]⟩)).setCell (af w.heap.size 1) (ab 0)).setCell (af w.heap.size 2) (ab 0)).setCell (af w.heap.size 3) (.string ⟨#[]⟩)):=(Fh.out.below (by omega) (λq hq=>by have:=mS.1 hq;omega)).trans (Bc.below (by omega) (λq hq=>by have:=mS.1 hq;omega));refine⟨rfl,_,SZ (p:=3) (t:=2) (u:=4) (ty:=27) rfl _ _ w.heap.size _ _ _ _ rfl hrow Tryz.underlying27 rfl yg,?_⟩
  refine⟨Xk.out.trans hbk,k2,k3,k4,HI.out.1,.inr ⟨W1.heap.size,rfl,⟨n₀,kb,yu,yl,gN,xY,R,E',aa7,?_,hv6,Sa.out.1,Sa.out.2.1,λm nm' hm t ht=>H3.out.2 (by simp) m nm' hm t ht⟩⟩⟩;exact HXF.out.pair Xl.out aa7 ((Fh.out.mono (λq hq=>by have:=mS.1 hq;simp[this])).trans (Bc.mono (λq hq=>by have:=mS.1 hq;simp[this]))) hv6
 ·have g0:W4.cell? (af w.heap.size 0)=some (.string ⟨#[]⟩):=A0 Z4
  have g1:W4.cell? (af w.heap.size 1)=some (ab 0):=A0 Z4;have g2:W4.cell? (af w.heap.size 2)=some (ab 0):=A0 Z4;have g3:W4.cell? (af w.heap.size 3)=some (.string ⟨#[]⟩):=A0 Z4;have q0:W4.frozen? (af w.heap.size 0)=false:=A3 Z4;have q1:W4.frozen? (af w.heap.size 1)=false:=A3 Z4;have q2:W4.frozen? (af w.heap.size 2)=false:=A3 Z4;have q3:W4.frozen? (af w.heap.size 3)=false:=A3 Z4;have d0:W4.cell? (af w3.heap.size 0)=some (.string pn):=A0 Y4;have d1:W4.cell? (af w3.heap.size 1)=some (ab pr):=A0 Y4;have d2:W4.cell? (af w3.heap.size 2)=some (ab po):=A0 Y4;have d3:W4.cell? (af w3.heap.size 3)=some (.string pt):=A0 Y4;have Xf:w.heap.size<W4.heap.size:=ak Z4;clear Z4 Y4;go_wp2;have aal:w3.heap.size∉ [w.heap.size]:=by simp;omega
  have Tz:∀w',A1 W4 w' [w.heap.size]->(w'.cell? (af w3.heap.size 0)=some (.string pn)/\w'.cell? (af w3.heap.size 1)=some (ab pr)/\w'.cell? (af w3.heap.size 2)=some (ab po)/\w'.cell? (af w3.heap.size 3)=some (.string pt))/\Hid (A1 W4 w' [w.heap.size]):=λw' hk=>⟨⟨(hk.cell (by exact hl4) aal).trans d0,(hk.cell (by exact hl4) aal).trans d1,(hk.cell (by exact hl4) aal).trans d2,(hk.cell (by exact hl4) aal).trans d3⟩,hid hk⟩
  have Ry:=hid Tz;clear Tz;refine dn (S:=λw'=>(w'.cell? (af w3.heap.size 0)=some (.string pn)/\w'.cell? (af w3.heap.size 1)=some (ab pr)/\w'.cell? (af w3.heap.size 2)=some (ab po)/\w'.cell? (af w3.heap.size 3)=some (.string pt))/\Hid (A1 W4 w' [w.heap.size])) yg (Ry.out _ (A1.refl _ _).drew) (λhH=>?_);refine tB 0 hH ?_;refine tB 1 hH ?_;refine tL ?_;refine tS 2 λK hK=>?_
  refine tM ?_;go_simp;refine hK.out _ _ ?_ λhH=>?_
  ·exact Ry.out _ ((((hH.2.out.setCell (by simp) _).setCell (by simp) _).setCell (by simp) _).setCell (by simp) _)
  clear hK K;refine tB 3 hH ?_;refine tL ?_;refine bk yg ?_ _;have HKE:=hid hH.2.out;clear hH g0 g1 g2 g3 q0 q1 q2 q3 d0 d1 d2 d3;go_wp2;have hrow:=A6 (j:=3) (A6 (j:=2) (A6 (j:=1) (A6 (j:=0) Xl.out (.string pn)) (ab pr)) (ab po)) (.string pt);obtain⟨n,q,r,t,nm,rfl,rfl,rfl,rfl,h3⟩:=H3.out.1 (by simp);refine⟨rfl,_,SZ (p:=3) (t:=2) (u:=4) (ty:=27) rfl _ _ w.heap.size _ _ _ _ rfl hrow Tryz.underlying27 rfl yg,?_⟩;refine⟨Xk.out.trans (HKE.out.below (by omega) (λq hq=>by have:=mS.1 hq;omega)),k2,k3,k4,HI.out.1,.inl ⟨n,q,r,t,nm,rfl,h3.1,h3.2.1,h3.2.2.1,h3.2.2.2.1,h3.2.2.2.2.1,h3.2.2.2.2.2.1,R,h3.2.2.2.2.2.2⟩⟩
end
theorem af1 {P:Prop} (h:P:=by
  rw[hd]at HC;clear hd hz
  go_enter Tryz.func219,Tryz.ntmps219
  go_wp2_with (go_at_call 236;refine HC.out.mono ?_;rintro e w2 ⟨rfl,hb⟩;have HB:=hid hb;clear hb)
  go_ret;exact⟨rfl,HB.out⟩):P:=h
theorem QH {wb:Nat} (hP:Ba w n₀ N yL pg yu yl gN xY) (h0:n₀<=w.heap.size)
  (hV:zH w tb yu N.nT yl gN N.nN xY kb R E) (hw:w.cell? (af wb 0)=some (ac tb)) (t u:Nat) (ht:t<N.nT) (hu:u<N.nT):
  Calls Tryz.prog 219 #[ac wb,ab t,ab u] w λe w'=>e=.returned (ab (FH N t u))/\Below w.heap.size w w':=by
 by_cases he:t=u
 ·have hi:((t:Int)==(u:Int))=true:=by rw[lq];omega
  have hk:FH N t u=0:=by unfold FH JS;simp[he]
  rw[hk];clear hP hV he ht hu hk h0
  go_enter Tryz.func219,Tryz.ntmps219
  go_wp2;go_ret;exact⟨rfl,ah _ _⟩
 ·have hi:((t:Int)==(u:Int))=false:=by rw[jz];omega
  obtain⟨c4,c5,_⟩:=hV.Ar;have CS:=ZO hP h0 t u ht hu;obtain⟨nN,hn1⟩:=qF (N.nN);obtain⟨nT,hn2⟩:=qF (N.nT);have hk:FH N t u=if 0<N.swp t u then N.swp t u else 1048576:=by
   unfold FH JS AC;rw[au he]
   by_cases h:N.swp t u=0
   ·rw[aq h,au (by omega)];rfl
   ·rw[au h,aq (by omega)];rfl
  rw[hk];obtain⟨s,hs⟩:=qF (N.swp t u);rw[<-hn1,<-hn2,<-hs]at CS;rw[<-hn2]at c4;rw[<-hn1]at c5;rw[<-hs];have HC:=hid CS;clear hP hV he ht hu hk h0 hs hn1 hn2 CS
  by_cases hz:0<s
  ·have hd:decide (0<s)=true:=ij hz
   rw[aq hz];exact af1
  ·have hd:decide (0<s)=false:=fq hz
   rw[au hz];exact af1
theorem N9 (u v:Value) (w:World):
  Calls Tryz.prog 118 #[.agg #[u,v]] w λe w'=>e=.returned (.agg #[.bool true,ab 0])/\Below w.heap.size w w':=by
 go_enter Tryz.func118,Tryz.ntmps118
 go_wp2;refine⟨rfl,_,FW (p:=2) (ty:=235) rfl _ _ (w.heap.size+1) _ _ _ _ rfl (P3 w _ _ _ _) Tryz.underlying235 rfl yg,?_⟩;exact⟨rfl,(IF w _).alloc Hw _⟩
theorem YU {nT nN:Nat} (h:zH w tb yu nT yl gN nN xY kb R E) (n:Nat) (hn:n<20):
  Calls Tryz.prog 213 #[ac tb,ab n] w λe w'=>e=.returned (ab (E n))/\w=w':=by
 have h1:w.cell? (af tb (423+n))=some (ab (E n)):=by
  obtain⟨cs,h1,_,_,_,_,_,h2⟩:=h;exact(A0 h1).trans (h2 n hn)
 clear h
 go_enter Tryz.func213,Tryz.ntmps213
 go_wp2;go_ret;exact⟨rfl,rfl⟩
theorem RG (b x y:Nat) (hx:x<=939524097) (hy:y<=939524097) (w:World) (h:w.cell? (af b 2)=some (ab x)) (hf:w.frozen? (af b 2)=false):
  Calls Tryz.prog 171 #[ac b,ab y] w λe w'=>e=.returned (.tuple #[])/\w'=w.setCell (af b 2) (ab (DJ x y)):=by
 have CA:Hid (∀W,Calls Tryz.prog 184 #[ab x,ab y] W λe w'=>e=.returned (ab (DJ x y))/\W=w'):=hid λW=>MV x y hx hy W
 go_enter Tryz.func171,Tryz.ntmps171
 go_wp2_with (go_at_call 184;refine(CA.out _).mono ?_;rintro e w' ⟨rfl,rfl⟩)
 exact⟨rfl,_,ql rfl _ _ _,rfl,rfl⟩
theorem cY  (hP:Ba w n₀ N yL pg yu yl gN xY)
  (hV:zH w tb yu N.nT yl gN N.nN xY kb R E) (n t q:Nat) (ht:t<21) (nm:Nm) (ps:List Pt) (hn:pg[n]?=some nm) (yY:n<N.nN) (hR:R n t=(q:Int)) (hr:nm.2[q]?=some ps):
  Calls Tryz.prog 174 #[ac tb,ab n,ab t] w λe w'=>∃v,e=.returned (.tuple #[v,ab q])/\C0 w n₀ v ps/\w=w':=by
 have zU:=hP.Bt;obtain⟨_,v,c1,gR,Nw,rfl,Mh,Eb,hrl⟩:=hP.names n nm hn;obtain⟨p,c2,hp⟩:=hrl q ps hr;have c3:=hV.row (n:=n) (t:=t) (by omega) ht;rw[hR]at c3;obtain⟨_,c4,_⟩:=hV.Ar;have HP:=hid hp;have hqL:=(yS.1 hr).1;obtain⟨nL,Jl⟩:=qF (nm.2.length);rw[<-Jl]at c1 Eb hqL;obtain⟨nN,hn1⟩:=qF (N.nN);rw[<-hn1]at c4 zU yY;obtain⟨ad,cap,rfl,_,_⟩:=hp;clear hP hV hrl hn hr Jl hn1 hR
 go_enter Tryz.func174,Tryz.ntmps174
 go_wp2
 go_ret2
 exact⟨_,rfl,HP.out,rfl⟩
theorem j9 (s t:Nat) (hs:s<2097152) (ht:t<=20) (w:World):
  Calls Tryz.prog 232 #[.int .u32 s,ab t] w λe w'=>e=.returned (.bool (s.testBit t))/\w=w':=by
 obtain⟨x,hx⟩:∃x:Nat,x=1<<<t:=⟨_,rfl⟩;have CO:Hid (∀W,Calls Tryz.prog 163 #[ab t] W λe w'=>e=.returned (.int .u32 (x:Int))/\W=w'):=hid λW=>by rw[hx];exact TV W t ht
 have HX:=hid hx;clear hx
 go_enter Tryz.func232,Tryz.ntmps232
 go_wp2_with (go_at_call 163;refine(CO.out _).mono ?_;rintro e w2 ⟨rfl,rfl⟩)
 go_ret;have aiF:x<4294967296:=by
  rw[HX.out,qi];exact yG (ox (by omega) ht) (by decide)
 have hA:((((s&&& x:Nat):Int)) !=0)=s.testBit t:=by
  rw[HX.out,qi]
  by_cases hb:s.testBit t=true
  ·have h1:(s&&& 2 ^t).testBit t=true:=by rw[Nat.testBit_and,hb,Nat.testBit_two_pow_self];rfl
   have h2:s&&& 2 ^t≠0:=λe=>by rw[e]at h1;simp at h1
   obtain⟨z,hz⟩:=qF (s&&& 2 ^t);rw[hb,<-hz];rw[<-hz]at h2;simpa using h2
  ·have hb':s.testBit t=false:=by simpa using hb
   have h1:s&&& 2 ^t=0:=Nat.eq_of_testBit_eq λi=>by
    rw[Nat.testBit_and,wu,Nat.zero_testBit]
    by_cases e:t=i
    ·subst e;rw[hb'];rfl
    ·simp[e]
   rw[h1,hb'];rfl
 refine⟨?_,rfl⟩;show Ending.returned (Value.bool (bits .and .u32 (s:Int) (x:Int) !=0))=_;rw[u32_and_nat s x (by omega) aiF,hA]
theorem ST {fb:Nat}{k:List Fa} (h:zK w n₀ fb kb N yL pg yu yl gN xY k) (Bi:∀n,AL k n<2 ^21)
  (n t:Nat) (hn:n<N.nN) (ht:t<=20):
  Calls Tryz.prog 212 #[ac fb,ab n,ab t] w λe w'=>e=.returned (.bool ((AL k n).testBit t))/\w=w':=by
 obtain⟨a,ha⟩:∃a,k[n]?=some a:=⟨_,gE (by rw[h.kn.1];exact hn)⟩;obtain⟨c0,c1,c2,c3⟩:=h.kn.cells ha;have zU:=h.gr.Bt;have f2:=h.f2;have hf:=Bi n;rw[kJ ha]at hf ⊢;have CH:Hid (∀W,Calls Tryz.prog 232 #[.int .u32 a.first,ab t] W λe w'=>e=.returned (.bool (a.first.testBit t))/\W=w'):=hid λW=>j9 a.first t (by omega) ht W
 obtain⟨nN,hn1⟩:=qF (N.nN);rw[<-hn1]at f2 zU hn;clear h Bi ha hn1 hf
 go_enter Tryz.func212,Tryz.ntmps212
 go_wp2_with (go_at_call 232;refine(CH.out _).mono ?_;rintro e w2 ⟨rfl,rfl⟩)
 go_ret;exact⟨rfl,rfl⟩
theorem mY  (hP:Ba w n₀ N yL pg yu yl gN xY) (h0:n₀<=w.heap.size) (n:Nat) (nm:Nm) (hn:pg[n]?=some nm) (yY:n<N.nN):
  Calls Tryz.prog 173 #[.agg #[.slice yu N.nT yl,ae gN N.nN xY],.agg #[.bool true,ab n]] w λe w'=>e=.returned (.string nm.1)/\Below w.heap.size w w':=by
 have zU:=hP.Bt;obtain⟨c1,_⟩:=hP.names n nm hn;have hgN:gN<w.heap.size:=lL hP.hgN h0;obtain⟨nN,hn1⟩:=qF (N.nN);obtain⟨nT,hn2⟩:=qF (N.nT);obtain⟨s,hs⟩:=qF (nm.1);rw[<-hs]at c1 ⊢;rw[<-hn1]at zU yY ⊢;rw[<-hn2];clear hP hn hn1 hn2 hs h0
 go_enter Tryz.func173,Tryz.ntmps173
 go_wp2;go_ret;exact⟨rfl,(IF w _).alloc Hw _⟩
theorem nK  (hP:Ba w n₀ N yL pg yu yl gN xY) (h0:n₀<=w.heap.size) (t:Nat) (ht:t<N.nT):
  Calls Tryz.prog 173 #[.agg #[.slice yu N.nT yl,ae gN N.nN xY],.agg #[.bool false,ab t]] w λe w'=>e=.returned (.string (nth yL t))/\Below w.heap.size w w':=by
 have zU:=hP.Aj;obtain⟨gT,rfl,Gm,c1,_⟩:=hP.toks t ht;have Gm:gT<w.heap.size:=lL Gm h0;obtain⟨nN,hn1⟩:=qF (N.nN);obtain⟨nT,hn2⟩:=qF (N.nT);obtain⟨s,hs⟩:=qF (nth yL t);rw[<-hs]at c1 ⊢;rw[<-hn2]at zU ht ⊢;rw[<-hn1];clear hP hn1 hn2 hs h0
 go_enter Tryz.func173,Tryz.ntmps173
 go_wp2;go_ret;exact⟨rfl,(IF w _).alloc Hw _⟩
end Go.Proofs.YtjjggdcnpndgjaaGreatDoor
