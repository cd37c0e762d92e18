import Derived.Test.YtjjggdcnpndgjaaGreatDoorCJ22
import Derived.Laws.Tables
set_option linter.unusedSimpArgs false
set_option maxHeartbeats 4000000
set_option maxRecDepth 100000
namespace Go.Proofs.YtjjggdcnpndgjaaGreatDoor
abbrev yL:=@List.length_replicate
open Go.RowKit Go.Shelf
variable {E:Nat->Nat}{N:NG}{R:Nat->Nat->Int}{yZ:Option Addr}{yQ yT gN kb n₀ tb:Nat}{pg:List Nm}{zy:List ByteArray}{v:Value}{w:World}
section
attribute [local go_sem] Oper.semAt_some
theorem fV (w:World) (n₀ tb kb:Nat) (N:NG) (zy:List ByteArray) (pg:List Nm) (yZ:Option Addr) (yT gN yQ:Nat) (k:List Fa) (R:Nat->Nat->Int) (E:Nat->Nat) (h:Aw w n₀ tb kb N zy pg yZ yT gN yQ k) (hv:Au w tb yZ N.nT yT gN N.nN yQ kb R E) (Df:∀n,AQ k n<2 ^21)
  (htb:n₀<=tb) (hE:∀m,m<20->E m<=939524097) (hlen:∀r∈N.rules,r.2.length<=8/\BE N r.2):
  Calls Tryz.prog 82 #[ac tb] w λe w'=>e=.returned (.tuple #[])/\A5 w w' [tb]/\∃E',(∀m,m<20->E' m<=939524097)/\((∀r∈N.rules,FN (Bh k) r.2=false)->E'=E)/\Au w' tb yZ N.nT yT gN N.nN yQ kb R E':=by
 have H:=hid h;have HV0:=hid hv;have Gz:=hid hE;have HL:=hid hlen;have HF:Hid (∀n,AQ k n<2 ^21):=hid Df;have abK:=h.gr.Dm;have Dx:=h.gr.Ch;have Rl:=h.gr.lN;have Fg:=h.ln;have Pg:=hv.lt;have f1:=h.f1;have hnk:tb≠kb:=h.ne;clear h hv hlen Df hE;obtain⟨nN,zT⟩:=qF (N.nN);rw[<-zT]at f1 HV0 abK Rl ⊢;have Fz:Hid (nN=N.nN):=hid zT;clear zT;refine(nk (n:=4)).1 ?_;refine qw Tryz.func82 rfl trivial ?_ rfl;simp only[Tryz.ntmps82,jf,lC,jd,Nat.reduceAdd,Nat.reduceSub,jm,jo,jy,jr,ey,iw];refine wpIn_seq ?_
 gi_wp2
 obtain⟨W1,hW1⟩:=qE (w.alloc (.cells #[ac tb] 107));rw[hW1];have Bt:Hid (A5 w W1 []):=hid (by rw[<-hW1];exact(A5.refl w []).alloc _);have hb0:W1.heap[w.heap.size]?=some (.cells #[ac tb] 107 (0,0)):=by rw[<-hW1];exact bg w _
 have c0:W1.cell? (af w.heap.size 0)=some (ac tb):=A0 hb0;have c1:W1.cell? (af tb 1)=some (ae gN nN yQ):=(Bt.out.cell (by exact Pg) (by simp)).trans f1;have HB:=hid hb0;clear hb0 hW1 f1
 gi_wp2
 refine yX (λg a W=>∃(u:Nat->Value) (Ds:List Nat) (i:Nat) (E1:Nat->Nat),
   a= {tmps:= #[ac tb,ac w.heap.size,u 2,u 3,u 4,u 5,u 6,u 7,u 8,ae gN nN yQ,ab nN,ab i,u 12,u 13,u 14,u 15,u 16,u 17,u 18,u 19,u 20,u 21,u 22,u 23,u 24,u 25,u 26,u 27,u 28,u 29,u 30,u 31,u 32,u 33,u 34],defers:=UT Ds}/\
   g=nN - i/\i<=nN/\Au W tb yZ N.nT yT gN nN yQ kb R E1/\A5 w W [tb]/\W.heap[w.heap.size]?=some (.cells #[ac tb] 107 (0,0))/\EB w Ds W/\(∀m,m<20->E1 m<=939524097)/\((∀r∈N.rules,FN (Bh k) r.2=false)->E1=E)) nN ?start ?round
 case start=>
  exact⟨SI #[undef,undef,_,_,_,_,_,_,_,undef,undef,undef,_,_,_,_,_,_,_,_,_,_,_,_,_,_,_,_,_,_,_,_,_,_,_] #[],[],0,E,rfl,rfl,dh _,HV0.out.keeps Bt.out (by simp),Bt.out.mono (λq hq=>by cases hq),HB.out,⟨List.nodup_nil,λD hD=>by cases hD⟩,Gz.out,λ_=>rfl⟩
 case round=>
  rintro g a W ⟨u,Ds,i,E1,rfl,rfl,hi,Rz,hW,bx0,hM,hEb,hEs⟩;have Zv:=hid Rz;have HW:Hid (A5 w W [tb]):=hid hW;have HM:Hid (EB w Ds W):=hid hM;have Qa:=hid bx0;have HEB:=hid (And.intro hEb hEs);have hl0:=ak bx0;have htW:tb<W.heap.size:=by omega
  clear HB Bt c1 c0 hEb hEs hM hW Gz
  by_cases hlt:i<nN
  ·have c0:W.cell? (af w.heap.size 0)=some (ac tb):=A0 bx0
   obtain⟨Zx,Zy,_⟩:=Rz.Cq;clear bx0 Rz
   gi_wp2_with (refine⟨trivial,?_⟩;gi_at_call 130;refine(TO Fence.wide 3 trivial rfl _ _ _ _ _ _ _).mono ?_;rintro e W2 ⟨rfl,rfl⟩)
   obtain⟨W0,hW0⟩:=qE (W.alloc (.cells #[.slice yZ N.nT yT,ae gN nN yQ] 135));rw[hW0];have hs0:W.heap.size<W0.heap.size:=by rw[<-hW0,bh];omega
   have Vz:W0.cell? (af W.heap.size 1)=some (ae gN N.nN yQ):=by rw[<-hW0,<-Fz.out];exact BK W _ _ 1
   have Wz:Hid (A5 W W0 []):=hid (by rw[<-hW0];exact(A5.refl W []).alloc _);have Jj:Hid (A5 w W0 [tb]):=hid (HW.out.trans (Wz.out.mono (λq hq=>by cases hq)));have HM0:Hid (EB w Ds W0):=hid (HM.out.keeps Wz.out (λq hq=>by cases hq));have Ah:=hid ((Wz.out.block _ hl0 (by simp)).trans Qa.out);have Ig:=hid (Zv.out.keeps Wz.out (by simp));have Wc:w.heap.size<W0.heap.size:=by omega
   clear hW0 c0 Zx Zy;refine xm (F:=Fence.wide) rfl (by omega) (gf:=183) (lb:= #[ac W.heap.size]) rfl trivial (rq Tryz.func183 yM rfl)
    (O8 Fence.wide 3 trivial rfl (by omega) W.heap.size n₀ N zy pg yZ yT gN yQ w W0 H.out.gr (Jj.out.below Fg (λq h=>by have:=mS.1 h;omega)) Fg hs0 Vz) belowK_t (yK (by omega)) (ah _ _) (λ_=>rfl)
    (fun(pre:List (RI N w n₀)) V=>∃E3,Au V tb yZ N.nT yT gN nN yQ kb R E3/\A5 W0 V [tb]/\(∀m,m<20->E3 m<=939524097)/\((∀r∈N.rules,FN (Bh k) r.2=false)->E3=E)) (λ_ _ _=>False)
    ?own (λ_ _ _ _ _ hs _ _=>hs) ⟨E1,Ig.out,A5.refl _ _,HEB.out⟩
    (λx=>{tmps:= #[ac tb,ac w.heap.size,ab (x.1.1.1:Int),x.1.2,u 4,u 5,u 6,u 7,u 8,ae gN nN yQ,ab nN,ab i,.bool true,ac tb,ac tb,ac tb,ac tb,.agg #[.slice yZ N.nT yT,ae gN nN yQ],.func (.func 183) #[] #[ac W.heap.size],ab (x.1.1.1:Int),x.1.2,u 21,u 22,u 23,u 24,u 25,u 26,u 27,u 28,u 29,u 30,u 31,u 32,u 33,u 34],defers:=[]}) ?assign ?body ?done ?stop
   case assign=>
    intro l x V K hK;simp only[XJ]
    gi_wp2
    exact hK
   case own=>
    rintro pre A B row ⟨E3,h1,h2,h3⟩ hg hrw;have hk:A5 A B row.toList:=(A5.refl A row.toList).grown hg (λq e=>.inl Mv);exact⟨E3,h1.keeps hk (λhm=>by obtain⟨o,ho,hc⟩:=(hrw tb aaK).2;obtain⟨c,e,f,hx⟩:=h1.kind;rw[hx]at ho;cases ho;cases hc),h2.grown hg (λq e=>.inr (hrw q e).1),h3⟩
   case stop=>
    rintro D c pre V _ _ h _;exact h.elim
   case done=>
    rintro D ys V hD hys ⟨E3,h1,h2,h3,h4⟩ hd;have Ww:=hid h1;have Ba:Hid (A5 w V [tb]):=hid (Jj.out.trans h2);have Wx:=hid (And.intro h3 h4);have HE4:Hid (EB w (D::Ds) V):=hid (HM0.out.cons (HM0.out.keeps h2 (λq hq=>by have:=mS.1 hq;subst this;exact Ig.out.kind)) (by omega) hD hd);have HE5:=hid ((h2.block _ Wc zG).trans Ah.out);clear h1 h2 h3 h4 hd
    gi_wp2
    exact⟨nN - (i+1),by omega,SI #[undef,undef,_,_,_,_,_,_,_,undef,undef,undef,_,_,_,_,_,_,_,_,_,_,_,_,_,_,_,_,_,_,_,_,_,_,_] #[],D::Ds,i+1,E3,rfl,rfl,by omega,Ww.out,Ba.out,HE5.out,HE4.out,Wx.out⟩
   case body=>
    rintro l pre ⟨⟨⟨rn,rp⟩,pv⟩,hx1,hx2⟩ V ⟨E3,h1,h2,h3,h4⟩ _;simp only at hx1 hx2 ⊢;obtain⟨Ob,hpk⟩:=HL.out _ hx1;simp only at Ob hpk;have Jw:rn<nN:=by rw[Fz.out];exact H.out.gr.ok.lt _ hx1
    have agE:rn<20:=by omega
    have alR:(rn:Int)<20:=by omega
    have aev:A5 w V [tb]:=Jj.out.trans h2;have ai4:=h2.size;have cB:V.cell? (af w.heap.size 0)=some (ac tb):=A0 ((h2.block _ Wc zG).trans Ah.out);have XV:Aw V n₀ tb kb N zy pg yZ yT gN yQ k:=H.out.tab (S:=[tb]) (λq hq=>by have:=mS.1 hq;exact⟨by omega,by omega⟩) aev (R:=R) (E:=E3) (by rw[<-Fz.out];exact h1);have hpV:D1 V n₀ pv rp:=hx2.below (aev.below Fg (λq h=>by have:=mS.1 h;omega));have Nl:=hid (fQ V n₀ tb kb N zy pg yZ yT gN yQ k XV HF.out pv rp hpV hpk Ob);have HCN:=hid (λV2 (hb2:Below V.heap.size V V2)=>WZ V2.drew n₀ tb N Dx (by rw[<-Fz.out];exact abK) (by show n₀<=V2.heap.size;have:=hb2.size;omega) (by show tb<V2.heap.size;have:=hb2.size;omega)
     (λm hm=>⟨E3 m,h3 m hm,(hb2.cell (p:=(af tb (423+m))) (by show tb<V.heap.size;omega)).trans (h1.empty hm)⟩) pv rp (hpV.below ((hb2.mono (by omega)).trans ⟨rfl,rfl,rfl,zn _,λ_ _=>rfl⟩)) hpk Ob)
    have HTV:=hid h1;have Hj:=hid h2;have Wx:=hid (And.intro h3 h4);have Xa:Hid ((rn,rp)∈N.rules):=hid hx1;have aeo:w.heap.size<V.heap.size:=by omega
    have htV:tb<V.heap.size:=by omega
    clear h1 h2 h3 h4 aev XV hpV hpk
    by_cases Pj:FN (Bh k) rp=true
    ·rw[Pj]at Nl
     gi_wp2_with (refine⟨trivial,?_⟩;gi_at_call 131;refine(yV l ((nk (n:=1)).2 Nl.out)).mono ?_;rintro e V2 ⟨rfl,hb2⟩;have zO:=hid hb2;have hs2:=hb2.size;replace cB:=(hb2.cell (p:=(af w.heap.size 0)) (by exact aeo)).trans cB;clear hb2)
     have ajb:w.heap.size<V2.heap.size:=by omega
     refine GL (S:=λw'=>(w'.cell? (af w.heap.size 0)=some (ac tb))/\A5 V2 w' [tb]) hmx yM Lv ⟨cB,(A5.refl _ _).drew⟩ (λhH=>?_);refine tB 0 hH ?_;refine tB 1 hH ?_;refine tB 2 hH ?_;refine tB 3 hH ?_;refine tB 5 hH ?_;refine tB 6 hH ?_;refine tL ?_;refine tS 4 λK hK=>?_
     refine tM ?_;rw[ay (by rfl)];go_simp;refine(HCN.out V2 zO.out).mono ?_;rintro e w5 ⟨⟨x,hx,rfl⟩,zP⟩;try dsimp only;refine hK.out _ _ ?_ λhH=>?_
     ·exact⟨(zP.cell (by exact ajb)).trans hH.1,hH.2.trans (A5.zQ zP _)⟩
     clear hK K;refine tL ?_;have Ag:A5 V w5 []:=(A5.zQ zO.out []).trans ((A5.refl V2 []).drew.trans (A5.zQ zP []));have Zz:=HTV.out.keeps Ag (by simp);have e0:=Zz.empty agE;have e1:=Zz.free (423+rn);have HV6:=hid (Zz.ai1 agE x);have Cp:A5 V (w5.setCell (af tb (423+rn)) (ab (x:Int))) [tb]:=(Ag.mono (λq hq=>by cases hq)).setCell (by simp) _;have Uq:=hid Cp;have hs5:=Ag.size;clear zP Ag Zz Cp HCN Nl;refine tB 7 hH ?_;refine tL ?_;refine tS 8 λK hK=>?_
     refine tM ?_;rw[ay (by rfl)];go_simp;refine hK.out _ _ ?_ λhH=>?_
     ·exact⟨(wu _ _ _ _ (λe=>by injection e with e _ _;omega)).trans hH.1,hH.2.setCell (by simp) _⟩
     clear hK K;refine tL ?_;refine bq yM ?_ _;clear hH
     gi_wp2
     refine⟨KeepsFrom.Mg (S:=[tb]) Uq.out (λq h=>by have:=mS.1 h;omega),Uq.out.below (by omega) (λq h=>by have:=mS.1 h;omega),_,HV6.out,Hj.out.trans Uq.out,λm hm=>?_,λhall=>?_⟩
     ·by_cases e:m=rn
      ·simp only[ay e];exact hx
      ·simp only[aq e];exact Wx.out.1 m hm
     ·have h9:=hall _ Xa.out
      simp only at h9;rw[Pj]at h9;cases h9
    ·have ajc:FN (Bh k) rp=false:=by simpa using Pj
     rw[ajc]at Nl
     gi_wp2_with (refine⟨trivial,?_⟩;gi_at_call 131;refine(yV l ((nk (n:=1)).2 Nl.out)).mono ?_;rintro e V2 ⟨rfl,hb2⟩;have zO:=hid hb2;clear hb2)
     have Ag:A5 V V2 []:=A5.zQ zO.out [];exact⟨KeepsFrom.Mg (S:=[]) Ag (λq h=>by cases h),Ag.below (by omega) (λq h=>by cases h),E3,HTV.out.keeps Ag (by simp),Hj.out.trans (Ag.mono (λq h=>by cases h)),Wx.out⟩
  ·have hnn:i=nN:=by omega
   subst hnn;clear bx0 Rz
   gi_wp2
   refine L9 w.heap.size (λw'=>A5 w w' [tb]/\Au w' tb yZ N.nT yT gN i yQ kb R E1) ?_ ?_ Ds _ ⟨HW.out,Zv.out⟩ HM.out.1 (λD' Gs=>HM.out.2 D' Gs)
   ·rintro w' D' ⟨h1,h2⟩ Gs hd'
    have hg':=qo w' D' (.deferred none);have hk':A5 w' (w'.putObj D' (.deferred none)) [D']:=(A5.refl w' [D']).grown hg' (λq e=>.inl (by cases e;simp));exact⟨h1.grown hg' (λq e=>by cases e;exact .inr Gs),h2.keeps hk' (λhm=>by obtain⟨cs,e,f,hx⟩:=h2.kind;have:=mS.1 hm;subst this;rw[hd']at hx;cases hx)⟩
   ·rintro w' ⟨h1,h2⟩
    exact⟨_,qz rfl _ _ _,rfl,h1,E1,HEB.out.1,HEB.out.2,h2⟩
end
section
theorem eY (a b c:Value):Tryz.prog.built 166 [(0,.agg #[a,b,c])]=some (a::b::c::List.replicate 440 (ab 0)).toArray:=by kernel_rfl
theorem xO (w:World) (yZ:Option Addr) (nT yT gN nN yQ kb:Nat) (cs:Array Value) (hs:cs.size=443) (h0:cs[0]?=some (.slice yZ nT yT)) (h1:cs[1]?=some (ae gN nN yQ)) (h2:cs[2]?=some (ae kb nN nN)) (h3:∀j,j<440->cs[3+j]?=some (ab 0)):
  Au (w.alloc (.cells cs 166)) w.heap.size yZ nT yT gN nN yQ kb (λ_ _=>0) (λ_=>0):=
 ⟨cs,bg w _,hs,h0,h1,h2,λn t hn ht=>by rw[show 3+n*21+t=3+(n*21+t) by omega];exact h3 _ (by omega),λm hm=>by rw[show 423+m=3+(420+m) by omega];exact h3 _ (by omega)⟩
theorem vZ (a b c:Value) (cs:Array Value) (h:cs=(a::b::c::List.replicate 440 (ab 0)).toArray):cs.size=443/\cs[0]?=some a/\cs[1]?=some b/\cs[2]?=some c/\∀j,j<440->cs[3+j]?=some (ab 0):=by
 subst h;obtain⟨l,hl⟩:=qE (List.replicate 440 (ab 0));have h1:l.length=440:=by rw[<-hl,yL]
 have h2:∀j,j<440->l[j]?=some (ab 0):=λj hj=>by rw[<-hl,nj,ay hj]
 rw[hl];clear hl;refine⟨by simp[h1],by simp,by simp,by simp,λj hj=>?_⟩;rw[ia,show 3+j=j+1+1+1 by omega];simp only[List.getElem?_cons_succ];exact h2 j hj
theorem b7 {P:Program}{ops:Array Oper}{rest:List Oper}{o:Oper}{a:Act}{Q:Exit->Act->World->Prop} (hg:o.guard=none) (t:TypeId) (parts:Array (Nat × Operand)) (ho:o.op=.build t parts)
  (vs:List (Nat × Value)) (hv:(parts.map fun(i,x)=>(i,a.eval x)).toList=vs) (cs:Array Value) (hb:P.built t vs=some cs) (h:wpList P ops Q rest (a.put o.dst (.agg cs)) w):wpList P ops Q (o::rest) a w:=
 wpList_build hg t parts ho (by rw[hv,hb];rfl) (by rw[hv,hb];exact h)
theorem SU {P:Program}{fn:Func}{p t u:Tmp}{ty:TypeId} (h:fn.results= #[.tmp t,.cell p ty,.tmp u]) (tmps:Array Value) (w:World) (g:Nat) (t':TypeId) (cs:Array Value) (fr:Nat × Nat) (d:TypeDesc)
  (hp:tmps.getD p undef=ac g) (hg:w.heap[g]?=some (.cells cs t' fr)) (hu:P.underlying ty=some d) (hd:(match d with | .struct _ | .array _ _=>true |_=>false)=true) (hi:(P.info? ty).map (·.size)=some cs.size):
  (results fn tmps).run P w=.ok (.tuple #[tmps.getD t undef,.agg cs,tmps.getD u undef]) w:=by
 have hp':tmps[p]?.getD undef=ac g:=by simpa using hp
 simp[results,h,hp',asAddr,yw w g t' ty cs fr d hg hu hd hi,Result.andThen]
theorem wF {a b:ByteArray}{i j:Int}{k:Nat} (h:(#[Value.string a,ab i,ab j,.string b]:Array Value)[k]?=some v):(∀x y z,v≠ .slice x y z)/\(∀x,v≠ .bool x)/\(k=0->∀x y,v≠ .int x y):=by
 match k with
 |0=>simp at h;subst h;simp
 |1=>simp at h;subst h;simp
 |2=>simp at h;subst h;simp
 |3=>simp at h;subst h;simp
 |k+4=>simp at h
section
variable {w w':World}{p:Nat}{a b:ByteArray}{i j:Int}{n₀:Nat}{S:List Nat}
theorem OV (hZ:w.heap[p]?=some (.cells #[.string a,ab i,ab j,.string b] 27 (0,0))) {g k:Nat} (hc:w.cell? (af g k)=some v) (hv:(∃x y z,v=.slice x y z)\/(∃x,v=.bool x)\/(k=0/\∃x y,v=.int x y)):g≠p:=λe=>by
 subst e;rw[A0 hZ]at hc;obtain⟨h1,h2,h3⟩:=wF hc
 rcases hv with⟨x,y,z,rfl⟩ | ⟨x,rfl⟩ | ⟨hk,x,y,rfl⟩
 ·exact h1 _ _ _ rfl
 ·exact h2 _ rfl
 ·exact h3 hk _ _ rfl
theorem D1.pair (hZ:w.heap[p]?=some (.cells #[.string a,ab i,ab j,.string b] 27 (0,0))) (hS:∀q∈S,q=p\/n₀<=q) (hk:A5 w w' S) (hn:n₀<=w.heap.size) {ps:List Pt} (h:D1 w n₀ v ps):D1 w' n₀ v ps:=by
 obtain⟨ad,cap,h1,h2,h3⟩:=h;refine⟨ad,cap,h1,h2,λh0=>?_⟩;obtain⟨g,off,h4,h5,h6⟩:=h3 h0;have hg:g∉S:=λhm=>by
  obtain⟨q,hq⟩:∃q,ps[0]?=some q:=⟨_,gE h0⟩
  rcases hS g hm with e |e
  ·exact OV hZ (h6 0 q hq).1 (.inr (.inl ⟨_,rfl⟩)) e
  ·omega
 exact⟨g,off,h4,h5,λi q hq=>⟨(hk.cell Jt hg).trans (h6 i q hq).1,(hk.cell Jt hg).trans (h6 i q hq).2⟩⟩
theorem Cz.pair  (h:Cz w n₀ N zy pg yZ yT gN yQ) (hZ:w.heap[p]?=some (.cells #[.string a,ab i,ab j,.string b] 27 (0,0))) (hS:∀q∈S,q=p\/n₀<=q) (hk:A5 w w' S) (hn:n₀<=w.heap.size):Cz w' n₀ N zy pg yZ yT gN yQ:=by
 have hT:∀t,t<N.nT->∀gT,yZ=some (af gT 0)->gT<n₀->gT∉S:=λt ht gT e hlt hm=>by
  obtain⟨gT',gs,cs,h1,h2,_,h4,_⟩:=h.Zb t ht;rw[e]at h1;injection h1 with h1
  injection h1 with h1 _ _
  subst h1
  rcases hS _ hm with e2 |e2
  ·exact OV hZ h4 (.inl ⟨_,_,_,rfl⟩) e2
  ·omega
 refine⟨h.ok,h.Dm,h.Ch,h.Nh,h.lT,h.lN,h.twl,h.Tu,h.hgN,h.rules,λt ht=>?_,λt ht=>?_,λn nm hn'=>?_⟩
 ·obtain⟨gT,h1,h2,h3,h4⟩:=h.toks t ht
  have hg:=hT t ht gT h1 h2;exact⟨gT,h1,h2,(hk.cell acB hg).trans h3,(hk.cell acB hg).trans h4⟩
 ·obtain⟨gT,gs,cs,h1,h2,h3,h4,h5,h6,h7⟩:=h.Zb t ht
  have hg:=hT t ht gT h1 h2;have Ka:gs∉S:=λhm=>by
   rcases hS gs hm with e |e
   ·exact OV hZ (h7 0 (by omega)) (.inr (.inr ⟨rfl,_,_,rfl⟩)) e
   ·omega
  exact⟨gT,gs,cs,h1,h2,(hk.cell acB hg).trans h3,(hk.cell acB hg).trans h4,h5,h6,λu hu=>(hk.cell (by show gs<w.heap.size;omega) Ka).trans (h7 u hu)⟩
 ·obtain⟨h1,v,h2,gR,Pz,rfl,h4,h5,h6⟩:=h.names n nm hn'
  have hgN:=h.hgN;have hg:gN∉S:=λhm=>by
   rcases hS gN hm with e |e
   ·exact OV hZ h2 (.inl ⟨_,_,_,rfl⟩) e
   ·omega
  refine⟨(hk.cell abe hg).trans h1,_,(hk.cell abe hg).trans h2,gR,Pz,rfl,h4,h5,λr ps hr=>?_⟩;obtain⟨q,h7,h8⟩:=h6 r ps hr;have Nz:gR∉S:=λhm=>by
   obtain⟨ad,cap,e1,_⟩:=h8
   rcases hS gR hm with e |e
   ·exact OV hZ h7 (.inl ⟨_,_,_,e1⟩) e
   ·omega
  exact⟨q,(hk.cell (by show gR<w.heap.size;omega) Nz).trans h7,h8.pair hZ hS hk hn⟩
theorem Aw.pair {k:List Fa} (h:Aw w n₀ tb kb N zy pg yZ yT gN yQ k) (hZ:w.heap[p]?=some (.cells #[.string a,ab i,ab j,.string b] 27 (0,0))) (htb:n₀<=tb) (hk:A5 w w' [tb,p]) (hv:Au w' tb yZ N.nT yT gN N.nN yQ kb R E):Aw w' n₀ tb kb N zy pg yZ yT gN yQ k where
 gr:=h.gr.pair hZ (λq hq=>by
  simp only[bk,ko,su]at hq
  rcases hq with rfl |rfl
  ·exact .inr htb
  ·exact .inl rfl) hk h.ln
 n0:=h.n0
 ne:=h.ne
 lf:=hv.lt
 f0:=hv.Cq.1
 f1:=hv.Cq.2.1
 f2:=hv.Cq.2.2
 kn:=h.kn.keeps hk (λhm=>by
  simp only[bk,ko,su]at hm
  rcases hm with e |e
  ·exact h.ne e.symm
  ·obtain⟨c,hc⟩:=BQ h.kn.2 (g:=kb) rfl
   exact GI hc hZ (by decide) e)
end
theorem pU  (h:Cz w n₀ N zy pg yZ yT gN yQ) {r:Nat × List Pt} (hr:r∈N.rules):∃(n:Nat) (nm:Nm),pg[n]?=some nm/\∃i:Nat,nm.2[i]?=some r.2:=by
 rw[h.rules]at hr;obtain⟨x,hx,h2⟩:=qd.1 hr;obtain⟨ps,hps,rfl⟩:=dm.1 h2;have h3:=kf.1 hx;obtain⟨i,hi,e⟩:=jv.1 hps;exact⟨x.2,x.1,h3,i,zM.2 ⟨hi,e⟩⟩
theorem pD (w:World) (n₀ tb kb:Nat) (N:NG) (zy:List ByteArray) (pg:List Nm) (yZ:Option Addr) (yT gN yQ:Nat) (k:List Fa) (R0:Nat->Nat->Int) (E:Nat->Nat) (h:Aw w n₀ tb kb N zy pg yZ yT gN yQ k) (hv:Au w tb yZ N.nT yT gN N.nN yQ kb R0 E) (Df:∀n,AQ k n<2 ^21) (hfo:∀n,BC k n<2 ^21)
  (hT:TabAt 1 Lib.deBruijn32tab w) (h0:1<n₀) (htb:n₀<=tb)
  (hlen:∀(n:Nat) (nm:Nm) (r:Nat) (ps:List Pt),pg[n]?=some nm->nm.2[r]?=some ps->ps.length<=8/\BE N ps)
  (acX:∀(n:Nat) (nm:Nm) (r:Nat),pg[n]?=some nm->r<nm.2.length->∀t∈BG (FE k pg n r),t<=N.nT):
  Calls Tryz.prog 81 #[ac tb] w λe w'=>∃pn pr po pt fd R,e=.returned (.tuple #[.agg #[.string pn,ab pr,ab po,.string pt],.bool fd])/\Au w' tb yZ N.nT yT gN N.nN yQ kb R E/\A5 w w' [tb]/\
   (fd=true->∃(n q r t:Nat) (nm:Nm),pn=nm.1/\pr=(q:Int)/\po=(r:Int)/\pt=D6 zy N.nT t/\pg[n]?=some nm/\q<r/\r<nm.2.length/\t<=N.nT/\(FE k pg n q).testBit t=true/\(FE k pg n r).testBit t=true/\
     ∀m,m<n->∀nm':Nm,pg[m]?=some nm'->∀t,t<21->JD (FE k pg m) nm'.2.length (R m) t)/\
    (fd=false->∀(m:Nat) (nm':Nm),pg[m]?=some nm'->∀t,t<21->JD (FE k pg m) nm'.2.length (R m) t):=by
 refine(sM w n₀ tb kb N zy pg yZ yT gN yQ k R0 E h hv Df hfo hT h0 htb hlen acX).mono ?_;rintro e w' ⟨R,h1,h2,⟨n,q,r,t,nm,rfl,h3⟩ | ⟨rfl,h3⟩⟩
 ·exact⟨_,_,_,_,_,R,rfl,h1,h2,λ_=>⟨n,q,r,t,nm,rfl,rfl,rfl,rfl,h3⟩,λh=>by cases h⟩
 ·exact⟨_,_,_,_,_,R,rfl,h1,h2,λh=>(by cases h),λ_=>h3⟩
structure jU (N:NG) (zy:List ByteArray) (pg:List Nm) (k4:List Fa) (w':World) (tb:Nat):Prop where
 ex:∃n₀ kb yZ yT gN yQ R E,n₀<=tb/\Aw w' n₀ tb kb N zy pg yZ yT gN yQ k4/\Au w' tb yZ N.nT yT gN N.nN yQ kb R E/\(∀m,m<20->E m<=939524097)/\((∀r∈N.rules,FN (Bh k4) r.2=false)->E=λ_=>0)/\
  ∀(m:Nat) (nm':Nm),pg[m]?=some nm'->∀t,t<21->JD (FE k4 pg m) nm'.2.length (R m) t
theorem rP (s:ByteArray) (w:World) (N:NG) (zy:List ByteArray) (pg:List Nm) (hT:TabAt 1 Lib.deBruijn32tab w) (hN:N.Ok) (C:List Fa->List Fa->List Fa->Prop)
  (hlen:∀(n:Nat) (nm:Nm) (r:Nat) (ps:List Pt),pg[n]?=some nm->nm.2[r]?=some ps->ps.length<=8/\BE N ps)
  (hS:∀W,Below w.heap.size w W->Calls Tryz.prog 68 #[.string s] W λe w'=>Below W.heap.size W w'/\∃k2 k3 k4 n₀ kb yZ yT gN yQ,C k2 k3 k4/\IF N k2 k3/\FM N k3 k4/\e=.returned (.tuple #[.agg #[.slice yZ N.nT yT,ae gN N.nN yQ,ae kb N.nN N.nN],.string ByteArray.empty,ab 0])/\n₀<=kb/\W.heap.size<=n₀/\Cz w' n₀ N zy pg yZ yT gN yQ/\zY w' kb N.nN k4):
  Calls Tryz.prog 49 #[.string s] w λe w'=>Below w.heap.size w w'/\∃k2 k3 k4,C k2 k3 k4/\
   ((∃(n q r t:Nat) (nm:Nm),e=.returned (.tuple #[.pointer none,.agg #[.string nm.1,ab q,ab r,.string (D6 zy N.nT t)],ab 9])/\pg[n]?=some nm/\q<r/\r<nm.2.length/\t<=N.nT/\(FE k4 pg n q).testBit t=true/\(FE k4 pg n r).testBit t=true/\
     ∃R:Nat->Nat->Int,∀m,m<n->∀nm':Nm,pg[m]?=some nm'->∀t,t<21->JD (FE k4 pg m) nm'.2.length (R m) t)\/
    (∃tb,e=.returned (.tuple #[ac tb,.agg #[.string ByteArray.empty,ab 0,ab 0,.string ByteArray.empty],ab 0])/\jU N zy pg k4 w' tb)):=by
 have HS:=hid hS;have HT:=hid hT;have HNO:=hid hN;have HL:=hid hlen;have Dh:1<w.heap.size:=bu _ _ (hT 0 (by decide));clear hS hT hN hlen
 go_enter Tryz.func49,Tryz.ntmps49
 go_upto_region 4 with(go_at_call 68;refine(HS.out _ (Aj (ah _ _))).mono ?_;rintro e w1 ⟨hb1,k2,k3,k4,n₀,kb,yZ,yT,gN,yQ,hC,Ea,hi4,rfl,hn0,hwn,hP,hK⟩;rw[bh]at hb1 hwn;have Z1:w1.heap[w.heap.size]?=some (.cells #[.string ⟨#[]⟩,ab 0,ab 0,.string ⟨#[]⟩] 27 (0,0)):=(hb1.block w.heap.size (by omega)).trans (bg w _);have zL:Hid (Below w.heap.size w w1):=hid ((Aj (ah _ _)).trans (hb1.mono (by omega)));have Qc:=hid Z1;have Cs:w.heap.size<w1.heap.size:=ak Z1;have HX:=hid (And.intro hn0 (And.intro hwn (And.intro hP hK)));have HI:=hid (And.intro hC (And.intro Ea hi4));clear hb1 Z1 hn0 hwn hP hK hC Ea hi4)
 refine wp_region_lit ?_
 go_step
 go_step
 go_step
 obtain⟨cs,hcs⟩:=qF ((Value.slice yZ N.nT yT:: ae gN N.nN yQ:: ae kb N.nN N.nN::List.replicate 440 (ab 0)).toArray);refine b7 rfl 166 #[(0,.tmp 22)] rfl [(0,.agg #[.slice yZ N.nT yT,ae gN N.nN yQ,ae kb N.nN N.nN])] ?_ cs (by rw[hcs];exact eY _ _ _) ?_
 ·simp only[List.map_toArray,jx,um]
  go_simp
 have Dr:=hid (vZ _ _ _ cs hcs);clear hcs
 try simp only[Act.put,vv,xy,vk]
 obtain⟨W1,hW1⟩:=qE (w1.alloc (.cells #[.slice yZ N.nT yT,ae gN N.nN yQ,ae kb N.nN N.nN] 138));rw[hW1];have Zo:Hid (Below w1.heap.size w1 W1):=hid (by rw[<-hW1];exact Aj (ah _ _));have hs1:w1.heap.size<W1.heap.size:=by rw[<-hW1,bh];omega
 clear hW1;have hkl:=HX.out.2.2.2.lt;have hTB:=xO W1 yZ N.nT yT gN N.nN yQ kb cs Dr.out.1 Dr.out.2.1 Dr.out.2.2.1 Dr.out.2.2.2.1 Dr.out.2.2.2.2;have hFX:Aw (W1.alloc (.cells cs 166)) n₀ W1.heap.size kb N zy pg yZ yT gN yQ k4:=
  {gr:=(HX.out.2.2.1.below (Zo.out.mono (by have:=HX.out.1;omega))).below ((ah n₀ W1).alloc (by have:=HX.out.1;omega) _),n0:=HX.out.1,ne:=by omega,lf:=hTB.lt,f0:=hTB.Cq.1,f1:=hTB.Cq.2.1,f2:=hTB.Cq.2.2,kn:=(HX.out.2.2.2.keeps (A5.zQ Zo.out []) (by simp)).keeps ((A5.refl W1 []).alloc _) (by simp)}
 have Rk:=kN HNO.out HI.out.2.1;have hwb:Below w.heap.size w (W1.alloc (.cells cs 166)):=Aj (zL.out.trans (Zo.out.mono (by omega)));have abO:n₀<=W1.heap.size:=by have:=HX.out.1;omega
 have HFI:=hid (pD (W1.alloc (.cells cs 166)) n₀ W1.heap.size kb N zy pg yZ yT gN yQ k4 _ _ hFX hTB (λn=>by rw[HI.out.2.2.fh];exact HI.out.2.1.lt n) (λn=>HI.out.2.2.lt n) (TabAt.below HT.out hwb Dh) (by have:=HX.out.2.1;omega) abO HL.out
  (λn nm r hn hr t ht=>by
   rcases jz N.nT t with h2 |h2
   ·exfalso
    obtain⟨ps,hps⟩:∃ps,nm.2[r]?=some ps:=⟨_,gE hr⟩;have h1:=PS ht;rw[SR k4 hn hps,K2]at h1;have e1:(λn=>(AQ k4 n).testBit t)=λ_=>false:=by funext m;rw[HI.out.2.2.fh];exact Rk m t (by omega)
    rw[e1,NY (by omega) ps (HL.out n nm r ps hn hps).2,eQ HNO.out Rk HI.out.2.2 n t h2]at h1;simp at h1
   ·exact h2))
 have HFX:=hid hFX;have Yw:=hid hwb;clear hTB hFX hwb Rk HT HX Dr
 go_upto_region 6 with(go_at_call 81;refine HFI.out.mono ?_;rintro e w3 ⟨pn,pr,po,pt,fd,R,rfl,hv3,hk3,h3t,h3f⟩;have Fo:=hid hv3;have HK3:=hid hk3;have H3:=hid (And.intro h3t h3f);have hs3:=hk3.size;rw[bh]at hs3;clear hv3 hk3 h3t h3f)
 have ajd:w.heap.size<W1.heap.size:=by omega
 have Z3:w3.heap[w.heap.size]?=some (.cells #[.string ⟨#[]⟩,ab 0,ab 0,.string ⟨#[]⟩] 27 (0,0)):=(HK3.out.block _ Kk zG).trans ((dw _ _ _ ajd).trans ((Zo.out.block _ Cs).trans Qc.out));have aje:=ak Z3;obtain⟨W4,Be⟩:=qE (w3.alloc (.cells #[.string pn,ab pr,ab po,.string pt] 27));have Z4:W4.heap[w.heap.size]?=some (.cells #[.string ⟨#[]⟩,ab 0,ab 0,.string ⟨#[]⟩] 27 (0,0)):=by rw[<-Be];exact(dw _ _ _ aje).trans Z3
 have Y4:W4.heap[w3.heap.size]?=some (.cells #[.string pn,ab pr,ab po,.string pt] 27 (0,0)):=by rw[<-Be];exact bg w3 _
 have Ke:Hid (A5 w3 W4 []):=hid (by rw[<-Be];exact(A5.refl w3 []).alloc _);rw[Be];have hl4:w3.heap.size<W4.heap.size:=ak Y4;have aaa:Hid (Below w.heap.size w W4):=hid (Yw.out.trans (((HK3.out.below (B:=w.heap.size) Kk (λq hq=>by have:=mS.1 hq;omega)).trans (Ke.out.below (by omega) (λq hq=>by cases hq)))));have HV4:=hid (Fo.out.keeps Ke.out (by simp));have HZ4:=hid Z4;clear Be Z3 Fo Qc zL Yw Zo HFI;cases fd
 ·have alS:W1.heap.size<w3.heap.size:=by omega
  have XF4:Aw W4 n₀ W1.heap.size kb N zy pg yZ yT gN yQ k4:=HFX.out.tab (S:=[W1.heap.size]) (λq hq=>by have:=mS.1 hq;subst this;exact⟨abO,HFX.out.ne⟩) (HK3.out.trans (Ke.out.mono (λq hq=>by cases hq))) HV4.out;have HME:=hid (fV W4 n₀ W1.heap.size kb N zy pg yZ yT gN yQ k4 _ _ XF4 HV4.out (λn=>by rw[HI.out.2.2.fh];exact HI.out.2.1.lt n) abO (λm hm=>by decide) (λr hr=>by
   obtain⟨n,nm,hn,i,hi⟩:=pU XF4.gr hr;exact HL.out n nm i r.2 hn hi))
  have HXF:=hid XF4;clear XF4 Y4 Z4
  go_wp2_with (go_at_call 82;refine HME.out.mono ?_;rintro e w5 ⟨rfl,Ag,E',Ur,hE2,Zz⟩;have Hq:=hid Ag;have Pw:=hid (And.intro Ur (And.intro hE2 Zz));have Z5:=(Ag.block w.heap.size (by omega) zG).trans HZ4.out;have g0:w5.cell? (af w.heap.size 0)=some (.string ⟨#[]⟩):=A0 Z5;have g1:w5.cell? (af w.heap.size 1)=some (ab 0):=A0 Z5;have g2:w5.cell? (af w.heap.size 2)=some (ab 0):=A0 Z5;have g3:w5.cell? (af w.heap.size 3)=some (.string ⟨#[]⟩):=A0 Z5;have q0:w5.frozen? (af w.heap.size 0)=false:=A7 Z5;have q1:w5.frozen? (af w.heap.size 1)=false:=A7 Z5;have q2:w5.frozen? (af w.heap.size 2)=false:=A7 Z5;have q3:w5.frozen? (af w.heap.size 3)=false:=A7 Z5;have Zw:w.heap.size<w5.heap.size:=ak Z5;have HZ5:=hid Z5;clear Ag Ur hE2 Zz Z5)
  have hrow:=AA (j:=3) (AA (j:=2) (AA (j:=1) (AA (j:=0) HZ5.out (.string ⟨#[]⟩)) (ab 0)) (ab 0)) (.string ⟨#[]⟩);have Cp:A5 w5 ((((w5.setCell (af w.heap.size 0) (.string ⟨#[]⟩)).setCell (af w.heap.size 1) (ab 0)).setCell (af w.heap.size 2) (ab 0)).setCell (af w.heap.size 3) (.string ⟨#[]⟩)) [w.heap.size]:=((((A5.refl w5 [w.heap.size]).setCell (by simp) _).setCell (by simp) _).setCell (by simp) _).setCell (by simp) _;have hv6:=Pw.out.2.2.keeps Cp zG;have hbk:Below w.heap.size W4 ((((w5.setCell (af w.heap.size 0) (.string ⟨#[]⟩)).setCell (af w.heap.size 1) (ab 0)).setCell (af w.heap.size 2) (ab 0)).setCell (af w.heap.size 3) (.string ⟨#[]⟩)):=(Hq.out.below (by omega) (λq hq=>by have:=mS.1 hq;omega)).trans (Cp.below (by omega) (λq hq=>by have:=mS.1 hq;omega));refine⟨rfl,_,SU (p:=3) (t:=2) (u:=4) (ty:=27) rfl _ _ w.heap.size _ _ _ _ rfl hrow Tryz.underlying27 rfl yM,?_⟩
  refine⟨aaa.out.trans hbk,k2,k3,k4,HI.out.1,.inr ⟨W1.heap.size,rfl,⟨n₀,kb,yZ,yT,gN,yQ,R,E',abO,?_,hv6,Pw.out.1,Pw.out.2.1,λm nm' hm t ht=>H3.out.2 (by simp) m nm' hm t ht⟩⟩⟩;exact HXF.out.pair HZ4.out abO ((Hq.out.mono (λq hq=>by have:=mS.1 hq;simp[this])).trans (Cp.mono (λq hq=>by have:=mS.1 hq;simp[this]))) hv6
 ·have g0:W4.cell? (af w.heap.size 0)=some (.string ⟨#[]⟩):=A0 Z4
  have g1:W4.cell? (af w.heap.size 1)=some (ab 0):=A0 Z4;have g2:W4.cell? (af w.heap.size 2)=some (ab 0):=A0 Z4;have g3:W4.cell? (af w.heap.size 3)=some (.string ⟨#[]⟩):=A0 Z4;have q0:W4.frozen? (af w.heap.size 0)=false:=A7 Z4;have q1:W4.frozen? (af w.heap.size 1)=false:=A7 Z4;have q2:W4.frozen? (af w.heap.size 2)=false:=A7 Z4;have q3:W4.frozen? (af w.heap.size 3)=false:=A7 Z4;have d0:W4.cell? (af w3.heap.size 0)=some (.string pn):=A0 Y4;have d1:W4.cell? (af w3.heap.size 1)=some (ab pr):=A0 Y4;have d2:W4.cell? (af w3.heap.size 2)=some (ab po):=A0 Y4;have d3:W4.cell? (af w3.heap.size 3)=some (.string pt):=A0 Y4;have Zw:w.heap.size<W4.heap.size:=ak Z4;clear Z4 Y4;go_wp2;have aaY:w3.heap.size∉ [w.heap.size]:=by simp;omega
  have Ws:∀w',A5 W4 w' [w.heap.size]->(w'.cell? (af w3.heap.size 0)=some (.string pn)/\w'.cell? (af w3.heap.size 1)=some (ab pr)/\w'.cell? (af w3.heap.size 2)=some (ab po)/\w'.cell? (af w3.heap.size 3)=some (.string pt))/\Hid (A5 W4 w' [w.heap.size]):=λw' hk=>⟨⟨(hk.cell (by exact hl4) aaY).trans d0,(hk.cell (by exact hl4) aaY).trans d1,(hk.cell (by exact hl4) aaY).trans d2,(hk.cell (by exact hl4) aaY).trans d3⟩,hid hk⟩
  have Uk:=hid Ws;clear Ws;refine dy (S:=λw'=>(w'.cell? (af w3.heap.size 0)=some (.string pn)/\w'.cell? (af w3.heap.size 1)=some (ab pr)/\w'.cell? (af w3.heap.size 2)=some (ab po)/\w'.cell? (af w3.heap.size 3)=some (.string pt))/\Hid (A5 W4 w' [w.heap.size])) yM (Uk.out _ (A5.refl _ _).drew) (λhH=>?_);refine tB 0 hH ?_;refine tB 1 hH ?_;refine tL ?_;refine tS 2 λK hK=>?_
  refine tM ?_;go_simp;refine hK.out _ _ ?_ λhH=>?_
  ·exact Uk.out _ ((((hH.2.out.setCell (by simp) _).setCell (by simp) _).setCell (by simp) _).setCell (by simp) _)
  clear hK K;refine tB 3 hH ?_;refine tL ?_;refine bq yM ?_ _;have HKE:=hid hH.2.out;clear hH g0 g1 g2 g3 q0 q1 q2 q3 d0 d1 d2 d3;go_wp2;have hrow:=AA (j:=3) (AA (j:=2) (AA (j:=1) (AA (j:=0) HZ4.out (.string pn)) (ab pr)) (ab po)) (.string pt);obtain⟨n,q,r,t,nm,rfl,rfl,rfl,rfl,h3⟩:=H3.out.1 (by simp);refine⟨rfl,_,SU (p:=3) (t:=2) (u:=4) (ty:=27) rfl _ _ w.heap.size _ _ _ _ rfl hrow Tryz.underlying27 rfl yM,?_⟩;refine⟨aaa.out.trans (HKE.out.below (by omega) (λq hq=>by have:=mS.1 hq;omega)),k2,k3,k4,HI.out.1,.inl ⟨n,q,r,t,nm,rfl,h3.1,h3.2.1,h3.2.2.1,h3.2.2.2.1,h3.2.2.2.2.1,h3.2.2.2.2.2.1,R,h3.2.2.2.2.2.2⟩⟩
end
theorem agF {P:Prop} (h:P:=by
  rw[hd]at HC;clear hd hz
  go_enter Tryz.func219,Tryz.ntmps219
  go_wp2_with (go_at_call 236;refine HC.out.mono ?_;rintro e w2 ⟨rfl,hb⟩;have HB:=hid hb;clear hb)
  go_ret;exact⟨rfl,HB.out⟩):P:=h
theorem RU {wb:Nat} (hP:Cz w n₀ N zy pg yZ yT gN yQ) (h0:n₀<=w.heap.size)
  (hV:Au w tb yZ N.nT yT gN N.nN yQ kb R E) (hw:w.cell? (af wb 0)=some (ac tb)) (t u:Nat) (ht:t<N.nT) (hu:u<N.nT):
  Calls Tryz.prog 219 #[ac wb,ab t,ab u] w λe w'=>e=.returned (ab (FQ N t u))/\Below w.heap.size w w':=by
 by_cases he:t=u
 ·have hi:((t:Int)==(u:Int))=true:=by rw[kr];omega
  have hk:FQ N t u=0:=by unfold FQ KB;simp[he]
  rw[hk];clear hP hV he ht hu hk h0
  go_enter Tryz.func219,Tryz.ntmps219
  go_wp2;go_ret;exact⟨rfl,ah _ _⟩
 ·have hi:((t:Int)==(u:Int))=false:=by rw[mh];omega
  obtain⟨c4,c5,_⟩:=hV.Cq;have CS:=bV hP h0 t u ht hu;obtain⟨nN,hn1⟩:=qF (N.nN);obtain⟨nT,hn2⟩:=qF (N.nT);have hk:FQ N t u=if 0<N.swp t u then N.swp t u else 1048576:=by
   unfold FQ KB AJ;rw[aq he]
   by_cases h:N.swp t u=0
   ·rw[ay h,aq (by omega)];rfl
   ·rw[aq h,ay (by omega)];rfl
  rw[hk];obtain⟨s,hs⟩:=qF (N.swp t u);rw[<-hn1,<-hn2,<-hs]at CS;rw[<-hn2]at c4;rw[<-hn1]at c5;rw[<-hs];have HC:=hid CS;clear hP hV he ht hu hk h0 hs hn1 hn2 CS
  by_cases hz:0<s
  ·have hd:decide (0<s)=true:=iz hz
   rw[ay hz];exact agF
  ·have hd:decide (0<s)=false:=gy hz
   rw[aq hz];exact agF
theorem O3 (u v:Value) (w:World):
  Calls Tryz.prog 118 #[.agg #[u,v]] w λe w'=>e=.returned (.agg #[.bool true,ab 0])/\Below w.heap.size w w':=by
 go_enter Tryz.func118,Tryz.ntmps118
 go_wp2;refine⟨rfl,_,GC (p:=2) (ty:=235) rfl _ _ (w.heap.size+1) _ _ _ _ rfl (PB w _ _ _ _) Tryz.underlying235 rfl yM,?_⟩;exact⟨rfl,(IY w _).alloc Kk _⟩
theorem ZZ {nT nN:Nat} (h:Au w tb yZ nT yT gN nN yQ kb R E) (n:Nat) (hn:n<20):
  Calls Tryz.prog 213 #[ac tb,ab n] w λe w'=>e=.returned (ab (E n))/\w=w':=by
 have h1:w.cell? (af tb (423+n))=some (ab (E n)):=by
  obtain⟨cs,h1,_,_,_,_,_,h2⟩:=h;exact(A0 h1).trans (h2 n hn)
 clear h
 go_enter Tryz.func213,Tryz.ntmps213
 go_wp2;go_ret;exact⟨rfl,rfl⟩
theorem RL (b x y:Nat) (hx:x<=939524097) (hy:y<=939524097) (w:World) (h:w.cell? (af b 2)=some (ab x)) (hf:w.frozen? (af b 2)=false):
  Calls Tryz.prog 171 #[ac b,ab y] w λe w'=>e=.returned (.tuple #[])/\w'=w.setCell (af b 2) (ab (DR x y)):=by
 have CA:Hid (∀W,Calls Tryz.prog 184 #[ab x,ab y] W λe w'=>e=.returned (ab (DR x y))/\W=w'):=hid λW=>N4 x y hx hy W
 go_enter Tryz.func171,Tryz.ntmps171
 go_wp2_with (go_at_call 184;refine(CA.out _).mono ?_;rintro e w' ⟨rfl,rfl⟩)
 exact⟨rfl,_,qz rfl _ _ _,rfl,rfl⟩
theorem aQ  (hP:Cz w n₀ N zy pg yZ yT gN yQ)
  (hV:Au w tb yZ N.nT yT gN N.nN yQ kb R E) (n t q:Nat) (ht:t<21) (nm:Nm) (ps:List Pt) (hn:pg[n]?=some nm) (zT:n<N.nN) (hR:R n t=(q:Int)) (hr:nm.2[q]?=some ps):
  Calls Tryz.prog 174 #[ac tb,ab n,ab t] w λe w'=>∃v,e=.returned (.tuple #[v,ab q])/\D1 w n₀ v ps/\w=w':=by
 have Bi:=hP.Dm;obtain⟨_,v,c1,gR,Pz,rfl,Nz,Fy,hrl⟩:=hP.names n nm hn;obtain⟨p,c2,hp⟩:=hrl q ps hr;have c3:=hV.row (n:=n) (t:=t) (by omega) ht;rw[hR]at c3;obtain⟨_,c4,_⟩:=hV.Cq;have HP:=hid hp;have hqL:=(zM.1 hr).1;obtain⟨nL,Ry⟩:=qF (nm.2.length);rw[<-Ry]at c1 Fy hqL;obtain⟨nN,hn1⟩:=qF (N.nN);rw[<-hn1]at c4 Bi zT;obtain⟨ad,cap,rfl,_,_⟩:=hp;clear hP hV hrl hn hr Ry hn1 hR
 go_enter Tryz.func174,Tryz.ntmps174
 go_wp2
 go_ret2
 exact⟨_,rfl,HP.out,rfl⟩
theorem j7 (s t:Nat) (hs:s<2097152) (ht:t<=20) (w:World):
  Calls Tryz.prog 232 #[.int .u32 s,ab t] w λe w'=>e=.returned (.bool (s.testBit t))/\w=w':=by
 obtain⟨x,hx⟩:∃x:Nat,x=1<<<t:=⟨_,rfl⟩;have CO:Hid (∀W,Calls Tryz.prog 163 #[ab t] W λe w'=>e=.returned (.int .u32 (x:Int))/\W=w'):=hid λW=>by rw[hx];exact U6 W t ht
 have HX:=hid hx;clear hx
 go_enter Tryz.func232,Tryz.ntmps232
 go_wp2_with (go_at_call 163;refine(CO.out _).mono ?_;rintro e w2 ⟨rfl,rfl⟩)
 go_ret;have ajf:x<4294967296:=by
  rw[HX.out,qx];exact zo (qg (by omega) ht) (by decide)
 have hA:((((s&&& x:Nat):Int)) !=0)=s.testBit t:=by
  rw[HX.out,qx]
  by_cases hb:s.testBit t=true
  ·have h1:(s&&& 2 ^t).testBit t=true:=by rw[Nat.testBit_and,hb,Nat.testBit_two_pow_self];rfl
   have h2:s&&& 2 ^t≠0:=λe=>by rw[e]at h1;simp at h1
   obtain⟨z,hz⟩:=qF (s&&& 2 ^t);rw[hb,<-hz];rw[<-hz]at h2;simpa using h2
  ·have hb':s.testBit t=false:=by simpa using hb
   have h1:s&&& 2 ^t=0:=Nat.eq_of_testBit_eq λi=>by
    rw[Nat.testBit_and,xq,Nat.zero_testBit]
    by_cases e:t=i
    ·subst e;rw[hb'];rfl
    ·simp[e]
   rw[h1,hb'];rfl
 refine⟨?_,rfl⟩;show Ending.returned (Value.bool (bits .and .u32 (s:Int) (x:Int) !=0))=_;rw[u32_and_nat s x (by omega) ajf,hA]
theorem SW {fb:Nat}{k:List Fa} (h:Aw w n₀ fb kb N zy pg yZ yT gN yQ k) (Df:∀n,AQ k n<2 ^21)
  (n t:Nat) (hn:n<N.nN) (ht:t<=20):
  Calls Tryz.prog 212 #[ac fb,ab n,ab t] w λe w'=>e=.returned (.bool ((AQ k n).testBit t))/\w=w':=by
 obtain⟨a,ha⟩:∃a,k[n]?=some a:=⟨_,gE (by rw[h.kn.1];exact hn)⟩;obtain⟨c0,c1,c2,c3⟩:=h.kn.cells ha;have Bi:=h.gr.Dm;have f2:=h.f2;have hf:=Df n;rw[kQ ha]at hf ⊢;have CH:Hid (∀W,Calls Tryz.prog 232 #[.int .u32 a.first,ab t] W λe w'=>e=.returned (.bool (a.first.testBit t))/\W=w'):=hid λW=>j7 a.first t (by omega) ht W
 obtain⟨nN,hn1⟩:=qF (N.nN);rw[<-hn1]at f2 Bi hn;clear h Df ha hn1 hf
 go_enter Tryz.func212,Tryz.ntmps212
 go_wp2_with (go_at_call 232;refine(CH.out _).mono ?_;rintro e w2 ⟨rfl,rfl⟩)
 go_ret;exact⟨rfl,rfl⟩
theorem o9  (hP:Cz w n₀ N zy pg yZ yT gN yQ) (h0:n₀<=w.heap.size) (n:Nat) (nm:Nm) (hn:pg[n]?=some nm) (zT:n<N.nN):
  Calls Tryz.prog 173 #[.agg #[.slice yZ N.nT yT,ae gN N.nN yQ],.agg #[.bool true,ab n]] w λe w'=>e=.returned (.string nm.1)/\Below w.heap.size w w':=by
 have Bi:=hP.Dm;obtain⟨c1,_⟩:=hP.names n nm hn;have hgN:gN<w.heap.size:=lL hP.hgN h0;obtain⟨nN,hn1⟩:=qF (N.nN);obtain⟨nT,hn2⟩:=qF (N.nT);obtain⟨s,hs⟩:=qF (nm.1);rw[<-hs]at c1 ⊢;rw[<-hn1]at Bi zT ⊢;rw[<-hn2];clear hP hn hn1 hn2 hs h0
 go_enter Tryz.func173,Tryz.ntmps173
 go_wp2;go_ret;exact⟨rfl,(IY w _).alloc Kk _⟩
theorem oQ  (hP:Cz w n₀ N zy pg yZ yT gN yQ) (h0:n₀<=w.heap.size) (t:Nat) (ht:t<N.nT):
  Calls Tryz.prog 173 #[.agg #[.slice yZ N.nT yT,ae gN N.nN yQ],.agg #[.bool false,ab t]] w λe w'=>e=.returned (.string (nth zy t))/\Below w.heap.size w w':=by
 have Bi:=hP.Ch;obtain⟨gT,rfl,Je,c1,_⟩:=hP.toks t ht;have Je:gT<w.heap.size:=lL Je h0;obtain⟨nN,hn1⟩:=qF (N.nN);obtain⟨nT,hn2⟩:=qF (N.nT);obtain⟨s,hs⟩:=qF (nth zy t);rw[<-hs]at c1 ⊢;rw[<-hn2]at Bi ht ⊢;rw[<-hn1];clear hP hn1 hn2 hs h0
 go_enter Tryz.func173,Tryz.ntmps173
 go_wp2;go_ret;exact⟨rfl,(IY w _).alloc Kk _⟩
end Go.Proofs.YtjjggdcnpndgjaaGreatDoor
