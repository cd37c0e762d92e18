import Derived.Test.YtjjggdcnpndgjaaGreatDoorCJ31
set_option linter.unusedSimpArgs false
set_option maxHeartbeats 2000000
set_option maxRecDepth 100000
namespace Go.Proofs.YtjjggdcnpndgjaaGreatDoor
open Go.RowKit Go.Shelf
variable {A C W:World}{Q:Aq}{cn ct:Nat->Nat->Nat->Wt}{gi s:Nat}
theorem XR {α:Type}{F:Fence}{n:Nat}{P:Program}{g:Operand}{ps:Array Tmp}{assign body:Code}{Q:Exit->Act->World->Prop}{a:Act}{w:World}
  (hro:F.round=none) (h1:1<=n) {gf:Nat}{lb:Array Value} (hg:a.eval g=.func (.func gf) #[] lb) (hF:F.fn gf) (he:∀args w,(callFunc gf args).run P w=.ok (.enter gf args) w)
  {enc:α->Array Value} (aj9:∀x,(enc x).size=ps.size) {Ord:List α->Prop}{S:List α->Prop}{K:World->World->Prop}
  (hseq:∀(l:Nat) (J:List α->World->Prop) (W:World),Below w.heap.size w W->(∀pre x V,J pre V->Ord (pre++ [x])->YieldAt F (n - 1 - 1) P l (enc x) V λe V'=>e=.returned (.bool true)/\J (pre++ [x]) V'/\K V V')->J [] W->
   CallsIn F (n - 1) P gf (#[.func (.yield l) #[] #[]]++lb) W λe W'=>(∃v,e=.returned v)/\∃ys,S ys/\J ys W')
  (hKt:∀{A B C:World},K A B->K B C->K A C) (hKb:∀(W:World) (l:Nat) (o o':Obj),w.heap.size<=l->W.heap[l]?=some o->o.isCells=false->K W (W.putObj l o'))
  (I:List α->World->Prop) (hI:OwnFrom w.heap.size I) (h0:I [] w) (a₁:α->Act)
  (hassign:∀(l:Nat) (x:α) (W:World) (R:Act->World->Prop),R (a₁ x) W->assign.wpIn (F.inRound l) (n - 1 - 1) P (Exit.then R (λ_ _ _=>False)) {tmps:=(ps.zip (enc x)).foldl (λt (p,v)=>t.setIfInBounds p v) a.tmps,defers:=[]} W)
  (hbody:∀(l:Nat) (pre:List α) (x:α) (W:World),I pre W->Ord (pre++ [x])->body.wpIn (F.inRound l) (n - 1 - 1) P (ownPostG w.heap.size K I (λ_ _ _=>False) (pre++ [x]) W) (a₁ x) W)
  (hdone:∀(D:Nat) (ys:List α) (W:World),w.heap.size<=D->S ys->I ys W->W.heap[D]?=some (.deferred (some []))->Q .normal {a with defers:={target:=.collected D,args:= #[]}::a.defers} W):
  (Code.rangeFunc g ps assign body).wpIn F n P Q a w:=by
 refine wpIn_rangeFunc ?_;intro fn hfn;rw[hro]
 let R:LoopState->Option Code->Loop:=λst pe=>{state:=st,pending:=pe,fn,tmps:=a.tmps,params:=ps,assign,body,defers:=w.heap.size}
 let T:Loop->World->Prop:=λr V=>V.heap[w.heap.size+1]?=some (.loop r)/\V.heap[w.heap.size]?=some (.deferred (some []))
 have hTs:∀{r:Loop}{V:World},T r V->w.heap.size+1<V.heap.size:=λh=>(ng.1 h.1).1
 have hTp:∀{r:Loop}{V:World} (r':Loop),T r V->T r' (V.putObj (w.heap.size+1) (.loop r')):=λr' h=>⟨World.putObj_heap_same (hTs h),(ue (by omega)).trans h.2⟩
 have Fb:∀{r:Loop}{V V':World},T r V->KeepsFrom w.heap.size V V'->T r V':=λh hk=>⟨hk.same _ _ (by omega) h.1 rfl,hk.same _ _ (zn _) h.2 rfl⟩
 have hIp:∀{pre:List α}{r:Loop}{V:World} (r':Loop),T r V->I pre V->I pre (V.putObj (w.heap.size+1) (.loop r')):=λr' h hi=>hI.putObj _ hi (by omega) h.1 rfl
 obtain⟨W1,hW1⟩:=qE ((w.alloc (.deferred (some []))).alloc (.loop (R .ready none)));have hT1:T (R .ready none) W1:=by
  rw[<-hW1];have h2:=bg (w.alloc (.deferred (some []))) (.loop (R .ready none));rw[bh]at h2;exact⟨h2,(dw _ _ _ (by simp)).trans (bg w _)⟩
 have hi1:I [] W1:=by rw[<-hW1];exact hI.alloc _ (hI.alloc _ h0)
 have hb1:Below w.heap.size w W1:=by rw[<-hW1];exact((ah _ w).alloc (zn _) _).alloc (by simp) _
 refine⟨w.heap.size+1,[{target:=.collected w.heap.size,args:= #[]}],W1,{target:=.fn (.func gf) lb,args:= #[.func (.yield (w.heap.size+1)) #[] #[]]},W1,gf,#[.func (.yield (w.heap.size+1)) #[] #[]]++lb,W1,?_,?_,?_,?_,λ_=>h1,?_⟩
 ·rw[<-hW1];exact run_enterLoop_outer _ _ _ _ _
 ·simp only[resolve,hg]
  simp[go_sem]
 ·intro f' hf'
  simp[Target.leads]at hf';subst hf';exact hF
 ·simp[invoke,go_sem,he]
 refine(hseq (w.heap.size+1) (λpre V=>I pre V/\T (R .ready none) V) W1 hb1 ?_ ⟨hi1,hT1⟩).mono ?_
 ·rintro pre x V ⟨hi,hT⟩ ab8
  have hy:=run_yield (P:=P) (args:=enc x) hT.1 (aj9 x);refine⟨fn,_,assign,body,hy,roundIn_of_wpIn hfn (hassign _ x V _ ⟨_,run_beginRound hT.1 rfl,?_⟩)⟩;have Um:=hTp (R .busy none) hT;refine wpIn_mono (hbody _ pre x _ (hIp _ hT hi) ab8) ?_;rintro e a3 V3 hp;cases e with
  |normal=>
   obtain⟨hk3,hq3,Ea⟩:=hp;have hT3:=Fb Um hk3;exact⟨_,_,run_endRound (P:=P) none hT3.1,rfl,⟨hIp _ hT3 Ea,hTp (R .ready none) hT3⟩,hKt (hKt (hKb _ _ _ _ (by omega) hT.1 rfl) hq3) (hKb _ _ _ _ (by omega) hT3.1 rfl)⟩
  |ret=>exact hp.2.elim
  |exit id=>exact hp.2.elim
  |goto t=>exact hp.2.elim
  |panic ch=>exact hp.elim
  |outgrown=>exact hp.elim
 ·rintro e W2 ⟨⟨v,rfl⟩,ys,hS,hi,hT⟩
  exact⟨none,_,run_endLoop (P:=P) hT.1 (by simp[R]),hdone _ ys _ (zn _) hS (hIp _ hT hi) ((ue (by omega)).trans hT.2)⟩
theorem mK (n:Nat) (hn:1<=n) (l Bn L:Nat) (hL:L<=1000000) (P:Nat->Value->Prop) (K:World->World->Prop) (Q:World->Prop) (Od:∀A B,Q A->K A B->Q B)
  (hQ:∀W,Q W->∃ad cap,W.cell? (af Bn 0)=some (.slice ad L cap)/\L<=cap/\∀i,i<L->∃g off a,ad=some (af g off)/\P i a/\W.cell? (af g (off+i))=some a)
  (J:List (BX L P)->World->Prop) (W:World) (hY:∀pre x W,J pre W->UG L ((pre++ [x]).map (·.1.1))->YieldAt Fence.wide (n - 1) Tryz.prog l (O6 x) W λe W'=>
   e=.returned (.bool true)/\J (pre++ [x]) W'/\K W W')
  (Im:Q W) (h0:J [] W):
  CallsIn Fence.wide n Tryz.prog 215 #[.func (.yield l) #[] #[],ac Bn] W λe W'=>(∃v,e=.returned v)/\∃ys:List (BX L P),ys.map (·.1.1)=(List.range L).reverse/\J ys W':=by
 have HY:=hid hY;have HQK:=hid Od;have HQ:=hid hQ;have Me:Hid (J [] W):=hid h0;have Rb:Hid (Q W):=hid Im;obtain⟨ad,cap,c0,hcap,_⟩:=hQ W Im;clear hY h0 Od hQ Im;refine uq Tryz.func215 rfl trivial ?_ rfl;simp only[Tryz.ntmps215,jf,lC,jd,Nat.reduceAdd,Nat.reduceSub,jm,jo,jy,jr,ey,iw]
 gi_wp2
 clear c0 hcap
 gi_loopw [3] (λp wr=>∃(k:Nat) (pre:List (BX L P)),k<=L/\p=ab ((k:Int) - 1)/\Hid (pre.map (·.1.1)++(List.range k).reverse=(List.range L).reverse)/\Hid (J pre wr)/\Hid (Q wr)) (λp _=>(intOf p+1).toNat)
 case atStart=>exact⟨L,[],zn _,by go_num,hid rfl,Me,Rb⟩
 case round=>
  clear Me Rb;obtain⟨k,pre,hk,rfl,hpre,hJs,hQs⟩:=hrel;cases k with
  |zero=>
   have HE:Hid (pre.map (·.1.1)=(List.range L).reverse):=hid (by have h1:=hpre.out;simpa using h1);rw[show((0:Nat):Int) - 1= -1 by omega]
   gi_wp2
   go_end0
   exact⟨⟨_,rfl⟩,pre,HE.out,hJs.out⟩
  |succ k=>
   rw[show((k+1:Nat):Int) - 1=(k:Int) by omega];obtain⟨ad,cap,c0,hcap,hcs⟩:=HQ.out wr hQs.out;obtain⟨g,off,a,rfl,Xb,cA⟩:=hcs k (by omega);have hlen:pre.length<L:=by
    have h1:=congrArg List.length hpre.out;simp at h1;omega
   have De:Hid ((pre++ [(⟨(k,a),by show k<L;omega,Xb⟩:BX L P)]).map (·.1.1)++(List.range k).reverse=(List.range L).reverse):=hid (by
    have h1:=hpre.out;rw[LL]at h1;simpa using h1)
   obtain⟨fn,tmps,assign,body,hy,hR⟩:=HY.out pre ⟨(k,a),by show k<L;omega,Xb⟩ wr hJs.out ⟨k,De.out⟩;have hy:(Instr.yield l #[ab (k:Int),a]).run Tryz.prog wr=.ok (.round l fn tmps assign body) wr:=hy;have HR:=hid hR;have HL:Hid (k<L):=hid (by omega);clear hR hlen hcs hpre
   gi_wp2
   refine HR.out.mono ?_;rintro e W3 ⟨rfl,hJ3,hk3⟩
   ·have Zj:=hid hJ3
    have HQ3:=hid (HQK.out _ _ hQs.out hk3);clear hJ3 hk3
    gi_wp2
    go_roundw
    case rel=>exact⟨k,_,by omega,by go_num,De,Zj,HQ3⟩
    case measure=>simp[intOf]
section
def Eu (N:NG) (row:List Nat) (i:Nat):List Nat:=(List.range (i+1)).map λj=>AY N (row.take j)
theorem MY (N:NG) (row:List Nat) (i:Nat):(Eu N row i).length=i+1:=by unfold Eu;simp
theorem bR {N:NG}{row:List Nat}{i j:Nat} (hj:j<=i):(Eu N row i)[j]?=some (AY N (row.take j)):=by
 unfold Eu;rw[gM,ny (by omega)];rfl
theorem rS (N:NG) (row:List Nat) (i:Nat):Eu N row (i+1)=Eu N row i++ [AY N (row.take (i+1))]:=by
 unfold Eu;rw[uw,fq];rfl
theorem VD {N:NG}{row:List Nat}{i x:Nat} (h:row[i]?=some x):AY N (row.take (i+1))=AY N (row.take i)+N.drop x:=by
 rw[sr,h,P5];simp[AY]
theorem VF:∀{l:List (Option Pt)}{q:Nat}{o:Option Pt},l[q]?=some o->(FU l)[q*3]?=some (.bool o.isNone)/\(FU l)[q*3+1]?=some (.bool (MF o))/\(FU l)[q*3+2]?=some (ab (MC o))
 | [],q,o,h=>by cases h
 |a::l,0,o,h=>by
  obtain rfl:a=o:=by simpa using h
  exact⟨rfl,rfl,rfl⟩
 |a::l,q+1,o,h=>by
  have h:l[q]?=some o:=by simpa using h
  obtain⟨h1,h2,h3⟩:=VF h;have e:FU (a::l)=TC a++FU l:=rfl;have e3:(TC a).length=3:=rfl;rw[e];refine⟨?_,?_,?_⟩
  ·rw[Bc (by omega),e3,show(q+1)*3 - 3=q*3 by omega];exact h1
  ·rw[Bc (by omega),e3,show(q+1)*3+1 - 3=q*3+1 by omega];exact h2
  ·rw[Bc (by omega),e3,show(q+1)*3+2 - 3=q*3+2 by omega];exact h3
theorem x6 {T:Am}{W4 W5:World}{row:List Nat}{rv vd vT:Value}{B wb gh gp Br:Nat}{hv:Nat->Value} (hT:T.In W4) (Bo:T.Bd wb) (hBw:wb<W4.heap.size)
  (hcv:I5 W4 B wb gh (ac T.tb) rv vd T.N.nN vT hv (BH T.N.rules).1 (BH T.N.rules).2) (hdp:DQ W4 Br vd (Eu T.N row row.length)) (hrw:Em W4 wb rv row)
  (hk:A5 W4 W5 [wb]) (Qe:W4.heap.size<=gp) (Bu:gp<W5.heap.size) (hvT:0< (BH T.N.rules).1.length)
  (hb:W5.heap[wb]?=some (.cells #[ac T.tb,rv,vd,vT,ae gh T.N.nN T.N.nN,ae gp (row.length+1) (row.length+1)] 306 (0,0)))
  (hrl:∀x∈row,x<T.N.nT) (Jp:row.length<=100):
  ∃gd cd gt ct,Aq.In ⟨T,wb,row,rv,gd,cd,gt,ct,(BH T.N.rules).1,gh,T.N.nN,MH T.N.nN (BH T.N.rules).2,gp⟩ W5:=by
 have hbl:Below wb W4 W5:=hk.below (qp hBw) (λq hq=>by rw[mS.1 hq];exact zn _);have hbd:T.Bd gp:=⟨zV Bo.n0 (by omega),lL Bo.tb (by omega),lL Bo.kb (by omega)⟩;have hN:=hT.fc.gr.ok;have aj4:=hT.fc.gr.Nh;have hcI:=Q8 T.N.rules;obtain⟨amg,aka⟩:=S9 T.N.rules (λr hr=>hN.parts _ hr);have hld:0< (Eu T.N row row.length).length:=by rw[MY];omega
 obtain⟨gd,cd,rfl,_⟩:=B4 hdp hld;obtain⟨gt,ct,Vg,_⟩:=B4 hcv.tl hvT;subst Vg;obtain⟨_,_,ed,hcd⟩:=BV hdp;obtain⟨_,_,et,hct⟩:=BV hcv.tl;injection ed with _ _ ed
 subst ed;injection et with _ _ et
 subst et;have akb:gd<W4.heap.size:=D8 hdp rfl;have ab0:gt<W4.heap.size:=D8 hcv.tl rfl;obtain⟨cs,Bw,hg2,hg3⟩:=hcv.hb;have aeO:=ak Bw;have hne:∀{g:Nat}{c:Array Value}{e:Nat}{f:Nat × Nat},W4.heap[g]?=some (.cells c e f)->e≠306->g∉ [wb]:=λ{g c e f} h1 h2 hm=>by
  rw[mS.1 hm,hcv.blk]at h1;injection h1 with h1
  injection h1 with _ h1
  exact h2 h1.symm
 obtain⟨c1,hk1⟩:=BQ hdp (g:=gd) rfl;obtain⟨c2,hk2⟩:=BQ hcv.tl (g:=gt) rfl;rw[MY]at hb;refine⟨gd,cd,gt,ct,{
  tab:=hT.below Bo hbl
  bd:=hbd
  blk:=hb
  aaf:=(hrw.below hbl).mono (by show wb<=gp;omega)
  Uz:=λi hi=>(hk.cell (by exact akb) (hne hk1 (by decide))).trans (DQ.at (l:=Eu T.N row row.length) hdp (bR hi))
  Sv:=λq o ho=>?_
  hdc:=λn l hl=>?_
  Et:=Bu
  Og:=by show wb<gp;omega
  gdl:=by show gd<gp;omega
  Xk:=by show gt<gp;omega
  ghl:=by show gh<gp;omega
  hl:=dJ _ _
  Sw:=by show(BH T.N.rules).1.length<=1000;omega
  Sx:=hct
  Lc:=λn l hl=>?_
  rl:=hrl
  Gi:=Jp
  cdl:=by show row.length+1<=cd;rw[MY]at hcd;exact hcd
  chl:=zn _
  Xl:=λq p hq=>?_}⟩
 ·have hq:q< (BH T.N.rules).1.length:=(zM.1 ho).1
  obtain⟨h1,h2,h3⟩:=VF ho;have hc:=λj (hj:j<3)=>(hk.cell (p:=(af gt (q*3+j))) (by exact ab0) (hne hk2 (by decide))).trans (qq hcv.tl (q*3+j) (by omega))
  exact⟨(hc 0 (by omega)).trans h1,(hc 1 (by omega)).trans h2,(hc 2 (by omega)).trans h3⟩
 ·obtain⟨hn,rfl⟩:=UK hl
  refine⟨hv n,(hk.cell (by exact aeO) (hne Bw (by decide))).trans ((A0 Bw).trans (hg3 n hn)),?_⟩;have h1:=(hcv.hi n hn).row (B':=W4.heap.size) (λg hg=>D8 (hcv.hi n hn) hg);obtain⟨ad,cap,e,hc,h2⟩:=h1;refine⟨ad,cap,e,hc,λh0=>?_⟩;obtain⟨g,off,e2,h3,h4⟩:=h2 h0;have Uf:∃c,W4.heap[g]?=some (.cells c 3 (0,0)):=BQ (hcv.hi n hn) (by rw[e,e2];rfl);obtain⟨c3,hk3⟩:=Uf;exact⟨g,off,e2,lL h3 Qe,λi x hx=>(hk.cell (by exact h3) (hne hk3 (by decide))).trans (h4 i x hx)⟩
 ·obtain⟨hn,rfl⟩:=UK hl
  refine⟨by have:=aka n;omega,λq hq=>?_⟩;obtain⟨rhs,h1,_⟩:=hcI.old n q hq;exact gH h1
 ·obtain⟨r,hr,hp⟩:=hcI.pt q p hq
  cases p with
  |tok t=>exact hN.pt r hr t hp
  |zi n=>exact hN.pn r hr n hp
def Qm (Q:Aq) (w:World) (B i k:Nat) (f:Nat->Wt):Prop:=∃gi gn,Q.gp<gi/\Q.gp<gn/\gi<B/\gn<B/\w.cell? (af Q.gp i)=some (ae gi (Q.row.length+1) (Q.row.length+1))/\w.cell? (af gi (k*2))=some (ae gn Q.T.N.nN Q.T.N.nN)/\IK w gn Q.T.N.nN f
def Qn (Q:Aq) (w:World) (B i k:Nat) (f:Nat->Wt):Prop:=∃gi gq,Q.gp<gi/\Q.gp<gq/\gi<B/\gq<B/\w.cell? (af Q.gp i)=some (ae gi (Q.row.length+1) (Q.row.length+1))/\w.cell? (af gi (k*2+1))=some (ae gq Q.zK.length Q.zK.length)/\IK w gq Q.zK.length f
section
variable {Q:Aq}{w w':World}{B B' i k:Nat}{f:Nat->Wt}
theorem Qm.v (h:Qm Q w B i k f):Jn Q w B i k f:=by obtain⟨x,y,_,_,z⟩:=h;exact⟨x,y,z⟩
theorem Qn.v (h:Qn Q w B i k f):Oh Q w B i k f:=by obtain⟨x,y,_,_,z⟩:=h;exact⟨x,y,z⟩
theorem Qm.mono (h:Qm Q w B i k f) (hB:B<=B'):Qm Q w B' i k f:=by obtain⟨x,y,h1,h2,h3,h4,z⟩:=h;exact⟨x,y,h1,h2,by omega,by omega,z⟩
theorem Qn.mono (h:Qn Q w B i k f) (hB:B<=B'):Qn Q w B' i k f:=by obtain⟨x,y,h1,h2,h3,h4,z⟩:=h;exact⟨x,y,h1,h2,by omega,by omega,z⟩
theorem ahi {P:Prop} (h:P:=by
  obtain⟨x,y,h1,h2,h3,h4,h5,h6,h7⟩:=h;have hx:∀q,Q.gp<q->q<B->q∉S:=λq h1 h2 hm=>by have:=hS q hm;omega
  exact⟨x,y,h1,h2,h3,h4,hc.trans h5,(hk.cell (by show x<w.heap.size;omega) (hx x h1 h3)).trans h6,h7.keeps hk (by omega) (hx y h2 h4)⟩):P:=h
theorem Qm.keeps {S:List Nat} (h:Qm Q w B i k f) (hk:A5 w w' S) (hB:B<=w.heap.size) (hS:∀q∈S,q<=Q.gp\/B<=q) (hc:w'.cell? (af Q.gp i)=w.cell? (af Q.gp i)):Qm Q w' B i k f:=by
 exact ahi
theorem Qn.keeps {S:List Nat} (h:Qn Q w B i k f) (hk:A5 w w' S) (hB:B<=w.heap.size) (hS:∀q∈S,q<=Q.gp\/B<=q) (hc:w'.cell? (af Q.gp i)=w.cell? (af Q.gp i)):Qn Q w' B i k f:=by
 exact ahi
end
structure MG (Q:Aq) (W:World) (s:Nat) (cn ct:Nat->Nat->Nat->Wt):Prop where
 kn:∀a b,s<=a->a<=b->b<=Q.row.length->Qm Q W W.heap.size a b (λn=>cn n a b)/\Qn Q W W.heap.size a b (λq=>ct q a b)
 wd:∀a b,s<=a->a<=b->b<=Q.row.length->ET Q.T.N (BR Q.zK) (FY Q.hds) Q.row cn ct a b
 sn:Hu cn
 st:Hu ct
theorem KR {row:Option Nat} (hg:A.grownBy C row) (hr:∀r,row=some r->∃o:Obj,A.heap[r]?=some o/\o.isCells=false) {g j:Nat}{v:Value} (h:A.cell? (af g j)=some v):C.cell? (af g j)=some v:=by
 obtain⟨cs,e,fr,h1⟩:=aW h;rw[A0 (G5 h1 hg hr),<-A0 h1];exact h
theorem IK.step {row:Option Nat}{g n:Nat}{f:Nat->Wt} (h:IK A g n f) (hg:A.grownBy C row) (hr:∀r,row=some r->∃o:Obj,A.heap[r]?=some o/\o.isCells=false):IK C g n f:=λi hi=>⟨KR hg hr (h i hi).1,KR hg hr (h i hi).2⟩
theorem MG.step {row:Option Nat} (h:MG Q A s cn ct) (hg:A.grownBy C row) (hr:∀r,row=some r->∃o:Obj,A.heap[r]?=some o/\o.isCells=false):MG Q C s cn ct:=
 ⟨λa b h1 h2 h3=>by
  obtain⟨⟨x,y,y1,y2,z1,z2,z3,z4,z5⟩,⟨x',y',y1',y2',z1',z2',z3',z4',z5'⟩⟩:=h.kn a b h1 h2 h3;have hs:=hg.size;exact⟨⟨x,y,y1,y2,by omega,by omega,KR hg hr z3,KR hg hr z4,z5.step hg hr⟩,⟨x',y',y1',y2',by omega,by omega,KR hg hr z3',KR hg hr z4',z5'.step hg hr⟩⟩,h.wd,h.sn,h.st⟩
structure QU (Q:Aq) (W:World) (gi s k:Nat) (cn ct:Nat->Nat->Nat->Wt):Prop where
 kn:Tb Q W gi s k cn ct
 old:∀a b,s<a->a<=b->b<=Q.row.length->Qm Q W gi a b (λn=>cn n a b)/\Qn Q W gi a b (λq=>ct q a b)
 wdo:∀a b,s<a->a<=b->b<=Q.row.length->ET Q.T.N (BR Q.zK) (FY Q.hds) Q.row cn ct a b
 Ff:∀b,s<=b->b<k->ET Q.T.N (BR Q.zK) (FY Q.hds) Q.row cn ct s b
 sn:Hu cn
 st:Hu ct
 blk:∃C,W.heap[gi]?=some (.cells C 351 (0,0))/\C.size=(Q.row.length+1)*2
theorem MG.row {W1:World} (h:MG Q W (s+1) cn ct) (hk:A5 W W1 [Q.gp]) (Qe:Q.gp<W.heap.size) (Mr:gi=W.heap.size) (Bu:gi<W1.heap.size)
  (hc:W1.cell? (af Q.gp s)=some (ae gi (Q.row.length+1) (Q.row.length+1))) (ho:∀j,j≠s->W1.cell? (af Q.gp j)=W.cell? (af Q.gp j))
  (hb:∃C,W1.heap[gi]?=some (.cells C 351 (0,0))/\C.size=(Q.row.length+1)*2):QU Q W1 gi s s cn ct:=by
 subst Mr;have hold:∀a b,s<a->a<=b->b<=Q.row.length->Qm Q W1 W.heap.size a b (λn=>cn n a b)/\Qn Q W1 W.heap.size a b (λq=>ct q a b):=λa b h1 h2 h3=>by
  obtain⟨z1,z2⟩:=h.kn a b h1 h2 h3;exact⟨z1.keeps hk (zn _) (λq hq=>.inl acD) (ho a (by omega)),z2.keeps hk (zn _) (λq hq=>.inl acD) (ho a (by omega))⟩
 exact⟨⟨Qe,Bu,hc,λa b h1 h2 h3=>⟨(hold a b h1 h2 h3).1.v,(hold a b h1 h2 h3).2.v⟩,λb h1 h2=>by omega⟩,hold,λa b h1=>h.wd a b h1,λb h1 h2=>by omega,h.sn,h.st,hb⟩
theorem QU.next {W1:World}{k:Nat}{nm ta:Nat->Wt} (h:QU Q W gi s k cn ct) (hn:Tb Q W1 gi s (k+1) (AP cn s k nm) (AP ct s k ta)) (h1:GE nm) (h2:GE ta)
  (hw:ET Q.T.N (BR Q.zK) (FY Q.hds) Q.row (AP cn s k nm) (AP ct s k ta) s k) (hk:A5 W W1 [gi]) (hb:∃C,W1.heap[gi]?=some (.cells C 351 (0,0))/\C.size=(Q.row.length+1)*2):QU Q W1 gi s (k+1) (AP cn s k nm) (AP ct s k ta) where
 kn:=hn
 old:=λa b k1 k2 k3=>by
  have e1:(λn=>AP cn s k nm n a b)=λn=>cn n a b:=by funext n;unfold AP;rw[aq (by omega)]
  have e2:(λn=>AP ct s k ta n a b)=λn=>ct n a b:=by funext n;unfold AP;rw[aq (by omega)]
  rw[e1,e2];have Mr:=h.kn.Xs;have Qe:=h.kn.Et;have hc:W1.cell? (af Q.gp a)=W.cell? (af Q.gp a):=hk.cell (by show Q.gp<W.heap.size;omega) zG;obtain⟨z1,z2⟩:=h.old a b k1 k2 k3;exact⟨z1.keeps hk (qp Mr) (λq hq=>.inr acD) hc,z2.keeps hk (qp Mr) (λq hq=>.inr acD) hc⟩
 wdo:=λa b k1 k2 k3=>(h.wdo a b k1 k2 k3).other (.inl k1)
 Ff:=λb k1 k2=>by
  by_cases e:b=k
  ·subst e;exact hw
  ·exact(h.Ff b k1 (by omega)).other (.inr (by omega))
 sn:=h.sn.put h1 s k
 st:=h.st.put h2 s k
 blk:=hb
theorem QU.done  (h:QU Q W gi s (Q.row.length+1) cn ct):MG Q W s cn ct where
 kn:=λa b h1 h2 h3=>by
  have Mr:=h.kn.Xs
  by_cases e:a=s
  ·subst e
   obtain⟨gn,gq,h4,h5,h6,h7,h8,h9,h10,h11⟩:=h.kn.own b h2 (by omega);have Qe:=h.kn.Et;exact⟨⟨gi,gn,Qe,by omega,Mr,h6,h.kn.pi,h8,h10⟩,⟨gi,gq,Qe,by omega,Mr,h7,h.kn.pi,h9,h11⟩⟩
  ·obtain⟨z1,z2⟩:=h.old a b (by omega) h2 h3
   exact⟨z1.mono (by omega),z2.mono (by omega)⟩
 wd:=λa b h1 h2 h3=>by
  by_cases e:a=s
  ·subst e;exact h.Ff b h2 (by omega)
  ·exact h.wdo a b (by omega) h2 h3
 sn:=h.sn
 st:=h.st
end
end Go.Proofs.YtjjggdcnpndgjaaGreatDoor
