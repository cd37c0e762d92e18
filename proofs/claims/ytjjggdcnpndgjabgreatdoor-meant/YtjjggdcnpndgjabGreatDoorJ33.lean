import Derived.Test.YtjjggdcnpndgjabGreatDoorJ32
set_option linter.unusedSimpArgs false
set_option maxHeartbeats 2000000
set_option maxRecDepth 100000
namespace Go.Proofs.YtjjggdcnpndgjabGreatDoor
open Go.RowKit Go.Shelf
variable {A C W:World}{Q:Wts}{cn ct:Nat->Nat->Nat->Wt}{gi s:Nat}
theorem WP {α:Type}{F:Fence}{n:Nat}{P:Program}{g:Operand}{ps:Array Tmp}{assign body:Code}{Q:Exit->Act->World->Prop}{a:Act}{w:World}
  (hro:F.round=none) (h1:1<=n) {gf:Nat}{lb:Array Value} (hg:a.eval g=.func (.func gf) #[] lb) (hF:F.fn gf) (he:∀args w,(callFunc gf args).run P w=.ok (.enter gf args) w)
  {enc:α->Array Value} (henc:∀x,(enc x).size=ps.size) {Ord:List α->Prop}{S:List α->Prop}{K:World->World->Prop}
  (hseq:∀(l:Nat) (J:List α->World->Prop) (W:World),Below w.heap.size w W->(∀pre x V,J pre V->Ord (pre++ [x])->YieldAt F (n - 1 - 1) P l (enc x) V fun e V'=>e=.returned (.bool true)/\J (pre++ [x]) V'/\K V V')->J [] W->
   CallsIn F (n - 1) P gf (#[.func (.yield l) #[] #[]]++lb) W fun e W'=>(∃v,e=.returned v)/\∃ys,S ys/\J ys W')
  (hKt:∀{A B C:World},K A B->K B C->K A C) (hKb:∀(W:World) (l:Nat) (o o':Obj),w.heap.size<=l->W.heap[l]?=some o->o.isCells=false->K W (W.putObj l o'))
  (I:List α->World->Prop) (hI:OwnFrom w.heap.size I) (h0:I [] w) (a₁:α->Act)
  (hassign:∀(l:Nat) (x:α) (W:World) (R:Act->World->Prop),R (a₁ x) W->assign.wpIn (F.inRound l) (n - 1 - 1) P (Exit.then R (fun _ _ _=>False)) {tmps:=(ps.zip (enc x)).foldl (fun t (p,v)=>t.setIfInBounds p v) a.tmps,defers:=[]} W)
  (hbody:∀(l:Nat) (pre:List α) (x:α) (W:World),I pre W->Ord (pre++ [x])->body.wpIn (F.inRound l) (n - 1 - 1) P (ownPostG w.heap.size K I (fun _ _ _=>False) (pre++ [x]) W) (a₁ x) W)
  (hdone:∀(D:Nat) (ys:List α) (W:World),w.heap.size<=D->S ys->I ys W->W.heap[D]?=some (.deferred (some []))->Q .normal {a with defers:={target:=.collected D,args:= #[]}::a.defers} W):
  (Code.rangeFunc g ps assign body).wpIn F n P Q a w:=by
 refine wpIn_rangeFunc ?_;intro fn hfn;rw[hro]
 let R:LoopState->Option Code->Loop:=fun st pe=>{state:=st,pending:=pe,fn,tmps:=a.tmps,params:=ps,assign,body,defers:=w.heap.size}
 let T:Loop->World->Prop:=fun r V=>V.heap[w.heap.size+1]?=some (.loop r)/\V.heap[w.heap.size]?=some (.deferred (some []))
 have hTs:∀{r:Loop}{V:World},T r V->w.heap.size+1<V.heap.size:=fun h=>(Array.getElem?_eq_some_iff.1 h.1).1
 have hTp:∀{r:Loop}{V:World} (r':Loop),T r V->T r' (V.putObj (w.heap.size+1) (.loop r')):=fun r' h=>⟨World.putObj_heap_same (hTs h),(World.putObj_heap_other (by omega)).trans h.2⟩
 have hTk:∀{r:Loop}{V V':World},T r V->KeepsFrom w.heap.size V V'->T r V':=fun h hk=>⟨hk.same _ _ (by omega) h.1 rfl,hk.same _ _ (lR_ _) h.2 rfl⟩
 have hIp:∀{pre:List α}{r:Loop}{V:World} (r':Loop),T r V->I pre V->I pre (V.putObj (w.heap.size+1) (.loop r')):=fun r' h hi=>hI.putObj _ hi (by omega) h.1 rfl
 obtain⟨W1,hW1⟩:=qE ((w.alloc (.deferred (some []))).alloc (.loop (R .ready none)));have hT1:T (R .ready none) W1:=by
  rw[<-hW1];have h2:=World.alloc_heap_new (w.alloc (.deferred (some []))) (.loop (R .ready none));rw[World.size_alloc]at h2;exact⟨h2,(Below.heap_alloc _ _ _ (by simp)).trans (World.alloc_heap_new w _)⟩
 have hi1:I [] W1:=by rw[<-hW1];exact hI.alloc _ (hI.alloc _ h0)
 have hb1:Below w.heap.size w W1:=by rw[<-hW1];exact((Below.refl _ w).alloc (lR_ _) _).alloc (by simp) _
 refine⟨w.heap.size+1,[{target:=.collected w.heap.size,args:= #[]}],W1,{target:=.fn (.func gf) lb,args:= #[.func (.yield (w.heap.size+1)) #[] #[]]},W1,gf,#[.func (.yield (w.heap.size+1)) #[] #[]]++lb,W1,?_,?_,?_,?_,fun _=>h1,?_⟩
 ·rw[<-hW1];exact run_enterLoop_outer _ _ _ _ _
 ·simp only[resolve,hg]
  simp[go_sem]
 ·intro f' hf'
  simp[Target.leads]at hf';subst hf';exact hF
 ·simp[invoke,go_sem,he]
 refine(hseq (w.heap.size+1) (fun pre V=>I pre V/\T (R .ready none) V) W1 hb1 ?_ ⟨hi1,hT1⟩).mono ?_
 ·rintro pre x V ⟨hi,hT⟩ hord
  have hy:=run_yield (P:=P) (args:=enc x) hT.1 (henc x);refine⟨fn,_,assign,body,hy,roundIn_of_wpIn hfn (hassign _ x V _ ⟨_,run_beginRound hT.1 rfl,?_⟩)⟩;have hT2:=hTp (R .busy none) hT;refine wpIn_mono (hbody _ pre x _ (hIp _ hT hi) hord) ?_;rintro e a3 V3 hp;cases e with
  |normal=>
   obtain⟨hk3,hq3,hi3⟩:=hp;have hT3:=hTk hT2 hk3;exact⟨_,_,run_endRound (P:=P) none hT3.1,rfl,⟨hIp _ hT3 hi3,hTp (R .ready none) hT3⟩,hKt (hKt (hKb _ _ _ _ (by omega) hT.1 rfl) hq3) (hKb _ _ _ _ (by omega) hT3.1 rfl)⟩
  |ret=>exact hp.2.elim
  |exit id=>exact hp.2.elim
  |goto t=>exact hp.2.elim
  |panic ch=>exact hp.elim
  |outgrown=>exact hp.elim
 ·rintro e W2 ⟨⟨v,rfl⟩,ys,hS,hi,hT⟩
  exact⟨none,_,run_endLoop (P:=P) hT.1 (by simp[R]),hdone _ ys _ (lR_ _) hS (hIp _ hT hi) ((World.putObj_heap_other (by omega)).trans hT.2)⟩
theorem oL (n:Nat) (hn:1<=n) (l Bn L:Nat) (hL:L<=1000000) (P:Nat->Value->Prop) (K:World->World->Prop) (Q:World->Prop) (hQK:∀A B,Q A->K A B->Q B)
  (hQ:∀W,Q W->∃ad cap,W.cell? (af Bn 0)=some (.slice ad L cap)/\L<=cap/\∀i,i<L->∃g off a,ad=some (af g off)/\P i a/\W.cell? (af g (off+i))=some a)
  (J:List (BX L P)->World->Prop) (W:World) (hY:∀pre x W,J pre W->U2 L ((pre++ [x]).map (·.1.1))->YieldAt Fence.wide (n - 1) Tryz.prog l (NX x) W fun e W'=>
   e=.returned (.bool true)/\J (pre++ [x]) W'/\K W W')
  (hQW:Q W) (h0:J [] W):
  CallsIn Fence.wide n Tryz.prog 105 #[.func (.yield l) #[] #[],ac Bn] W fun e W'=>(∃v,e=.returned v)/\∃ys:List (BX L P),ys.map (·.1.1)=(List.range L).reverse/\J ys W':=by
 have HY:=hid hY;have HQK:=hid hQK;have HQ:=hid hQ;have HJ0:Hid (J [] W):=hid h0;have HQ0:Hid (Q W):=hid hQW;obtain⟨ad,cap,c0,hcap,_⟩:=hQ W hQW;clear hY h0 hQK hQ hQW;refine callsIn_of_wp Tryz.func105 rfl trivial ?_ rfl;simp only[Tryz.ntmps105,List.size_toArray,lC,List.length_nil,Nat.reduceAdd,Nat.reduceSub,Array.replicate_succ,Array.replicate_zero,List.push_toArray,List.append_toArray,List.nil_append,List.cons_append]
 gi_wp2
 clear c0 hcap
 gi_loopw [3] (fun p wr=>∃(k:Nat) (pre:List (BX L P)),k<=L/\p=ab ((k:Int) - 1)/\Hid (pre.map (·.1.1)++(List.range k).reverse=(List.range L).reverse)/\Hid (J pre wr)/\Hid (Q wr)) (fun p _=>(intOf p+1).toNat)
 case atStart=>exact⟨L,[],lR_ _,by go_num,hid rfl,HJ0,HQ0⟩
 case round=>
  clear HJ0 HQ0;obtain⟨k,pre,hk,rfl,hpre,hJs,hQs⟩:=hrel;cases k with
  |zero=>
   have HE:Hid (pre.map (·.1.1)=(List.range L).reverse):=hid (by have h1:=hpre.out;simpa using h1);rw[show((0:Nat):Int) - 1= -1 by omega]
   gi_wp2
   go_end0
   exact⟨⟨_,rfl⟩,pre,HE.out,hJs.out⟩
  |succ k=>
   rw[show((k+1:Nat):Int) - 1=(k:Int) by omega];obtain⟨ad,cap,c0,hcap,hcs⟩:=HQ.out wr hQs.out;obtain⟨g,off,a,rfl,hPi,cA⟩:=hcs k (by omega);have hlen:pre.length<L:=by
    have h1:=congrArg List.length hpre.out;simp at h1;omega
   have HPre:Hid ((pre++ [(⟨(k,a),by show k<L;omega,hPi⟩:BX L P)]).map (·.1.1)++(List.range k).reverse=(List.range L).reverse):=hid (by
    have h1:=hpre.out;rw[LH]at h1;simpa using h1)
   obtain⟨fn,tmps,assign,body,hy,hR⟩:=HY.out pre ⟨(k,a),by show k<L;omega,hPi⟩ wr hJs.out ⟨k,HPre.out⟩;have hy:(Instr.yield l #[ab (k:Int),a]).run Tryz.prog wr=.ok (.round l fn tmps assign body) wr:=hy;have HR:=hid hR;have HL:Hid (k<L):=hid (by omega);clear hR hlen hcs hpre
   gi_wp2
   refine HR.out.mono ?_;rintro e W3 ⟨rfl,hJ3,hk3⟩
   ·have HJ3:=hid hJ3
    have HQ3:=hid (HQK.out _ _ hQs.out hk3);clear hJ3 hk3
    gi_wp2
    go_roundw
    case rel=>exact⟨k,_,by omega,by go_num,HPre,HJ3,HQ3⟩
    case measure=>simp[intOf]
section
def dpL (N:NG) (row:List Nat) (i:Nat):List Nat:=(List.range (i+1)).map fun j=>AU N (row.take j)
theorem MS (N:NG) (row:List Nat) (i:Nat):(dpL N row i).length=i+1:=by unfold dpL;simp
theorem bL {N:NG}{row:List Nat}{i j:Nat} (hj:j<=i):(dpL N row i)[j]?=some (AU N (row.take j)):=by
 unfold dpL;rw[gM,List.getElem?_range (by omega)];rfl
theorem pV (N:NG) (row:List Nat) (i:Nat):dpL N row (i+1)=dpL N row i++ [AU N (row.take (i+1))]:=by
 unfold dpL;rw[List.range_succ,List.map_append];rfl
theorem UO {N:NG}{row:List Nat}{i x:Nat} (h:row[i]?=some x):AU N (row.take (i+1))=AU N (row.take i)+N.drop x:=by
 rw[List.take_add_one,h,OJ];simp[AU]
theorem U3:∀{l:List (Option Pt)}{q:Nat}{o:Option Pt},l[q]?=some o->(FN l)[q*3]?=some (.bool o.isNone)/\(FN l)[q*3+1]?=some (.bool (M4 o))/\(FN l)[q*3+2]?=some (ab (M3 o))
 | [],q,o,h=>by cases h
 |a::l,0,o,h=>by
  obtain rfl:a=o:=by simpa using h
  exact⟨rfl,rfl,rfl⟩
 |a::l,q+1,o,h=>by
  have h:l[q]?=some o:=by simpa using h
  obtain⟨h1,h2,h3⟩:=U3 h;have e:FN (a::l)=TC a++FN l:=rfl;have e3:(TC a).length=3:=rfl;rw[e];refine⟨?_,?_,?_⟩
  ·rw[aR_ (by omega),e3,show(q+1)*3 - 3=q*3 by omega];exact h1
  ·rw[aR_ (by omega),e3,show(q+1)*3+1 - 3=q*3+1 by omega];exact h2
  ·rw[aR_ (by omega),e3,show(q+1)*3+2 - 3=q*3+2 by omega];exact h3
theorem vK {T:Tab}{W4 W5:World}{row:List Nat}{rv vd vT:Value}{B wb gh gp Br:Nat}{hv:Nat->Value} (hT:T.In W4) (hBd:T.Bd wb) (hBw:wb<W4.heap.size)
  (hcv:GQ W4 B wb gh (ac T.tb) rv vd T.N.nN vT hv (BD T.N.rules).1 (BD T.N.rules).2) (hdp:D8 W4 Br vd (dpL T.N row row.length)) (hrw:RwV W4 wb rv row)
  (hk:A1 W4 W5 [wb]) (hgp:W4.heap.size<=gp) (hgl:gp<W5.heap.size) (hvT:0< (BD T.N.rules).1.length)
  (hb:W5.heap[wb]?=some (.cells #[ac T.tb,rv,vd,vT,ae gh T.N.nN T.N.nN,ae gp (row.length+1) (row.length+1)] 168 (0,0)))
  (hrl:∀x∈row,x<T.N.nT) (h100:row.length<=100):
  ∃gd cd gt ct,Wts.In ⟨T,wb,row,rv,gd,cd,gt,ct,(BD T.N.rules).1,gh,T.N.nN,M6 T.N.nN (BD T.N.rules).2,gp⟩ W5:=by
 have hbl:Below wb W4 W5:=hk.below (Nat.le_of_lt hBw) (fun q hq=>by rw[mS.1 hq];exact lR_ _);have hbd:T.Bd gp:=⟨lT_ hBd.n0 (by omega),lL hBd.tb (by omega),lL hBd.kb (by omega)⟩;have hN:=hT.fc.gr.ok;have hr60:=hT.fc.gr.leR;have hcI:=P6 T.N.rules;obtain⟨hsm1,hsm2⟩:=QH T.N.rules (fun r hr=>hN.parts _ hr);have hld:0< (dpL T.N row row.length).length:=by rw[MS];omega
 obtain⟨gd,cd,rfl,_⟩:=AX hdp hld;obtain⟨gt,ct,hvt,_⟩:=AX hcv.tl hvT;subst hvt;obtain⟨_,_,ed,hcd⟩:=DE hdp;obtain⟨_,_,et,hct⟩:=DE hcv.tl;injection ed with _ _ ed
 subst ed;injection et with _ _ et
 subst et;have hgdl:gd<W4.heap.size:=CK hdp rfl;have hgtl:gt<W4.heap.size:=CK hcv.tl rfl;obtain⟨cs,hg1,hg2,hg3⟩:=hcv.hb;have hghl:=lt_of_block hg1;have hne:∀{g:Nat}{c:Array Value}{e:Nat}{f:Nat × Nat},W4.heap[g]?=some (.cells c e f)->e≠168->g∉ [wb]:=fun {g c e f} h1 h2 hm=>by
  rw[mS.1 hm,hcv.blk]at h1;injection h1 with h1
  injection h1 with _ h1
  exact h2 h1.symm
 obtain⟨c1,hk1⟩:=BJ hdp (g:=gd) rfl;obtain⟨c2,hk2⟩:=BJ hcv.tl (g:=gt) rfl;rw[MS]at hb;refine⟨gd,cd,gt,ct,{
  tab:=hT.below hBd hbl
  bd:=hbd
  blk:=hb
  rowc:=(hrw.below hbl).mono (by show wb<=gp;omega)
  drc:=fun i hi=>(hk.cell (by exact hgdl) (hne hk1 (by decide))).trans (D8.at (l:=dpL T.N row row.length) hdp (bL hi))
  tlc:=fun q o ho=>?_
  hdc:=fun n l hl=>?_
  gpl:=hgl
  wbl:=by show wb<gp;omega
  gdl:=by show gd<gp;omega
  gtl:=by show gt<gp;omega
  ghl:=by show gh<gp;omega
  hl:=bG _ _
  tl20:=by show(BD T.N.rules).1.length<=1000;omega
  tlc2:=hct
  hdl:=fun n l hl=>?_
  rl:=hrl
  r40:=h100
  cdl:=by show row.length+1<=cd;rw[MS]at hcd;exact hcd
  chl:=lR_ _
  pto:=fun q p hq=>?_}⟩
 ·have hq:q< (BD T.N.rules).1.length:=(gS_.1 ho).1
  obtain⟨h1,h2,h3⟩:=U3 ho;have hc:=fun j (hj:j<3)=>(hk.cell (p:=(af gt (q*3+j))) (by exact hgtl) (hne hk2 (by decide))).trans (World.ownsRow.cellAt hcv.tl (q*3+j) (by omega))
  exact⟨(hc 0 (by omega)).trans h1,(hc 1 (by omega)).trans h2,(hc 2 (by omega)).trans h3⟩
 ·obtain⟨hn,rfl⟩:=U1 hl
  refine⟨hv n,(hk.cell (by exact hghl) (hne hg1 (by decide))).trans ((A0 hg1).trans (hg3 n hn)),?_⟩;have h1:=(hcv.hi n hn).row (B':=W4.heap.size) (fun g hg=>CK (hcv.hi n hn) hg);obtain⟨ad,cap,e,hc,h2⟩:=h1;refine⟨ad,cap,e,hc,fun h0=>?_⟩;obtain⟨g,off,e2,h3,h4⟩:=h2 h0;have hgk:∃c,W4.heap[g]?=some (.cells c 3 (0,0)):=BJ (hcv.hi n hn) (by rw[e,e2];rfl);obtain⟨c3,hk3⟩:=hgk;exact⟨g,off,e2,lL h3 hgp,fun i x hx=>(hk.cell (by exact h3) (hne hk3 (by decide))).trans (h4 i x hx)⟩
 ·obtain⟨hn,rfl⟩:=U1 hl
  refine⟨by have:=hsm2 n;omega,fun q hq=>?_⟩;obtain⟨rhs,h1,_⟩:=hcI.old n q hq;exact fX h1
 ·obtain⟨r,hr,hp⟩:=hcI.pt q p hq
  cases p with
  |tok t=>exact hN.pt r hr t hp
  |nam n=>exact hN.pn r hr n hp
def NmL (Q:Wts) (w:World) (B i k:Nat) (f:Nat->Wt):Prop:=∃gi gn,Q.gp<gi/\Q.gp<gn/\gi<B/\gn<B/\w.cell? (af Q.gp i)=some (ae gi (Q.row.length+1) (Q.row.length+1))/\w.cell? (af gi (k*2))=some (ae gn Q.T.N.nN Q.T.N.nN)/\GZ w gn Q.T.N.nN f
def TlL (Q:Wts) (w:World) (B i k:Nat) (f:Nat->Wt):Prop:=∃gi gq,Q.gp<gi/\Q.gp<gq/\gi<B/\gq<B/\w.cell? (af Q.gp i)=some (ae gi (Q.row.length+1) (Q.row.length+1))/\w.cell? (af gi (k*2+1))=some (ae gq Q.tls.length Q.tls.length)/\GZ w gq Q.tls.length f
section
variable {Q:Wts}{w w':World}{B B' i k:Nat}{f:Nat->Wt}
theorem NmL.v (h:NmL Q w B i k f):NmV Q w B i k f:=by obtain⟨x,y,_,_,z⟩:=h;exact⟨x,y,z⟩
theorem TlL.v (h:TlL Q w B i k f):TlV Q w B i k f:=by obtain⟨x,y,_,_,z⟩:=h;exact⟨x,y,z⟩
theorem NmL.mono (h:NmL Q w B i k f) (hB:B<=B'):NmL Q w B' i k f:=by obtain⟨x,y,h1,h2,h3,h4,z⟩:=h;exact⟨x,y,h1,h2,by omega,by omega,z⟩
theorem TlL.mono (h:TlL Q w B i k f) (hB:B<=B'):TlL Q w B' i k f:=by obtain⟨x,y,h1,h2,h3,h4,z⟩:=h;exact⟨x,y,h1,h2,by omega,by omega,z⟩
theorem Mz34 {P:Prop} (h:P:=by
  obtain⟨x,y,h1,h2,h3,h4,h5,h6,h7⟩:=h;have hx:∀q,Q.gp<q->q<B->q∉S:=fun q h1 h2 hm=>by have:=hS q hm;omega
  exact⟨x,y,h1,h2,h3,h4,hc.trans h5,(hk.cell (by show x<w.heap.size;omega) (hx x h1 h3)).trans h6,h7.keeps hk (by omega) (hx y h2 h4)⟩):P:=h
theorem NmL.keeps {S:List Nat} (h:NmL Q w B i k f) (hk:A1 w w' S) (hB:B<=w.heap.size) (hS:∀q∈S,q<=Q.gp\/B<=q) (hc:w'.cell? (af Q.gp i)=w.cell? (af Q.gp i)):NmL Q w' B i k f:=by
 exact Mz34
theorem TlL.keeps {S:List Nat} (h:TlL Q w B i k f) (hk:A1 w w' S) (hB:B<=w.heap.size) (hS:∀q∈S,q<=Q.gp\/B<=q) (hc:w'.cell? (af Q.gp i)=w.cell? (af Q.gp i)):TlL Q w' B i k f:=by
 exact Mz34
end
structure M5 (Q:Wts) (W:World) (s:Nat) (cn ct:Nat->Nat->Nat->Wt):Prop where
 kn:∀a b,s<=a->a<=b->b<=Q.row.length->NmL Q W W.heap.size a b (fun n=>cn n a b)/\TlL Q W W.heap.size a b (fun q=>ct q a b)
 wd:∀a b,s<=a->a<=b->b<=Q.row.length->EG Q.T.N (BK Q.tls) (FI Q.hds) Q.row cn ct a b
 sn:WSm cn
 st:WSm ct
theorem KF {row:Option Nat} (hg:A.grownBy C row) (hr:∀r,row=some r->∃o:Obj,A.heap[r]?=some o/\o.isCells=false) {g j:Nat}{v:Value} (h:A.cell? (af g j)=some v):C.cell? (af g j)=some v:=by
 obtain⟨cs,e,fr,h1⟩:=ZQ h;rw[A0 (FP h1 hg hr),<-A0 h1];exact h
theorem GZ.step {row:Option Nat}{g n:Nat}{f:Nat->Wt} (h:GZ A g n f) (hg:A.grownBy C row) (hr:∀r,row=some r->∃o:Obj,A.heap[r]?=some o/\o.isCells=false):GZ C g n f:=fun i hi=>⟨KF hg hr (h i hi).1,KF hg hr (h i hi).2⟩
theorem M5.step {row:Option Nat} (h:M5 Q A s cn ct) (hg:A.grownBy C row) (hr:∀r,row=some r->∃o:Obj,A.heap[r]?=some o/\o.isCells=false):M5 Q C s cn ct:=
 ⟨fun a b h1 h2 h3=>by
  obtain⟨⟨x,y,y1,y2,z1,z2,z3,z4,z5⟩,⟨x',y',y1',y2',z1',z2',z3',z4',z5'⟩⟩:=h.kn a b h1 h2 h3;have hs:=hg.size;exact⟨⟨x,y,y1,y2,by omega,by omega,KF hg hr z3,KF hg hr z4,z5.step hg hr⟩,⟨x',y',y1',y2',by omega,by omega,KF hg hr z3',KF hg hr z4',z5'.step hg hr⟩⟩,h.wd,h.sn,h.st⟩
structure QV (Q:Wts) (W:World) (gi s k:Nat) (cn ct:Nat->Nat->Nat->Wt):Prop where
 kn:KnR Q W gi s k cn ct
 old:∀a b,s<a->a<=b->b<=Q.row.length->NmL Q W gi a b (fun n=>cn n a b)/\TlL Q W gi a b (fun q=>ct q a b)
 wdo:∀a b,s<a->a<=b->b<=Q.row.length->EG Q.T.N (BK Q.tls) (FI Q.hds) Q.row cn ct a b
 wds:∀b,s<=b->b<k->EG Q.T.N (BK Q.tls) (FI Q.hds) Q.row cn ct s b
 sn:WSm cn
 st:WSm ct
 blk:∃C,W.heap[gi]?=some (.cells C 210 (0,0))/\C.size=(Q.row.length+1)*2
theorem M5.row {W1:World} (h:M5 Q W (s+1) cn ct) (hk:A1 W W1 [Q.gp]) (hgp:Q.gp<W.heap.size) (hgi:gi=W.heap.size) (hgl:gi<W1.heap.size)
  (hc:W1.cell? (af Q.gp s)=some (ae gi (Q.row.length+1) (Q.row.length+1))) (ho:∀j,j≠s->W1.cell? (af Q.gp j)=W.cell? (af Q.gp j))
  (hb:∃C,W1.heap[gi]?=some (.cells C 210 (0,0))/\C.size=(Q.row.length+1)*2):QV Q W1 gi s s cn ct:=by
 subst hgi;have hold:∀a b,s<a->a<=b->b<=Q.row.length->NmL Q W1 W.heap.size a b (fun n=>cn n a b)/\TlL Q W1 W.heap.size a b (fun q=>ct q a b):=fun a b h1 h2 h3=>by
  obtain⟨z1,z2⟩:=h.kn a b h1 h2 h3;exact⟨z1.keeps hk (lR_ _) (fun q hq=>.inl y62Z) (ho a (by omega)),z2.keeps hk (lR_ _) (fun q hq=>.inl y62Z) (ho a (by omega))⟩
 exact⟨⟨hgp,hgl,hc,fun a b h1 h2 h3=>⟨(hold a b h1 h2 h3).1.v,(hold a b h1 h2 h3).2.v⟩,fun b h1 h2=>by omega⟩,hold,fun a b h1=>h.wd a b h1,fun b h1 h2=>by omega,h.sn,h.st,hb⟩
theorem QV.next {W1:World}{k:Nat}{nm ta:Nat->Wt} (h:QV Q W gi s k cn ct) (hn:KnR Q W1 gi s (k+1) (AK cn s k nm) (AK ct s k ta)) (h1:FX nm) (h2:FX ta)
  (hw:EG Q.T.N (BK Q.tls) (FI Q.hds) Q.row (AK cn s k nm) (AK ct s k ta) s k) (hk:A1 W W1 [gi]) (hb:∃C,W1.heap[gi]?=some (.cells C 210 (0,0))/\C.size=(Q.row.length+1)*2):QV Q W1 gi s (k+1) (AK cn s k nm) (AK ct s k ta) where
 kn:=hn
 old:=fun a b k1 k2 k3=>by
  have e1:(fun n=>AK cn s k nm n a b)=fun n=>cn n a b:=by funext n;unfold AK;rw[if_neg (by omega)]
  have e2:(fun n=>AK ct s k ta n a b)=fun n=>ct n a b:=by funext n;unfold AK;rw[if_neg (by omega)]
  rw[e1,e2];have hgi:=h.kn.gil;have hgp:=h.kn.gpl;have hc:W1.cell? (af Q.gp a)=W.cell? (af Q.gp a):=hk.cell (by show Q.gp<W.heap.size;omega) y2Z;obtain⟨z1,z2⟩:=h.old a b k1 k2 k3;exact⟨z1.keeps hk (Nat.le_of_lt hgi) (fun q hq=>.inr y62Z) hc,z2.keeps hk (Nat.le_of_lt hgi) (fun q hq=>.inr y62Z) hc⟩
 wdo:=fun a b k1 k2 k3=>(h.wdo a b k1 k2 k3).other (.inl k1)
 wds:=fun b k1 k2=>by
  by_cases e:b=k
  ·subst e;exact hw
  ·exact(h.wds b k1 (by omega)).other (.inr (by omega))
 sn:=h.sn.put h1 s k
 st:=h.st.put h2 s k
 blk:=hb
theorem QV.done  (h:QV Q W gi s (Q.row.length+1) cn ct):M5 Q W s cn ct where
 kn:=fun a b h1 h2 h3=>by
  have hgi:=h.kn.gil
  by_cases e:a=s
  ·subst e
   obtain⟨gn,gq,h4,h5,h6,h7,h8,h9,h10,h11⟩:=h.kn.own b h2 (by omega);have hgp:=h.kn.gpl;exact⟨⟨gi,gn,hgp,by omega,hgi,h6,h.kn.pi,h8,h10⟩,⟨gi,gq,hgp,by omega,hgi,h7,h.kn.pi,h9,h11⟩⟩
  ·obtain⟨z1,z2⟩:=h.old a b (by omega) h2 h3
   exact⟨z1.mono (by omega),z2.mono (by omega)⟩
 wd:=fun a b h1 h2 h3=>by
  by_cases e:a=s
  ·subst e;exact h.wds b h2 (by omega)
  ·exact h.wdo a b (by omega) h2 h3
 sn:=h.sn
 st:=h.st
end
end Go.Proofs.YtjjggdcnpndgjabGreatDoor
