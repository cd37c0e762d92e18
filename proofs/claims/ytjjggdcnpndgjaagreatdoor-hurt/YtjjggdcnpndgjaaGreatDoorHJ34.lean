import Derived.Test.YtjjggdcnpndgjaaGreatDoorHJ33
set_option linter.unusedSimpArgs false
namespace Go.Proofs.YtjjggdcnpndgjaaGreatDoor
open Go.RowKit Go.Shelf
variable {A C W:World}{Q:zu}{cn ct:Nat->Nat->Nat->Wt}{gi s:Nat}
def De (N:NG) (row:List Nat) (i:Nat):List Nat:=(List.range (i+1)).map λj=>AU N (row.take j)
theorem MP (N:NG) (row:List Nat) (i:Nat):(De N row i).length=i+1:=by unfold De;simp
theorem bC {N:NG}{row:List Nat}{i j:Nat} (hj:j<=i):(De N row i)[j]?=some (AU N (row.take j)):=by
 unfold De;rw[gM,ng (by omega)];rfl
theorem qV (N:NG) (row:List Nat) (i:Nat):De N row (i+1)=De N row i++ [AU N (row.take (i+1))]:=by
 unfold De;rw[uj,ew];rfl
theorem U5 {N:NG}{row:List Nat}{i x:Nat} (h:row[i]?=some x):AU N (row.take (i+1))=AU N (row.take i)+N.drop x:=by
 rw[sy,h,OS];simp[AU]
theorem V8:∀{l:List (Option Pt)}{q:Nat}{o:Option Pt},l[q]?=some o->(FN l)[q*3]?=some (.bool o.isNone)/\(FN l)[q*3+1]?=some (.bool (LX o))/\(FN l)[q*3+2]?=some (ab (M2 o))
 | [],q,o,h=>by cases h
 |a::l,0,o,h=>by
  obtain rfl:a=o:=by simpa using h
  exact⟨rfl,rfl,rfl⟩
 |a::l,q+1,o,h=>by
  have h:l[q]?=some o:=by simpa using h
  obtain⟨h1,h2,h3⟩:=V8 h;have e:FN (a::l)=TC a++FN l:=rfl;have e3:(TC a).length=3:=rfl;rw[e];refine⟨?_,?_,?_⟩
  ·rw[zQ (by omega),e3,show(q+1)*3 - 3=q*3 by omega];exact h1
  ·rw[zQ (by omega),e3,show(q+1)*3+1 - 3=q*3+1 by omega];exact h2
  ·rw[zQ (by omega),e3,show(q+1)*3+2 - 3=q*3+2 by omega];exact h3
theorem wK {T:zn}{W4 W5:World}{row:List Nat}{rv vd vT:Value}{B wb gh gp Br:Nat}{hv:Nat->Value} (hT:T.In W4) (zW:T.Bd wb) (hBw:wb<W4.heap.size)
  (hcv:GS W4 B wb gh (ac T.tb) rv vd T.N.nN vT hv (BD T.N.rules).1 (BD T.N.rules).2) (hdp:D7 W4 Br vd (De T.N row row.length)) (hrw:Cw W4 wb rv row)
  (hk:A1 W4 W5 [wb]) (Ob:W4.heap.size<=gp) (Bf:gp<W5.heap.size) (hvT:0< (BD T.N.rules).1.length)
  (hb:W5.heap[wb]?=some (.cells #[ac T.tb,rv,vd,vT,ae gh T.N.nN T.N.nN,ae gp (row.length+1) (row.length+1)] 306 (0,0)))
  (hrl:∀x∈row,x<T.N.nT) (Gx:row.length<=100):
  ∃gd cd gt ct,zu.In ⟨T,wb,row,rv,gd,cd,gt,ct,(BD T.N.rules).1,gh,T.N.nN,M5 T.N.nN (BD T.N.rules).2,gp⟩ W5:=by
 have hbl:Below wb W4 W5:=hk.below (qb hBw) (λq hq=>by rw[mS.1 hq];exact yF _);have hbd:T.Bd gp:=⟨y5 zW.n0 (by omega),lL zW.tb (by omega),lL zW.kb (by omega)⟩;have hN:=hT.fc.gr.ok;have ajw:=hT.fc.gr.Lr;have hcI:=PP T.N.rules;obtain⟨alF,ajC⟩:=RK T.N.rules (λr hr=>hN.parts _ hr);have hld:0< (De T.N row row.length).length:=by rw[MP];omega
 obtain⟨gd,cd,rfl,_⟩:=AX hdp hld;obtain⟨gt,ct,Mu,_⟩:=AX hcv.tl hvT;subst Mu;obtain⟨_,_,ed,hcd⟩:=E7 hdp;obtain⟨_,_,et,hct⟩:=E7 hcv.tl;injection ed with _ _ ed
 subst ed;injection et with _ _ et
 subst et;have ajD:gd<W4.heap.size:=CJ hdp rfl;have abj:gt<W4.heap.size:=CJ hcv.tl rfl;obtain⟨cs,Av,hg2,hg3⟩:=hcv.hb;have adZ:=ak Av;have hne:∀{g:Nat}{c:Array Value}{e:Nat}{f:Nat × Nat},W4.heap[g]?=some (.cells c e f)->e≠306->g∉ [wb]:=λ{g c e f} h1 h2 hm=>by
  rw[mS.1 hm,hcv.blk]at h1;injection h1 with h1
  injection h1 with _ h1
  exact h2 h1.symm
 obtain⟨c1,hk1⟩:=BI hdp (g:=gd) rfl;obtain⟨c2,hk2⟩:=BI hcv.tl (g:=gt) rfl;rw[MP]at hb;refine⟨gd,cd,gt,ct,{
  tab:=hT.below zW hbl
  bd:=hbd
  blk:=hb
  Xy:=(hrw.below hbl).mono (by show wb<=gp;omega)
  Sq:=λi hi=>(hk.cell (by exact ajD) (hne hk1 (by decide))).trans (D7.at (l:=De T.N row row.length) hdp (bC hi))
  Qk:=λq o ho=>?_
  hdc:=λn l hl=>?_
  Dd:=Bf
  Mp:=by show wb<gp;omega
  gdl:=by show gd<gp;omega
  Uo:=by show gt<gp;omega
  ghl:=by show gh<gp;omega
  hl:=bE _ _
  Ql:=by show(BD T.N.rules).1.length<=1000;omega
  Qm:=hct
  Jb:=λn l hl=>?_
  rl:=hrl
  Em:=Gx
  cdl:=by show row.length+1<=cd;rw[MP]at hcd;exact hcd
  chl:=yF _
  Up:=λq p hq=>?_}⟩
 ·have hq:q< (BD T.N.rules).1.length:=(yS.1 ho).1
  obtain⟨h1,h2,h3⟩:=V8 ho;have hc:=λj (hj:j<3)=>(hk.cell (p:=(af gt (q*3+j))) (by exact abj) (hne hk2 (by decide))).trans (qd hcv.tl (q*3+j) (by omega))
  exact⟨(hc 0 (by omega)).trans h1,(hc 1 (by omega)).trans h2,(hc 2 (by omega)).trans h3⟩
 ·obtain⟨hn,rfl⟩:=T5 hl
  refine⟨hv n,(hk.cell (by exact adZ) (hne Av (by decide))).trans ((A0 Av).trans (hg3 n hn)),?_⟩;have h1:=(hcv.hi n hn).row (B':=W4.heap.size) (λg hg=>CJ (hcv.hi n hn) hg);obtain⟨ad,cap,e,hc,h2⟩:=h1;refine⟨ad,cap,e,hc,λh0=>?_⟩;obtain⟨g,off,e2,h3,h4⟩:=h2 h0;have Nk:∃c,W4.heap[g]?=some (.cells c 3 (0,0)):=BI (hcv.hi n hn) (by rw[e,e2];rfl);obtain⟨c3,hk3⟩:=Nk;exact⟨g,off,e2,lL h3 Ob,λi x hx=>(hk.cell (by exact h3) (hne hk3 (by decide))).trans (h4 i x hx)⟩
 ·obtain⟨hn,rfl⟩:=T5 hl
  refine⟨by have:=ajC n;omega,λq hq=>?_⟩;obtain⟨rhs,h1,_⟩:=hcI.old n q hq;exact fJ h1
 ·obtain⟨r,hr,hp⟩:=hcI.pt q p hq
  cases p with
  |tok t=>exact hN.pt r hr t hp
  |yB n=>exact hN.pn r hr n hp
def Om (Q:zu) (w:World) (B i k:Nat) (f:Nat->Wt):Prop:=∃gi gn,Q.gp<gi/\Q.gp<gn/\gi<B/\gn<B/\w.cell? (af Q.gp i)=some (ae gi (Q.row.length+1) (Q.row.length+1))/\w.cell? (af gi (k*2))=some (ae gn Q.T.N.nN Q.T.N.nN)/\I3 w gn Q.T.N.nN f
def On (Q:zu) (w:World) (B i k:Nat) (f:Nat->Wt):Prop:=∃gi gq,Q.gp<gi/\Q.gp<gq/\gi<B/\gq<B/\w.cell? (af Q.gp i)=some (ae gi (Q.row.length+1) (Q.row.length+1))/\w.cell? (af gi (k*2+1))=some (ae gq Q.yQ.length Q.yQ.length)/\I3 w gq Q.yQ.length f
section
variable {Q:zu}{w w':World}{B B' i k:Nat}{f:Nat->Wt}
theorem Om.v (h:Om Q w B i k f):Gv Q w B i k f:=by obtain⟨x,y,_,_,z⟩:=h;exact⟨x,y,z⟩
theorem On.v (h:On Q w B i k f):Mq Q w B i k f:=by obtain⟨x,y,_,_,z⟩:=h;exact⟨x,y,z⟩
theorem Om.mono (h:Om Q w B i k f) (hB:B<=B'):Om Q w B' i k f:=by obtain⟨x,y,h1,h2,h3,h4,z⟩:=h;exact⟨x,y,h1,h2,by omega,by omega,z⟩
theorem On.mono (h:On Q w B i k f) (hB:B<=B'):On Q w B' i k f:=by obtain⟨x,y,h1,h2,h3,h4,z⟩:=h;exact⟨x,y,h1,h2,by omega,by omega,z⟩
theorem agH {P:Prop} (h:P:=by
  obtain⟨x,y,h1,h2,h3,h4,h5,h6,h7⟩:=h;have hx:∀q,Q.gp<q->q<B->q∉S:=λq h1 h2 hm=>by have:=hS q hm;omega
  exact⟨x,y,h1,h2,h3,h4,hc.trans h5,(hk.cell (by show x<w.heap.size;omega) (hx x h1 h3)).trans h6,h7.keeps hk (by omega) (hx y h2 h4)⟩):P:=h
theorem Om.keeps {S:List Nat} (h:Om Q w B i k f) (hk:A1 w w' S) (hB:B<=w.heap.size) (hS:∀q∈S,q<=Q.gp\/B<=q) (hc:w'.cell? (af Q.gp i)=w.cell? (af Q.gp i)):Om Q w' B i k f:=by
 exact agH
theorem On.keeps {S:List Nat} (h:On Q w B i k f) (hk:A1 w w' S) (hB:B<=w.heap.size) (hS:∀q∈S,q<=Q.gp\/B<=q) (hc:w'.cell? (af Q.gp i)=w.cell? (af Q.gp i)):On Q w' B i k f:=by
 exact agH
end
structure M4 (Q:zu) (W:World) (s:Nat) (cn ct:Nat->Nat->Nat->Wt):Prop where
 kn:∀a b,s<=a->a<=b->b<=Q.row.length->Om Q W W.heap.size a b (λn=>cn n a b)/\On Q W W.heap.size a b (λq=>ct q a b)
 wd:∀a b,s<=a->a<=b->b<=Q.row.length->EH Q.T.N (BJ Q.yQ) (FJ Q.hds) Q.row cn ct a b
 sn:Fl cn
 st:Fl ct
theorem KF {row:Option Nat} (hg:A.grownBy C row) (hr:∀r,row=some r->∃o:Obj,A.heap[r]?=some o/\o.isCells=false) {g j:Nat}{v:Value} (h:A.cell? (af g j)=some v):C.cell? (af g j)=some v:=by
 obtain⟨cs,e,fr,h1⟩:=bM h;rw[A0 (FT h1 hg hr),<-A0 h1];exact h
theorem I3.step {row:Option Nat}{g n:Nat}{f:Nat->Wt} (h:I3 A g n f) (hg:A.grownBy C row) (hr:∀r,row=some r->∃o:Obj,A.heap[r]?=some o/\o.isCells=false):I3 C g n f:=λi hi=>⟨KF hg hr (h i hi).1,KF hg hr (h i hi).2⟩
theorem M4.step {row:Option Nat} (h:M4 Q A s cn ct) (hg:A.grownBy C row) (hr:∀r,row=some r->∃o:Obj,A.heap[r]?=some o/\o.isCells=false):M4 Q C s cn ct:=
 ⟨λa b h1 h2 h3=>by
  obtain⟨⟨x,y,y1,y2,z1,z2,z3,z4,z5⟩,⟨x',y',y1',y2',z1',z2',z3',z4',z5'⟩⟩:=h.kn a b h1 h2 h3;have hs:=hg.size;exact⟨⟨x,y,y1,y2,by omega,by omega,KF hg hr z3,KF hg hr z4,z5.step hg hr⟩,⟨x',y',y1',y2',by omega,by omega,KF hg hr z3',KF hg hr z4',z5'.step hg hr⟩⟩,h.wd,h.sn,h.st⟩
structure RC (Q:zu) (W:World) (gi s k:Nat) (cn ct:Nat->Nat->Nat->Wt):Prop where
 kn:Qq Q W gi s k cn ct
 old:∀a b,s<a->a<=b->b<=Q.row.length->Om Q W gi a b (λn=>cn n a b)/\On Q W gi a b (λq=>ct q a b)
 wdo:∀a b,s<a->a<=b->b<=Q.row.length->EH Q.T.N (BJ Q.yQ) (FJ Q.hds) Q.row cn ct a b
 Dm:∀b,s<=b->b<k->EH Q.T.N (BJ Q.yQ) (FJ Q.hds) Q.row cn ct s b
 sn:Fl cn
 st:Fl ct
 blk:∃C,W.heap[gi]?=some (.cells C 351 (0,0))/\C.size=(Q.row.length+1)*2
theorem M4.row {W1:World} (h:M4 Q W (s+1) cn ct) (hk:A1 W W1 [Q.gp]) (Ob:Q.gp<W.heap.size) (Kz:gi=W.heap.size) (Bf:gi<W1.heap.size)
  (hc:W1.cell? (af Q.gp s)=some (ae gi (Q.row.length+1) (Q.row.length+1))) (ho:∀j,j≠s->W1.cell? (af Q.gp j)=W.cell? (af Q.gp j))
  (hb:∃C,W1.heap[gi]?=some (.cells C 351 (0,0))/\C.size=(Q.row.length+1)*2):RC Q W1 gi s s cn ct:=by
 subst Kz;have hold:∀a b,s<a->a<=b->b<=Q.row.length->Om Q W1 W.heap.size a b (λn=>cn n a b)/\On Q W1 W.heap.size a b (λq=>ct q a b):=λa b h1 h2 h3=>by
  obtain⟨z1,z2⟩:=h.kn a b h1 h2 h3;exact⟨z1.keeps hk (yF _) (λq hq=>.inl abP) (ho a (by omega)),z2.keeps hk (yF _) (λq hq=>.inl abP) (ho a (by omega))⟩
 exact⟨⟨Ob,Bf,hc,λa b h1 h2 h3=>⟨(hold a b h1 h2 h3).1.v,(hold a b h1 h2 h3).2.v⟩,λb h1 h2=>by omega⟩,hold,λa b h1=>h.wd a b h1,λb h1 h2=>by omega,h.sn,h.st,hb⟩
theorem RC.next {W1:World}{k:Nat}{nm ta:Nat->Wt} (h:RC Q W gi s k cn ct) (hn:Qq Q W1 gi s (k+1) (AK cn s k nm) (AK ct s k ta)) (h1:FX nm) (h2:FX ta)
  (hw:EH Q.T.N (BJ Q.yQ) (FJ Q.hds) Q.row (AK cn s k nm) (AK ct s k ta) s k) (hk:A1 W W1 [gi]) (hb:∃C,W1.heap[gi]?=some (.cells C 351 (0,0))/\C.size=(Q.row.length+1)*2):RC Q W1 gi s (k+1) (AK cn s k nm) (AK ct s k ta) where
 kn:=hn
 old:=λa b k1 k2 k3=>by
  have e1:(λn=>AK cn s k nm n a b)=λn=>cn n a b:=by funext n;unfold AK;rw[au (by omega)]
  have e2:(λn=>AK ct s k ta n a b)=λn=>ct n a b:=by funext n;unfold AK;rw[au (by omega)]
  rw[e1,e2];have Kz:=h.kn.Uv;have Ob:=h.kn.Dd;have hc:W1.cell? (af Q.gp a)=W.cell? (af Q.gp a):=hk.cell (by show Q.gp<W.heap.size;omega) yM;obtain⟨z1,z2⟩:=h.old a b k1 k2 k3;exact⟨z1.keeps hk (qb Kz) (λq hq=>.inr abP) hc,z2.keeps hk (qb Kz) (λq hq=>.inr abP) hc⟩
 wdo:=λa b k1 k2 k3=>(h.wdo a b k1 k2 k3).other (.inl k1)
 Dm:=λb k1 k2=>by
  by_cases e:b=k
  ·subst e;exact hw
  ·exact(h.Dm b k1 (by omega)).other (.inr (by omega))
 sn:=h.sn.put h1 s k
 st:=h.st.put h2 s k
 blk:=hb
theorem RC.done  (h:RC Q W gi s (Q.row.length+1) cn ct):M4 Q W s cn ct where
 kn:=λa b h1 h2 h3=>by
  have Kz:=h.kn.Uv
  by_cases e:a=s
  ·subst e
   obtain⟨gn,gq,h4,h5,h6,h7,h8,h9,h10,h11⟩:=h.kn.own b h2 (by omega);have Ob:=h.kn.Dd;exact⟨⟨gi,gn,Ob,by omega,Kz,h6,h.kn.pi,h8,h10⟩,⟨gi,gq,Ob,by omega,Kz,h7,h.kn.pi,h9,h11⟩⟩
  ·obtain⟨z1,z2⟩:=h.old a b (by omega) h2 h3
   exact⟨z1.mono (by omega),z2.mono (by omega)⟩
 wd:=λa b h1 h2 h3=>by
  by_cases e:a=s
  ·subst e;exact h.Dm b h2 (by omega)
  ·exact h.wdo a b (by omega) h2 h3
 sn:=h.sn
 st:=h.st
end Go.Proofs.YtjjggdcnpndgjaaGreatDoor
