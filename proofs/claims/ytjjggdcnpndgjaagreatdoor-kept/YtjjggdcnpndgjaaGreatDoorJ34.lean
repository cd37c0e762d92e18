import Derived.Test.YtjjggdcnpndgjaaGreatDoorJ33
set_option linter.unusedSimpArgs false
namespace Go.Proofs.YtjjggdcnpndgjaaGreatDoor
open Go.RowKit Go.Shelf
variable {A C W:World}{Q:Wts}{cn ct:Nat->Nat->Nat->Wt}{gi s:Nat}
def dpL (N:NG) (row:List Nat) (i:Nat):List Nat:=(List.range (i+1)).map fun j=>AU N (row.take j)
theorem MS (N:NG) (row:List Nat) (i:Nat):(dpL N row i).length=i+1:=by unfold dpL;simp
theorem bN {row:List Nat}{N:NG}{i j:Nat} (hj:j<=i):(dpL N row i)[j]?=some (AU N (row.take j)):=by
 unfold dpL;rw[gM,List.getElem?_range (by omega)];rfl
theorem rF (N:NG) (row:List Nat) (i:Nat):dpL N row (i+1)=dpL N row i++ [AU N (row.take (i+1))]:=by
 unfold dpL;rw[List.range_succ,List.map_append];rfl
theorem UG {row:List Nat}{N:NG}{i x:Nat} (h:row[i]?=some x):AU N (row.take (i+1))=AU N (row.take i)+N.drop x:=by
 rw[List.take_add_one,h,OW];simp[AU]
theorem UH:∀{l:List (Option Pt)}{q:Nat}{o:Option Pt},l[q]?=some o->(FR l)[q*3]?=some (.bool o.isNone)/\(FR l)[q*3+1]?=some (.bool (M7 o))/\(FR l)[q*3+2]?=some (ab (M4 o))
 | [],q,o,h=>by cases h
 |a::l,0,o,h=>by
  obtain rfl:a=o:=by simpa using h
  exact⟨rfl,rfl,rfl⟩
 |a::l,q+1,o,h=>by
  have h:l[q]?=some o:=by simpa using h
  obtain⟨h1,h2,h3⟩:=UH h;have e:FR (a::l)=TC a++FR l:=rfl;have e3:(TC a).length=3:=rfl;rw[e];refine⟨?_,?_,?_⟩
  ·rw[aR_ (by omega),e3,show(q+1)*3 - 3=q*3 by omega];exact h1
  ·rw[aR_ (by omega),e3,show(q+1)*3+1 - 3=q*3+1 by omega];exact h2
  ·rw[aR_ (by omega),e3,show(q+1)*3+2 - 3=q*3+2 by omega];exact h3
theorem wG {row:List Nat}{T:Tab}{W4 W5:World}{rv vd vT:Value}{B wb gh gp Br:Nat}{hv:Nat->Value} (hT:T.In W4) (hBd:T.Bd wb) (hBw:wb<W4.heap.size)
  (hcv:GV W4 B wb gh (ac T.tb) rv vd T.N.nN vT hv (BE T.N.rules).1 (BE T.N.rules).2) (hdp:DD W4 Br vd (dpL T.N row row.length)) (hrw:RwV W4 wb rv row)
  (hk:A1 W4 W5 [wb]) (hgp:W4.heap.size<=gp) (hgl:gp<W5.heap.size) (hvT:0< (BE T.N.rules).1.length)
  (hb:W5.heap[wb]?=some (.cells #[ac T.tb,rv,vd,vT,ae gh T.N.nN T.N.nN,ae gp (row.length+1) (row.length+1)] 306 (0,0)))
  (hrl:∀x∈row,x<T.N.nT) (h100:row.length<=100):
  ∃gd cd gt ct,Wts.In ⟨T,wb,row,rv,gd,cd,gt,ct,(BE T.N.rules).1,gh,T.N.nN,MB T.N.nN (BE T.N.rules).2,gp⟩ W5:=by
 have hbl:Below wb W4 W5:=hk.below (Nat.le_of_lt hBw) (fun q hq=>by rw[mS.1 hq];exact lR_ _);have hbd:T.Bd gp:=⟨lT_ hBd.n0 (by omega),lL hBd.tb (by omega),lL hBd.kb (by omega)⟩;have hN:=hT.fc.gr.ok;have hr60:=hT.fc.gr.leR;have hcI:=PS T.N.rules;obtain⟨hsm1,hsm2⟩:=QZ T.N.rules (fun r hr=>hN.parts _ hr);have hld:0< (dpL T.N row row.length).length:=by rw[MS];omega
 obtain⟨gd,cd,rfl,_⟩:=AX hdp hld;obtain⟨gt,ct,hvt,_⟩:=AX hcv.tl hvT;subst hvt;obtain⟨_,_,ed,hcd⟩:=EB hdp;obtain⟨_,_,et,hct⟩:=EB hcv.tl;injection ed with _ _ ed
 subst ed;injection et with _ _ et
 subst et;have hgdl:gd<W4.heap.size:=CY hdp rfl;have hgtl:gt<W4.heap.size:=CY hcv.tl rfl;obtain⟨cs,hg1,hg2,hg3⟩:=hcv.hb;have hghl:=lt_of_block hg1;have hne:∀{g:Nat}{c:Array Value}{e:Nat}{f:Nat × Nat},W4.heap[g]?=some (.cells c e f)->e≠306->g∉ [wb]:=fun {g c e f} h1 h2 hm=>by
  rw[mS.1 hm,hcv.blk]at h1;injection h1 with h1
  injection h1 with _ h1
  exact h2 h1.symm
 obtain⟨c1,hk1⟩:=BJ hdp (g:=gd) rfl;obtain⟨c2,hk2⟩:=BJ hcv.tl (g:=gt) rfl;rw[MS]at hb;refine⟨gd,cd,gt,ct,{
  tab:=hT.below hBd hbl
  bd:=hbd
  blk:=hb
  rowc:=(hrw.below hbl).mono (by show wb<=gp;omega)
  drc:=fun i hi=>(hk.cell (by exact hgdl) (hne hk1 (by decide))).trans (DD.at (l:=dpL T.N row row.length) hdp (bN hi))
  tlc:=fun q o ho=>?_
  hdc:=fun n l hl=>?_
  gpl:=hgl
  wbl:=by show wb<gp;omega
  gdl:=by show gd<gp;omega
  gtl:=by show gt<gp;omega
  ghl:=by show gh<gp;omega
  hl:=bM _ _
  tl20:=by show(BE T.N.rules).1.length<=1000;omega
  tlc2:=hct
  hdl:=fun n l hl=>?_
  rl:=hrl
  r40:=h100
  cdl:=by show row.length+1<=cd;rw[MS]at hcd;exact hcd
  chl:=lR_ _
  pto:=fun q p hq=>?_}⟩
 ·have hq:q< (BE T.N.rules).1.length:=(gS_.1 ho).1
  obtain⟨h1,h2,h3⟩:=UH ho;have hc:=fun j (hj:j<3)=>(hk.cell (p:=(af gt (q*3+j))) (by exact hgtl) (hne hk2 (by decide))).trans (World.ownsRow.cellAt hcv.tl (q*3+j) (by omega))
  exact⟨(hc 0 (by omega)).trans h1,(hc 1 (by omega)).trans h2,(hc 2 (by omega)).trans h3⟩
 ·obtain⟨hn,rfl⟩:=TY hl
  refine⟨hv n,(hk.cell (by exact hghl) (hne hg1 (by decide))).trans ((A0 hg1).trans (hg3 n hn)),?_⟩;have h1:=(hcv.hi n hn).row (B':=W4.heap.size) (fun g hg=>CY (hcv.hi n hn) hg);obtain⟨ad,cap,e,hc,h2⟩:=h1;refine⟨ad,cap,e,hc,fun h0=>?_⟩;obtain⟨g,off,e2,h3,h4⟩:=h2 h0;have hgk:∃c,W4.heap[g]?=some (.cells c 3 (0,0)):=BJ (hcv.hi n hn) (by rw[e,e2];rfl);obtain⟨c3,hk3⟩:=hgk;exact⟨g,off,e2,lL h3 hgp,fun i x hx=>(hk.cell (by exact h3) (hne hk3 (by decide))).trans (h4 i x hx)⟩
 ·obtain⟨hn,rfl⟩:=TY hl
  refine⟨by have:=hsm2 n;omega,fun q hq=>?_⟩;obtain⟨rhs,h1,_⟩:=hcI.old n q hq;exact eZ h1
 ·obtain⟨r,hr,hp⟩:=hcI.pt q p hq
  cases p with
  |tok t=>exact hN.pt r hr t hp
  |nam n=>exact hN.pn r hr n hp
def NmL (Q:Wts) (w:World) (B i k:Nat) (f:Nat->Wt):Prop:=∃gi gn,Q.gp<gi/\Q.gp<gn/\gi<B/\gn<B/\w.cell? (af Q.gp i)=some (ae gi (Q.row.length+1) (Q.row.length+1))/\w.cell? (af gi (k*2))=some (ae gn Q.T.N.nN Q.T.N.nN)/\I3 w gn Q.T.N.nN f
def TlL (Q:Wts) (w:World) (B i k:Nat) (f:Nat->Wt):Prop:=∃gi gq,Q.gp<gi/\Q.gp<gq/\gi<B/\gq<B/\w.cell? (af Q.gp i)=some (ae gi (Q.row.length+1) (Q.row.length+1))/\w.cell? (af gi (k*2+1))=some (ae gq Q.tls.length Q.tls.length)/\I3 w gq Q.tls.length f
section
variable {Q:Wts}{w w':World}{B B' i k:Nat}{f:Nat->Wt}
theorem NmL.v (h:NmL Q w B i k f):NmV Q w B i k f:=by obtain⟨x,y,_,_,z⟩:=h;exact⟨x,y,z⟩
theorem TlL.v (h:TlL Q w B i k f):TlV Q w B i k f:=by obtain⟨x,y,_,_,z⟩:=h;exact⟨x,y,z⟩
theorem NmL.mono (h:NmL Q w B i k f) (hB:B<=B'):NmL Q w B' i k f:=by obtain⟨x,y,h1,h2,h3,h4,z⟩:=h;exact⟨x,y,h1,h2,by omega,by omega,z⟩
theorem TlL.mono (h:TlL Q w B i k f) (hB:B<=B'):TlL Q w B' i k f:=by obtain⟨x,y,h1,h2,h3,h4,z⟩:=h;exact⟨x,y,h1,h2,by omega,by omega,z⟩
theorem Mz34 {P:Prop} (h:P:=by
  obtain⟨x,y,h1,h2,h3,h4,h5,h6,h7⟩:=h;have hx:∀q,Q.gp<q->q<B->q∉S:=fun q h1 h2 hm=>by have:=hS q hm;omega
  exact⟨x,y,h1,h2,h3,h4,hc.trans h5,(hk.cell (by show x<w.heap.size;omega) (hx x h1 h3)).trans h6,h7.keeps hk (by omega) (hx y h2 h4)⟩):P:=h
theorem NmL.keeps {S:List Nat} (h:NmL Q w B i k f) (hk:A1 w w' S) (hB:B<=w.heap.size) (hS:∀q∈S,q<=Q.gp\/B<=q) (hc:w'.cell? (af Q.gp i)=w.cell? (af Q.gp i)):NmL Q w' B i k f:=by
 exact Mz34
theorem TlL.keeps {S:List Nat} (h:TlL Q w B i k f) (hk:A1 w w' S) (hB:B<=w.heap.size) (hS:∀q∈S,q<=Q.gp\/B<=q) (hc:w'.cell? (af Q.gp i)=w.cell? (af Q.gp i)):TlL Q w' B i k f:=by
 exact Mz34
end
structure MC (Q:Wts) (W:World) (s:Nat) (cn ct:Nat->Nat->Nat->Wt):Prop where
 kn:∀a b,s<=a->a<=b->b<=Q.row.length->NmL Q W W.heap.size a b (fun n=>cn n a b)/\TlL Q W W.heap.size a b (fun q=>ct q a b)
 wd:∀a b,s<=a->a<=b->b<=Q.row.length->EK Q.T.N (BK Q.tls) (FM Q.hds) Q.row cn ct a b
 sn:WSm cn
 st:WSm ct
theorem KQ {row:Option Nat} (hg:A.grownBy C row) (hr:∀r,row=some r->∃o:Obj,A.heap[r]?=some o/\o.isCells=false) {g j:Nat}{v:Value} (h:A.cell? (af g j)=some v):C.cell? (af g j)=some v:=by
 obtain⟨cs,e,fr,h1⟩:=bI h;rw[A0 (FX h1 hg hr),<-A0 h1];exact h
theorem I3.step {row:Option Nat}{g n:Nat}{f:Nat->Wt} (h:I3 A g n f) (hg:A.grownBy C row) (hr:∀r,row=some r->∃o:Obj,A.heap[r]?=some o/\o.isCells=false):I3 C g n f:=fun i hi=>⟨KQ hg hr (h i hi).1,KQ hg hr (h i hi).2⟩
theorem MC.step {row:Option Nat} (h:MC Q A s cn ct) (hg:A.grownBy C row) (hr:∀r,row=some r->∃o:Obj,A.heap[r]?=some o/\o.isCells=false):MC Q C s cn ct:=
 ⟨fun a b h1 h2 h3=>by
  obtain⟨⟨x,y,y1,y2,z1,z2,z3,z4,z5⟩,⟨x',y',y1',y2',z1',z2',z3',z4',z5'⟩⟩:=h.kn a b h1 h2 h3;have hs:=hg.size;exact⟨⟨x,y,y1,y2,by omega,by omega,KQ hg hr z3,KQ hg hr z4,z5.step hg hr⟩,⟨x',y',y1',y2',by omega,by omega,KQ hg hr z3',KQ hg hr z4',z5'.step hg hr⟩⟩,h.wd,h.sn,h.st⟩
structure RN (Q:Wts) (W:World) (gi s k:Nat) (cn ct:Nat->Nat->Nat->Wt):Prop where
 kn:KnR Q W gi s k cn ct
 old:∀a b,s<a->a<=b->b<=Q.row.length->NmL Q W gi a b (fun n=>cn n a b)/\TlL Q W gi a b (fun q=>ct q a b)
 wdo:∀a b,s<a->a<=b->b<=Q.row.length->EK Q.T.N (BK Q.tls) (FM Q.hds) Q.row cn ct a b
 wds:∀b,s<=b->b<k->EK Q.T.N (BK Q.tls) (FM Q.hds) Q.row cn ct s b
 sn:WSm cn
 st:WSm ct
 blk:∃C,W.heap[gi]?=some (.cells C 351 (0,0))/\C.size=(Q.row.length+1)*2
theorem MC.row {W1:World} (h:MC Q W (s+1) cn ct) (hk:A1 W W1 [Q.gp]) (hgp:Q.gp<W.heap.size) (hgi:gi=W.heap.size) (hgl:gi<W1.heap.size)
  (hc:W1.cell? (af Q.gp s)=some (ae gi (Q.row.length+1) (Q.row.length+1))) (ho:∀j,j≠s->W1.cell? (af Q.gp j)=W.cell? (af Q.gp j))
  (hb:∃C,W1.heap[gi]?=some (.cells C 351 (0,0))/\C.size=(Q.row.length+1)*2):RN Q W1 gi s s cn ct:=by
 subst hgi;have hold:∀a b,s<a->a<=b->b<=Q.row.length->NmL Q W1 W.heap.size a b (fun n=>cn n a b)/\TlL Q W1 W.heap.size a b (fun q=>ct q a b):=fun a b h1 h2 h3=>by
  obtain⟨z1,z2⟩:=h.kn a b h1 h2 h3;exact⟨z1.keeps hk (lR_ _) (fun q hq=>.inl y59Z) (ho a (by omega)),z2.keeps hk (lR_ _) (fun q hq=>.inl y59Z) (ho a (by omega))⟩
 exact⟨⟨hgp,hgl,hc,fun a b h1 h2 h3=>⟨(hold a b h1 h2 h3).1.v,(hold a b h1 h2 h3).2.v⟩,fun b h1 h2=>by omega⟩,hold,fun a b h1=>h.wd a b h1,fun b h1 h2=>by omega,h.sn,h.st,hb⟩
theorem RN.next {W1:World}{k:Nat}{nm ta:Nat->Wt} (h:RN Q W gi s k cn ct) (hn:KnR Q W1 gi s (k+1) (AK cn s k nm) (AK ct s k ta)) (h1:FZ nm) (h2:FZ ta)
  (hw:EK Q.T.N (BK Q.tls) (FM Q.hds) Q.row (AK cn s k nm) (AK ct s k ta) s k) (hk:A1 W W1 [gi]) (hb:∃C,W1.heap[gi]?=some (.cells C 351 (0,0))/\C.size=(Q.row.length+1)*2):RN Q W1 gi s (k+1) (AK cn s k nm) (AK ct s k ta) where
 kn:=hn
 old:=fun a b k1 k2 k3=>by
  have e1:(fun n=>AK cn s k nm n a b)=fun n=>cn n a b:=by funext n;unfold AK;rw[if_neg (by omega)]
  have e2:(fun n=>AK ct s k ta n a b)=fun n=>ct n a b:=by funext n;unfold AK;rw[if_neg (by omega)]
  rw[e1,e2];have hgi:=h.kn.gil;have hgp:=h.kn.gpl;have hc:W1.cell? (af Q.gp a)=W.cell? (af Q.gp a):=hk.cell (by show Q.gp<W.heap.size;omega) y2Z;obtain⟨z1,z2⟩:=h.old a b k1 k2 k3;exact⟨z1.keeps hk (Nat.le_of_lt hgi) (fun q hq=>.inr y59Z) hc,z2.keeps hk (Nat.le_of_lt hgi) (fun q hq=>.inr y59Z) hc⟩
 wdo:=fun a b k1 k2 k3=>(h.wdo a b k1 k2 k3).other (.inl k1)
 wds:=fun b k1 k2=>by
  by_cases e:b=k
  ·subst e;exact hw
  ·exact(h.wds b k1 (by omega)).other (.inr (by omega))
 sn:=h.sn.put h1 s k
 st:=h.st.put h2 s k
 blk:=hb
theorem RN.done  (h:RN Q W gi s (Q.row.length+1) cn ct):MC Q W s cn ct where
 kn:=fun a b h1 h2 h3=>by
  have hgi:=h.kn.gil
  by_cases e:a=s
  ·subst e
   obtain⟨gn,gq,h4,h5,h6,h7,h8,h9,h10,h11⟩:=h.kn.own b h2 (by omega);have hgp:=h.kn.gpl;exact⟨⟨gi,gn,hgp,by omega,hgi,h6,h.kn.pi,h8,h10⟩,⟨gi,gq,hgp,by omega,hgi,h7,h.kn.pi,h9,h11⟩⟩
  ·obtain⟨z1,z2⟩:=h.old a b (by omega) h2 h3
   exact⟨z1.mono (by omega),z2.mono (by omega)⟩
 wd:=fun a b h1 h2 h3=>by
  by_cases e:a=s
  ·subst e;exact h.wds b h2 (by omega)
  ·exact h.wdo a b (by omega) h2 h3
 sn:=h.sn
 st:=h.st
end Go.Proofs.YtjjggdcnpndgjaaGreatDoor
