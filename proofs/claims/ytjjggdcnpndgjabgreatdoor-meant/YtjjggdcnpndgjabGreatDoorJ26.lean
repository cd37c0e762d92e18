import Derived.Test.YtjjggdcnpndgjabGreatDoorJ24
import Derived.Test.YtjjggdcnpndgjabGreatDoorJ25
set_option linter.unusedSimpArgs false
set_option maxHeartbeats 8000000
set_option maxRecDepth 100000
namespace Go.Proofs.YtjjggdcnpndgjabGreatDoor
open Go.RowKit Go.Shelf
variable {B Bn e m n t tb wk x:Nat}{L s:List Pt}{S:List Nat}{W W' w w':World}{v:Value}
theorem dY (L:List Pt):(BP L).length=L.length*2:=by
 unfold BP
 induction L with
 |nil=>rfl
 |cons a r ih=>rw[List.flatMap_cons,lA,ih];simp;omega
theorem O9 (a b:List Pt):BP (a++b)=BP a++BP b:=by unfold BP;rw[List.flatMap_append]
theorem SI (p:Pt):BP [p]=[.bool (AQ p),ab (AP p)]:=rfl
def SkV (w:World) (B:Nat) (v:Value) (L:List Pt):Prop:=w.ownsRow B 105 2 v L.length (BP L.reverse)
theorem SkV.top {p:Pt} (h:SkV w B v (p::s)):
  ∃g cap,v=ae g (s.length+1) cap/\g<w.heap.size/\B<=g/\s.length+1<=cap/\w.cell? (af g (s.length*2))=some (.bool (AQ p))/\w.cell? (af g (s.length*2+1))=some (ab (AP p))/\SkV w B (ae g s.length cap) s:=by
 obtain⟨h1,h2⟩:=h
 rcases h2 with⟨_,h2⟩ | ⟨g,cap,cur,rfl,hg,hh,hnc,hm,hs,ht⟩
 ·simp at h2
 ·have e:BP (p::s).reverse=BP s.reverse++ [.bool (AQ p),ab (AP p)]:=by rw[List.reverse_cons,O9,SI]
  have hl:(BP s.reverse).length=s.length*2:=by rw[dY,List.length_reverse]
  have hrow:w.ownsRow B 105 2 (ae g (p::s).length cap) (p::s).length (BP (p::s).reverse):=⟨h1,.inr ⟨g,cap,cur,rfl,hg,hh,hnc,hm,hs,ht⟩⟩;refine⟨g,cap,rfl,lt_of_block hh,hg,hnc,?_,?_,⟨hl,.inr ⟨g,cap,cur,rfl,hg,hh,by simp only[lC]at hnc;omega,hm,hs,?_⟩⟩⟩
  ·rw[hrow.cellAt _ (by simp only[lC];omega),e,aR_ (by omega),hl,Nat.sub_self];rfl
  ·rw[hrow.cellAt _ (by simp only[lC];omega),e,aR_ (by omega),hl,show s.length*2+1 - s.length*2=1 by omega];rfl
  ·have h3:(cur.toList.take ((p::s).length*2)).take (s.length*2)=cur.toList.take (s.length*2):=by
    rw[List.take_take,Nat.min_eq_left (by simp only[lC];omega)]
   rw[<-h3,ht,e,List.take_append_of_le_length (by omega),List.take_of_length_le (by omega)]
theorem SkV.nil  (h:SkV w B v []):∃ad cap,v=.slice ad 0 cap:=by
 rcases h.2 with⟨rfl,_⟩ | ⟨g,cap,cur,rfl,_⟩
 ·exact⟨_,_,rfl⟩
 ·exact⟨_,_,rfl⟩
theorem SkV.form  (h:SkV w B v L):∃ad cap,v=.slice ad L.length cap/\L.length<=cap:=by
 rcases h.2 with⟨rfl,h0⟩ | ⟨g,cap,cur,rfl,_,_,h1,_⟩
 ·exact⟨none,0,by rw[h0],by omega⟩
 ·exact⟨_,_,rfl,h1⟩
def WkV (w:World) (wk tb B:Nat) (v:Value) (L:List Pt) (x:Nat):Prop:=w.heap[wk]?=some (.cells #[ac tb,v,ab x] 100 (0,0))/\SkV w B v L
def BH (n:Nat) (v v':Value):Prop:=∀g,v'.ownBlock=some g->v.ownBlock=some g\/n<=g
theorem BH.refl (n:Nat) (v:Value):BH n v v:=fun _ h=>.inl h
theorem BH.trans {a b c:Value} (h:BH n a b) (k:BH m b c) (hn:n<=m):BH n a c:=fun g e=>by
 rcases k g e with h1 |h1
 ·exact h g h1
 ·exact .inr (by omega)
theorem A1.fresh {a b c:World}{v':Value} (h:A1 a b (wk::v.ownBlock.toList)) (k:A1 b c (wk::v'.ownBlock.toList)) (hf:BH n v v') (hn:a.heap.size<=n):A1 a c (wk::v.ownBlock.toList):=
 ⟨k.os.trans h.os,k.tape.trans h.tape,k.output.trans h.output,lT_ h.size k.size,fun q hq hm=>(k.block q (lL hq h.size) (fun h1=>by
  rcases List.mem_cons.1 h1 with e |e
  ·exact hm y27Z
  ·rcases hf q y7Z with h2 |h2
   ·exact hm (by simp[h2])
   ·omega)).trans (h.block q hq hm)⟩
theorem WkV.keeps  (h:WkV w wk tb B v L x) (hk:A1 w w' S) (hw:wk∉S) (hv:∀g,v.ownBlock=some g->g∉S):WkV w' wk tb B v L x:=
 ⟨(hk.block wk (lt_of_block h.1) hw).trans h.1,A8 h.2 hk hv⟩
theorem WkV.ne  (h:WkV w wk tb B v L x):v.ownBlock≠some wk:=A6 h.2 h.1 (by decide)
theorem G9 {w1 Wa:World}{n₀ j tW size k:Nat}{cs:Array Value}{v':Value}{xs ys:List Value} (hka:A1 W Wa [])
  (hb:W.heap[wk]?=some (.cells cs tW (0,0))) (hte:e≠tW) (hrow:W.ownsRow n₀ e size v k xs) (hown':w1.ownsRow n₀ e size v' m ys) (hgrow:Wa.grownBy w1 v.ownBlock):
  w1.heap[wk]?=some (.cells cs tW (0,0))/\(w1.setCell (af wk j) v').heap[wk]?=some (.cells (cs.setIfInBounds j v') tW (0,0))/\(w1.setCell (af wk j) v').ownsRow n₀ e size v' m ys/\A1 W (w1.setCell (af wk j) v') (wk::v.ownBlock.toList):=by
 have hne:=A6 hrow hb hte;have hk1:A1 W w1 v.ownBlock.toList:=(hka.mono (fun q h=>by cases h)).grown hgrow (fun q hq=>.inl y13Z);have hb1:w1.heap[wk]?=some (.cells cs tW (0,0)):=(hk1.block wk (lt_of_block hb) (fun hm=>hne y59Z)).trans hb;refine⟨hb1,A5 hb1 v',?_,?_⟩
 ·refine A8 hown' ((A1.refl w1 [wk]).setCell (by simp) _) (fun g hg hm=>?_)
  have hm:=mS.1 hm;subst hm;exact A6 hown' hb1 hte hg
 ·exact(hk1.mono (fun q hq=>by simp at hq ⊢;exact .inr hq)).setCell (by simp) _
theorem G5 {V V1:World} (h:A1 V V1 S) (hS:∀k∈S,∃c e f,V.heap[k]?=some (.cells c e f)):KeepsFrom B V V1:=
 ⟨h.size,fun k o _ hk ho=>(h.block k (Array.getElem?_eq_some_iff.1 hk).1 (fun hm=>by
  obtain⟨c,e,f,h1⟩:=hS k hm;rw[hk]at h1;injection h1 with h1
  subst h1;cases ho)).trans hk⟩
theorem WkV.kinds  (h:WkV w wk tb B v L x):∀k∈wk::v.ownBlock.toList,∃c e f,w.heap[k]?=some (.cells c e f):=by
 intro k hk;simp at hk
 rcases hk with rfl |hk
 ·exact⟨_,_,_,h.1⟩
 ·obtain⟨c,hc⟩:=BJ h.2 hk
  exact⟨_,_,_,hc⟩
theorem WkV.step {row:Option Nat} (h:WkV W wk tb B v L x) (hg:W.grownBy W' row) (hr:∀r,row=some r->∃o:Obj,W.heap[r]?=some o/\o.isCells=false):WkV W' wk tb B v L x:=by
 have hn:∀k∈wk::v.ownBlock.toList,k∉row.toList:=fun k hk hm=>by
  obtain⟨c,e,f,h1⟩:=h.kinds k hk;have hm:row=some k:=by simpa using hm
  obtain⟨o,h2,h3⟩:=hr k hm;rw[h1]at h2;injection h2 with h2
  subst h2;cases h3
 exact h.keeps ((A1.refl W row.toList).grown hg (fun k e=>.inl y27Z)) (hn wk (by simp)) (fun g hg=>hn g (by simp[hg]))
theorem X2 {sz c g:Nat}{xs:List Value} (h:w.ownsRow B e sz (ae g m c) n xs) (hb:w'.heap[g]?=w.heap[g]?):w'.ownsRow B e sz (ae g m c) n xs:=by
 obtain⟨h1,h2⟩:=h;refine⟨h1,?_⟩
 rcases h2 with⟨h2,_⟩ | ⟨g',cap,cur,hv,hg,hh,r⟩
 ·cases h2
 ·have e:g=g':=by
   injection hv with h3
   injection h3 with h3
   injection h3
  subst e;exact .inr ⟨g,cap,cur,hv,hg,hb.trans hh,r⟩
structure Tab where
 n0:Nat
 tb:Nat
 kb:Nat
 N:NG
 tws:List ByteArray
 pg:List Nm
 adT:Option Addr
 capT:Nat
 gN:Nat
 capN:Nat
 k:List Fa
 R:Nat->Nat->Int
 E:Nat->Nat
 rul:Nat->Nat->Option (List Pt)
structure Tab.Ok (T:Tab):Prop where
 fh:∀n,AL T.k n<2 ^21
 beg:∀n t,n<T.N.nN->t<=20->(AL T.k n).testBit t=(T.rul n t).isSome
 rl:∀n t rhs,T.rul n t=some rhs->n<T.N.nN/\t<T.N.nT/\∃nm,T.pg[n]?=some nm/\T.R n t=(t:Int)/\nm.2[t]?=some rhs
 len:∀n t rhs,T.rul n t=some rhs->rhs.length<=8/\AY T.N rhs
 ez:∀n,T.E n=0
 led:Led T.rul
 of:PD T.N T.rul
 nN:0<T.N.nN
 nn:∀n,n<T.N.nN->emP T.k n=false
structure Tab.In (T:Tab) (w:World):Prop where
 fc:FcM w T.n0 T.tb T.kb T.N T.tws T.pg T.adT T.capT T.gN T.capN T.k
 tv:TbV w T.tb T.adT T.N.nT T.capT T.gN T.N.nN T.capN T.kb T.R T.E
structure Tab.Bd (T:Tab) (B:Nat):Prop where
 n0:T.n0<=B
 tb:T.tb<B
 kb:T.kb<B
theorem Tab.In.bd {T:Tab} (h:T.In w):T.Bd w.heap.size:=⟨h.fc.ln,h.fc.lf,h.fc.kn.lt⟩
theorem Tab.In.below {T:Tab} (h:T.In w) (hB:T.Bd B) (hb:Below B w w'):T.In w':=by
 have hV:TbV w' T.tb T.adT T.N.nT T.capT T.gN T.N.nN T.capN T.kb T.R T.E:=h.tv.block (hb.block T.tb hB.tb);exact⟨{gr:=h.fc.gr.below (hb.mono hB.n0),n0:=h.fc.n0,ne:=h.fc.ne,lf:=hV.lt,f0:=hV.heads.1,f1:=hV.heads.2.1,f2:=hV.heads.2.2,kn:=(⟨h.fc.kn.1,X2 h.fc.kn.2 (hb.block T.kb hB.kb)⟩:KnV _ _ _ _)},hV⟩
section
attribute [local go_sem] Oper.semAt_some
def FB (B Bn:Nat) (A C:World):Prop:=Below B A C/\C.heap[Bn]?=A.heap[Bn]?
theorem FB.trans {X Y Z:World} (h:FB B Bn X Y) (k:FB B Bn Y Z):FB B Bn X Z:=⟨h.1.trans k.1,k.2.trans h.2⟩
theorem FB.put  (hB:B<=w.heap.size) (hBn:Bn<w.heap.size) (W:World) (l:Nat) (o o':Obj) (hl:w.heap.size<=l) (h:W.heap[l]?=some o) (h1:o.isCells=false) (h2:o.isWalk=false):FB B Bn W (W.putObj l o'):=
 ⟨belowK_b hB W l o o' hl h h1 h2,World.putObj_heap_other (by omega)⟩
theorem FB.keeps  (h:A1 W W' S) (hB:B<=W.heap.size) (hBn:Bn<W.heap.size) (hS:∀q∈S,B<=q/\q≠Bn):FB B Bn W W':=
 ⟨h.below hB (fun q hq=>(hS q hq).1),h.block Bn hBn (fun hm=>(hS Bn hm).2 rfl)⟩
theorem FP {b:Nat}{c:Array Value}{f:Nat × Nat}{row:Option Nat} (h:W.heap[b]?=some (.cells c e f)) (hg:W.grownBy W' row) (hr:∀r,row=some r->∃o:Obj,W.heap[r]?=some o/\o.isCells=false):W'.heap[b]?=some (.cells c e f):=by
 refine(((A1.refl W row.toList).grown hg (fun k e=>.inl y27Z)).block b (lt_of_block h) (fun hm=>?_)).trans h;have hm:row=some b:=by simpa using hm
 obtain⟨o,h2,h3⟩:=hr b hm;rw[h]at h2;injection h2 with h2
 subst h2;cases h3
def EV (ps:List Pt) (i:Nat):Pt:=ps.getD i (.tok 0)
def JX (ps:List Pt) (i:Nat) (v:Value):Prop:=v=.agg #[.bool (AQ (EV ps i)),ab (AP (EV ps i))]
theorem ND {ps:List Pt}{i:Nat}{p:Pt} (h:ps[i]?=some p):EV ps i=p:=by unfold EV;rw[gD_,h];rfl
theorem pP (ps:List Pt):(List.range ps.length).map (EV ps)=ps:=by
 apply List.ext_getElem?;intro i;rw[gM]
 by_cases h:i<ps.length
 ·rw[List.getElem?_range h,Option.map_some,gE h]
  exact congrArg some (ND (gE h))
 ·rw[List.getElem?_eq_none y2Z,List.getElem?_eq_none (by omega)];rfl
def KK {L:Nat}{P:Nat->Value->Prop} (ps:List Pt) (pre:List (BX L P)):List Pt:=((pre.map (·.1.1)).map (EV ps)).reverse
theorem jI {L:Nat}{P:Nat->Value->Prop} (ps:List Pt) (pre:List (BX L P)) (x:BX L P):KK ps (pre++ [x])=EV ps x.1.1::KK ps pre:=by unfold KK;simp
theorem nG {P:Nat->Value->Prop} (ps:List Pt) (ys:List (BX ps.length P)) (h:ys.map (·.1.1)=(List.range ps.length).reverse):KK ps ys=ps:=by
 unfold KK;rw[h,List.map_reverse,List.reverse_reverse,pP]
theorem UH {n₀:Nat}{pv:Value}{ps:List Pt} (hv:C0 W n₀ pv ps) (hb:W.cell? (af Bn 0)=some pv):
  ∃ad cap,W.cell? (af Bn 0)=some (.slice ad ps.length cap)/\ps.length<=cap/\∀i,i<ps.length->∃g off b m,ad=some (af g off)/\JX ps i (.agg #[b,m])/\W.cell? (af g (off+i*2))=some b/\W.cell? (af g (off+i*2+1))=some m:=by
 obtain⟨ad,cap,rfl,h2,h3⟩:=hv;refine⟨ad,cap,hb,h2,fun i hi=>?_⟩;obtain⟨g,off,h4,h5,h6⟩:=h3 (by omega);obtain⟨h7,h8⟩:=h6 i _ (gE hi);refine⟨g,off,_,_,h4,?_,h7,h8⟩;unfold JX;rw[ND (gE hi)]
theorem rB {T:Tab} (hT:T.Ok)  (hI:T.In w) (hB:T.Bd B) (hwk:B<=wk) (hW:WkV w wk T.tb B v s x) (hx:x<=939524097) (hs:s.length<=100000) {rhs:List Pt} (hr:T.rul n t=some rhs):
  Calls Tryz.prog 56 #[ac wk,ab n,ab t] w fun e w'=>∃v',e=.returned (.bool true)/\WkV w' wk T.tb B v' (rhs++s) (DJ x 1)/\A1 w w' (wk::v.ownBlock.toList)/\BH w.heap.size v v':=by
 obtain⟨hn,ht,nm,hnm,hRt,hrhs⟩:=hT.rl n t rhs hr;obtain⟨hl8,_⟩:=hT.len n t rhs hr;have hbit:(AL T.k n).testBit t=true:=by rw[hT.beg n t hn y41Z,hr];rfl
 obtain⟨iP,hiP,hzP0,hzP1,hzP2⟩:=info_parts Tryz.infoB105;have hwl:wk<w.heap.size:=lt_of_block hW.1;have hvl:∀g,v.ownBlock=some g->B<=g/\g<w.heap.size/\g≠wk:=fun g hg=>⟨(hW.2.lt g hg).1,(hW.2.lt g hg).2,fun e=>hW.ne (by rw[hg,e])⟩
 have HI:Hid (T.In w):=hid hI;have HBd:Hid (T.Bd B):=hid hB;have CB:Hid (∀W,Below B w W->Calls Tryz.prog 90 #[ac T.tb,ab n,ab t] W fun e w'=>e=.returned (.bool true)/\W=w'):=hid fun W hb=>by
  have:=ST (hI.below hB hb).fc hT.fh n t hn y41Z;rw[hbit]at this;exact this
 have CR:Hid (∀W,Below B w W->Calls Tryz.prog 58 #[ac T.tb,ab n,ab t] W fun e w'=>∃v,e=.returned (.tuple #[v,ab t])/\C0 W T.n0 v rhs/\W=w'):=hid fun W hb=>
  cY (hI.below hB hb).fc.gr (hI.below hB hb).tv n t t y41Z nm rhs hnm hn hRt hrhs
 have hBw:B<=w.heap.size:=by omega
 clear hI hB hnm hRt hrhs hbit hr;refine(callsIn_wide (n:=4)).1 ?_;refine callsIn_of_wp_marks Tryz.func56 rfl trivial ?_ rfl;simp only[Tryz.ntmps56,List.size_toArray,lC,List.length_nil,Nat.reduceAdd,Nat.reduceSub,Array.replicate_succ,Array.replicate_zero,List.push_toArray,List.append_toArray,List.nil_append,List.cons_append];have hb1:Below B w (w.alloc (.cells #[ac wk] 85)):=(Below.refl B w).alloc hBw _;have HW1:Hid (WkV (w.alloc (.cells #[ac wk] 85)) wk T.tb B v s x):=hid (hW.keeps ((A1.refl w []).alloc _) (by simp) (by simp));have c0:(w.alloc (.cells #[ac wk] 85)).cell? (af wk 0)=some (ac T.tb):=(A0 HW1.out.1).trans rfl;have HB1:=hid hb1;clear hb1 hW
 gi_wp2_with (first
  | (refine⟨trivial,?_⟩;gi_at_call 90;refine((callsIn_wide (n:=3)).2 (CB.out _ HB1.out)).mono ?_;rintro e w1 ⟨rfl,rfl⟩)
  | (refine⟨trivial,?_⟩;gi_at_call 58;refine((callsIn_wide (n:=3)).2 (CR.out _ HB1.out)).mono ?_;rintro e w1 ⟨pv,rfl,hpv,rfl⟩;have HPV:=hid hpv;obtain⟨ad,pcap,rfl,_⟩:=hpv)
  | (refine⟨trivial,?_⟩;gi_at_call 87;refine(bR Fence.wide 3 trivial rfl _ _ _ _).mono ?_;rintro e w1 ⟨rfl,rfl⟩))
 obtain⟨w1,hw1⟩:=qE (w.alloc (.cells #[ac wk] 85));have hs1:w1.heap.size=w.heap.size+1:=by rw[<-hw1,World.size_alloc]
 have hbx:w1.cell? (af w.heap.size 0)=some (ac wk):=by rw[<-hw1];exact GJ w _ _
 have hk01:A1 w w1 []:=by rw[<-hw1];exact(A1.refl w []).alloc _
 have HK01:=hid hk01;rw[hw1]at HW1 HB1 HPV ⊢;rw[show w.heap.size+1=w1.heap.size from hs1.symm];replace hs1:w.heap.size+1<=w1.heap.size:=by omega
 clear hw1 hk01 c0;obtain⟨w2,hw2⟩:=qE (w1.alloc (.cells #[.slice ad rhs.length pcap] 98));have hs2:w1.heap.size+1<=w2.heap.size:=by rw[<-hw2,World.size_alloc];omega
 have hBn:w2.cell? (af w1.heap.size 0)=some (.slice ad rhs.length pcap):=by rw[<-hw2];exact GJ w1 _ _
 have hk12:A1 w1 w2 []:=by rw[<-hw2];exact(A1.refl w1 []).alloc _
 rw[hw2]at ⊢;have HW2:Hid (WkV w2 wk T.tb B v s x):=hid (HW1.out.keeps hk12 (by simp) (by simp));have hb2:w2.cell? (af w.heap.size 0)=some (ac wk):=(hk12.cell (by show w.heap.size<w1.heap.size;omega) (by simp)).trans hbx;have HPV2:Hid (C0 w2 T.n0 (.slice ad rhs.length pcap) rhs):=hid (HPV.out.below (hk12.below (by have:=HBd.out.n0;omega) (by simp)));have HK02:Hid (A1 w w2 []):=hid (HK01.out.trans hk12);clear hw2 hk12 hbx HB1 HK01 HW1 HPV CB CR;refine wpIn_rangeFunc_ownH (F:=Fence.wide) rfl (by omega) (gf:=114) (lb:= #[ac w1.heap.size]) rfl trivial (enters_of Tryz.func114 y1Z rfl)
  (SC 3 (by omega) w1.heap.size rhs.length (by omega) (JX rhs) (FB B w1.heap.size) (fun W=>C0 W T.n0 (.slice ad rhs.length pcap) rhs/\W.cell? (af w1.heap.size 0)=some (.slice ad rhs.length pcap))
   (fun A C hQ hK=>⟨hQ.1.below (hK.1.mono HBd.out.n0),(World.cell?_of_block hK.2).trans hQ.2⟩) (fun W hQ=>UH hQ.1 hQ.2) w2
   (fun W hW=>⟨HPV2.out.below (hW.mono (by have:=HBd.out.n0;omega)),(hW.cell (by show w1.heap.size<w2.heap.size;omega)).trans hBn⟩))
  FB.trans (FB.put (by omega) (by omega)) (Below.refl _ _) (fun _=>rfl)
  (fun(pre:List (BX rhs.length (JX rhs))) W=>∃v',WkV W wk T.tb B v' (KK rhs pre++s) x/\A1 w2 W (wk::v.ownBlock.toList)/\BH w2.heap.size v v')
  (fun _ _ _=>False) ?own (fun _ _ _ _ _ hs _ _=>hs) ⟨v,HW2.out,A1.refl _ _,BH.refl _ _⟩
  (fun y a' W=>∃pb vq,(W.heap[wk]?=some (.cells #[ac T.tb,vq,ab x] 100 (0,0))/\vq.ownBlock≠some pb)/\w2.heap.size<=pb/\pb<W.heap.size/\W.heap[pb]?=some (.cells #[.bool (AQ (EV rhs y.1.1)),ab (AP (EV rhs y.1.1))] 105 (0,0))/\a'= {tmps:= #[ac wk,ab n,ab t,ac w.heap.size,undef,undef,.bool false,.slice ad rhs.length pcap,ab t,undef,ac pb,undef,ac wk,ac wk,ac wk,ac T.tb,ac T.tb,ac T.tb,ab n,ab t,.bool true,.tuple #[.slice ad rhs.length pcap,ab t],ac wk,ac wk,ac wk,ac T.tb,ab n,ab t,.tuple #[.slice ad rhs.length pcap,ab t],.slice ad rhs.length pcap,ab t,.slice ad rhs.length pcap,.func (.func 114) #[] #[ac w1.heap.size],ab (y.1.1:Int),y.1.2,undef,undef,undef,undef,undef,undef,undef,undef,undef,undef,undef,undef,undef,undef,undef,undef,undef,undef,undef,undef,undef,undef,undef],defers:=[]})
  ?ownA ?assign ?body ?done ?stop
 case own=>
  rintro pre A C row ⟨v',h1,h2,h3⟩ hg hr;exact⟨v',h1.step hg (fun r e=>(hr r e).2),h2.grown hg (fun r e=>.inr (hr r e).1),h3⟩
 case ownA=>
  rintro y a' _ A C row ⟨pb,vq,hq,h1,h2,h3,h4⟩ hg hr;exact⟨pb,vq,⟨FP hq.1 hg (fun r e=>(hr r e).2),hq.2⟩,h1,lL h2 hg.size,FP h3 hg (fun r e=>(hr r e).2),h4⟩
 case assign=>
  rintro l pre ⟨⟨i,pvl⟩,hi1,hi2⟩ W K ⟨v',h1,h2,h3⟩ hK;simp only at hi1 hi2;unfold JX at hi2;subst hi2;have hsz:=h2.size;have hkw:A1 W (W.alloc (.cells #[.bool (AQ (EV rhs i)),ab (AP (EV rhs i))] 105)) []:=(A1.refl W []).alloc _;have hwv:=h1.keeps hkw (by simp) (by simp);simp only[NX]
  gi_wp2
  exact hK _ _ ((KeepsOthers.alloc _ _).from _) (FB.keeps hkw (by omega) (by omega) (fun q h=>by cases h)) ⟨v',hwv,h2.alloc _,h3⟩ ⟨W.heap.size,v',⟨hwv.1,fun e=>by have:=CK h1.2 e;omega⟩,by omega,by rw[World.size_alloc];omega,World.alloc_heap_new W _,rfl⟩
 case body=>
  rintro l pre ⟨⟨i,pvl⟩,hi1,hi2⟩ a' W hl ⟨r,hr⟩ ⟨v',h1,h2,h3⟩ ⟨pb,vq,hq,hp1,hp2,hp3,rfl⟩ hlt;simp only at hi1 hi2 hp3 ⊢;unfold JX at hi2;subst hi2;have hsz:=h2.size;have hwne:∀g,v'.ownBlock=some g->g≠w.heap.size/\g≠w1.heap.size/\B<=g:=fun g hg=>by
   rcases h3 g hg with h4 |h4
   ·have h5:=hvl g h4;exact⟨by omega,by omega,h5.1⟩
   ·exact⟨by omega,by omega,(h1.2.lt g hg).1⟩
  have cB:W.cell? (af w.heap.size 0)=some (ac wk):=(h2.cell (by show w.heap.size<w2.heap.size;omega) (by
   show w.heap.size∉wk::v.ownBlock.toList;intro hm
   rcases List.mem_cons.1 hm with e |e
   ·omega
   ·have h5:=hvl w.heap.size y7Z;omega)).trans hb2
  have cv:W.cell? (af wk 1)=some v':=(A0 h1.1).trans rfl;have fv:W.frozen? (af wk 1)=false:=A3 h1.1;have cp0:=(A0 (j:=0) hp3).trans rfl;have cp1:=(A0 (j:=1) hp3).trans rfl;have hlen:(KK rhs pre++s).length<=100008:=by unfold KK;simp;omega
  have H1:=hid h1;have H2:=hid h2;have H3:=hid h3;have HN:=hid hwne;have hrow:W.ownsRow B 105 2 v' (KK rhs pre++s).length (BP (KK rhs pre++s).reverse):=h1.2;have hoff:∀g,g≠wk->g<w2.heap.size->v.ownBlock≠some g->some g≠v'.ownBlock:=fun g hg hlt hvn e=>by
   rcases h3 g e.symm with h4 |h4
   ·exact hvn h4
   ·omega
  have ogB:some w.heap.size≠v'.ownBlock:=fun e=>(hwne _ e.symm).1 rfl
  have ogW:some wk≠v'.ownBlock:=fun e=>h1.ne e.symm
  have ogP:some pb≠v'.ownBlock:=fun e=>by
   have h4:=hq.1;rw[h1.1]at h4;have e4:vq=v':=by
    injection h4 with h4
    injection h4 with h4
    simpa using h4.symm
   exact hq.2 (by rw[e4];exact e.symm)
  have HRow:=hid hrow;obtain⟨bp,hbp⟩:=qE (AQ (EV rhs i));obtain⟨np,hnp⟩:=qE (AP (EV rhs i));have HBP:Hid (BP [EV rhs i]=[.bool bp,ab np]):=hid (by rw[SI,hbp,hnp]);rw[hbp]at cp0;rw[hnp]at cp1;obtain⟨kk,hkk⟩:=qE ((KK rhs pre++s).length);rw[hkk]at hlen HRow;have HKK:=hid hkk;clear h1 h2 h3 hwne hrow hoff hbp hnp hkk hp3 hq
  gi_wp2
  have hlw:wk<W.heap.size:=by omega
  have hlb:w.heap.size<W.heap.size:=by omega
  refine C3 (fun w'=>w'.cell? (af w.heap.size 0)=some (ac wk)/\w'.cell? (af wk 1)=some v'/\w'.cell? (af pb 0)=some (.bool bp)/\w'.cell? (af pb 1)=some (ab np)) hmx y1Z y9Z y1Z ⟨cB,cv,cp0,cp1⟩ (fun hH=>?_);simp only[AC,BM,AO];refine tB 0 hH ?_;refine tB 1 hH ?_;refine tB 2 hH ?_;refine tB 3 hH ?_;refine tB 4 hH ?_;refine tB 5 hH ?_;refine tL ?_;refine tS 6 fun K hK=>?_
  refine tM ?_;go_simp;refine hK.out _ _ ?_ fun hH=>?_
  ·exact⟨A2 _ hH.1,A2 _ hH.2.1,A2 _ hH.2.2.1,A2 _ hH.2.2.2⟩
  clear hK K;refine tL ?_;refine tS 7 fun K hK=>?_
  refine tM ?_;rw[if_pos (by rfl)];refine wp_append_lies _ (.tmp 39) (.tmp 41) 98 rfl B 105 iP (.agg #[.bool false,ab 0]) 2 16 Tryz.underlying98 hiP hzP0 hzP1 hzP2 rfl (by decide) v' _ _ rfl (HRow.out.alloc _) (af W.heap.size 0) 1 1 [.bool bp,ab np] rfl rfl (World.news_of_block (fr:=(0,0)) (heap_alloc_new W _)) y4Z (by omega) y3Z (by omega) y2Z _ rfl ?_;intro g2 cap2 w7 hown hgrow hat hlt2;refine hK.out _ _ ?_ fun hH=>?_
  ·exact⟨(hgrow.cell_far _ y2Z (by exact ogB)).trans hH.1,(hgrow.cell_far _ y2Z y68Z).trans hH.2.1,(hgrow.cell_far _ y2Z (by exact ogP)).trans hH.2.2.1,(hgrow.cell_far _ y2Z (by exact ogP)).trans hH.2.2.2⟩
  clear hK K;refine tL ?_;refine tB 8 hH ?_;refine tB 9 hH ?_;refine tB 10 hH ?_;refine tL ?_;refine wpAnyH_done y1Z ?_ _;clear hH;obtain⟨z1,z2,z3,z4⟩:=G9 (j:=1) (W:=W) ((A1.refl W []).alloc _).drew H1.out.1 (by decide) HRow.out hown hgrow;have zc:=(A0 (j:=1) z1).trans rfl;have zf:=A3 (j:=1) z1;have HZ:=hid (And.intro z2 (And.intro z3 z4));have HAt:=hid hat;clear z1 z2 z3 z4 hown hgrow hat hlt2 cB cv fv cp0 cp1;show wpList _ _ _ _ _ _;go_wp2;have hkK:∀k∈wk::v'.ownBlock.toList,∃c e f,W.heap[k]?=some (.cells c e f):=H1.out.kinds;refine⟨G5 HZ.out.2.2 hkK,FB.keeps HZ.out.2.2 (by omega) (by omega) (fun q hq=>?_),_,⟨HZ.out.1,?_⟩,?_,?_⟩
  ·rcases List.mem_cons.1 hq with e |e
   ·subst e;exact⟨hwk,by omega⟩
   ·have h5:=HN.out q y7Z;exact⟨h5.2.2,h5.2.1⟩
  ·rw[jI]
   unfold SkV;rw[List.cons_append,List.reverse_cons,O9,HBP.out,lC,HKK.out];exact HZ.out.2.1
  ·exact H2.out.fresh HZ.out.2.2 H3.out (lR_ _)
  ·refine H3.out.trans (m:=W.heap.size) (fun g hg=>?_) hsz
   obtain rfl:g2=g:=by simpa[Value.ownBlock] using hg
   rcases HAt.out with h4 |h4
   ·exact .inl h4
   ·exact .inr y70Z
 case done=>
  rintro D ys W hD hys ⟨v',h1,h2,h3⟩ hK;rw[nG rhs ys hys]at h1;have hsz:=h2.size;have cB:W.cell? (af w.heap.size 0)=some (ac wk):=(h2.cell (by show w.heap.size<w2.heap.size;omega) (by
   show w.heap.size∉wk::v.ownBlock.toList;intro hm
   rcases List.mem_cons.1 hm with e |e
   ·omega
   ·have h5:=hvl w.heap.size y7Z;omega)).trans hb2
  have cx:W.cell? (af wk 2)=some (ab x):=(A0 h1.1).trans rfl;have fx:W.frozen? (af wk 2)=false:=A3 h1.1;have CC:=(callsIn_wide (n:=3)).2 (QG wk x 1 hx (by omega) W cx fx);have hDw:D≠wk:=by omega
  have hks:A1 W (W.setCell (af wk 2) (ab (DJ x 1))) [wk]:=(A1.refl W [wk]).setCell (by simp) _;have hD2:(W.setCell (af wk 2) (ab (DJ x 1))).heap[D]?=some (.deferred (some [])):=(hks.block D (Array.getElem?_eq_some_iff.1 hK).1 (by simpa using hDw)).trans hK;have hw3:WkV (W.setCell (af wk 2) (ab (DJ x 1))) wk T.tb B v' (rhs++s) (DJ x 1):=⟨A5 h1.1 _,A8 h1.2 hks (fun g hg hm=>by
   have hm:=mS.1 hm;subst hm;exact h1.ne hg)⟩
  have hw4:=hw3.step (grownBy_putObj' _ D (.deferred none)) (fun r e=>by cases e;exact⟨_,hD2,rfl⟩);have hk4:A1 w ((W.setCell (af wk 2) (ab (DJ x 1))).putObj D (.deferred none)) (wk::v.ownBlock.toList):=by
   refine((((HK02.out.mono (fun q h=>by cases h)).trans h2).trans (hks.mono (fun q hq=>by simp[mS.1 hq])))).grown (grownBy_putObj' _ D (.deferred none)) (fun k e=>.inr ?_);cases e;omega
  have hf4:BH w.heap.size v v':=fun g hg=>by
   rcases h3 g hg with h5 |h5
   ·exact .inl h5
   ·exact .inr (by omega)
  have HE:=hid (And.intro hw4 (And.intro hk4 hf4));have HD2:=hid hD2;clear h1 h2 h3 hks hw3 hw4 hk4 hf4 hD2 cx fx hys
  gi_wp2_with (refine⟨trivial,?_⟩;gi_at_call 55;refine CC.mono ?_;rintro e w5 ⟨rfl,rfl⟩)
  refine⟨by simp,.inl ⟨_,_,rfl,run_takeDeferred HD2.out,?_⟩⟩;exact⟨_,results_tmp rfl _ _ _,v',rfl,HE.out⟩
 case stop=>
  rintro D c pre W _ _ h _;exact h.elim
end
theorem kQ  (h:x<=939524097):DJ x 0=x:=by unfold DJ;omega
theorem tO (x y:Nat):DJ x y<=939524097:=by unfold DJ;omega
theorem tR {T:Tab} (hT:T.Ok)  (hI:T.In w) (hB:T.Bd B) (hwk:B<=wk) (hW:WkV w wk T.tb B v s x) (hx:x<=939524097)  (hn:n<T.N.nN) (ht:t<=T.N.nT) (hr:T.rul n t=none):
  Calls Tryz.prog 56 #[ac wk,ab n,ab t] w fun e w'=>e=.returned (.bool false)/\WkV w' wk T.tb B v s x/\A1 w w' [wk]:=by
 have hbit:(AL T.k n).testBit t=false:=by rw[hT.beg n t hn y41Z,hr];rfl
 have hwl:wk<w.heap.size:=lt_of_block hW.1;have HI:Hid (T.In w):=hid hI;have CB:Hid (∀W,Below B w W->Calls Tryz.prog 90 #[ac T.tb,ab n,ab t] W fun e w'=>e=.returned (.bool false)/\W=w'):=hid fun W hb=>by
  have:=ST (hI.below hB hb).fc hT.fh n t hn y41Z;rw[hbit]at this;exact this
 have CE:Hid (∀W,Below B w W->Calls Tryz.prog 91 #[ac T.tb,ab n] W fun e w'=>e=.returned (ab (0:Nat))/\W=w'):=hid fun W hb=>by
  have:=YV (hI.below hB hb).tv n (by have:=hI.fc.gr.leN;omega);rw[hT.ez n]at this;exact this
 have hBw:B<=w.heap.size:=by omega
 have hb1:Below B w (w.alloc (.cells #[ac wk] 85)):=(Below.refl B w).alloc hBw _;have hw1:WkV (w.alloc (.cells #[ac wk] 85)) wk T.tb B v s x:=hW.keeps ((A1.refl w []).alloc _) (by simp) (by simp);have c0:(w.alloc (.cells #[ac wk] 85)).cell? (af wk 0)=some (ac T.tb):=(A0 hw1.1).trans rfl;have cx:(w.alloc (.cells #[ac wk] 85)).cell? (af wk 2)=some (ab x):=(A0 hw1.1).trans rfl;have HC:Hid (Calls Tryz.prog 55 #[ac wk,ab (0:Nat)] (w.alloc (.cells #[ac wk] 85)) fun e w'=>e=.returned (.tuple #[])/\w'=(w.alloc (.cells #[ac wk] 85)).setCell (af wk 2) (ab (DJ x 0))):=hid (QG wk x 0 hx (by omega) _ cx (A3 hw1.1));have HB1:=hid hb1;have hks:A1 w (w.setCell (af wk 2) (ab (DJ x 0))) [wk]:=(A1.refl _ [wk]).setCell (by simp) _;have HE:Hid (WkV ((w.setCell (af wk 2) (ab (DJ x 0))).alloc (.cells #[ac wk] 85)) wk T.tb B v s x/\A1 w ((w.setCell (af wk 2) (ab (DJ x 0))).alloc (.cells #[ac wk] 85)) [wk]):=by
  have h2:WkV (w.setCell (af wk 2) (ab (DJ x 0))) wk T.tb B v s x:=⟨by
   have h1:=A5 (j:=2) hW.1 (ab (DJ x 0));rw[kQ hx]at h1 ⊢;exact h1,A8 hW.2 hks (fun g hg hm=>by
   have hm:=mS.1 hm;subst hm;exact hW.ne hg)⟩
  exact hid ⟨h2.keeps ((A1.refl _ []).alloc _) (by simp) (by simp),hks.alloc _⟩
 clear hI hB hbit hr hb1 hw1 hW cx hks
 go_enter Tryz.func56,Tryz.ntmps56
 go_wp2_with (first
  | (go_at_call 90;refine(CB.out _ HB1.out).mono ?_;rintro e w1 ⟨rfl,rfl⟩)
  | (go_at_call 91;refine(CE.out _ HB1.out).mono ?_;rintro e w1 ⟨rfl,rfl⟩)
  | (go_at_call 55;refine HC.out.mono ?_;rintro e w1 ⟨rfl,rfl⟩))
 go_ret;exact⟨rfl,HE.out⟩
theorem WkV.count  (h:WkV w wk tb B v L x) (y:Nat):WkV (w.setCell (af wk 2) (ab y)) wk tb B v L y/\A1 w (w.setCell (af wk 2) (ab y)) [wk]:=by
 have hks:A1 w (w.setCell (af wk 2) (ab y)) [wk]:=(A1.refl _ [wk]).setCell (by simp) _;exact⟨⟨A5 (j:=2) h.1 _,A8 h.2 hks (fun g hg hm=>by
  have hm:=mS.1 hm;subst hm;exact h.ne hg)⟩,hks⟩
def CJ (rul:Nat->Nat->Option (List Pt)) (nT t:Nat):List Pt->Nat->Bool × List Pt × Nat
 | [],x=>(t==nT,[],x)
 | .tok u::s,x=>(u==t,s,DJ x 1)
 | .nam n::s,x=>match rul n t with
  |some rhs=>(true,rhs.tail++s,DJ (DJ x 1) 1)
  |none=>(false,s,x)
theorem AY.append {N:NG}{a b:List Pt} (h:AY N a) (k:AY N b):AY N (a++b):=
 ⟨fun n hn=>(List.mem_append.1 hn).elim (h.1 n) (k.1 n),fun t ht=>(List.mem_append.1 ht).elim (h.2 t) (k.2 t)⟩
def P7:List Pt->Nat
 | .nam _::_=>1
 |_=>0
theorem tY (L:List Pt):P7 L<=1:=by unfold P7;split <;> omega
theorem aF {T:Tab} (hT:T.Ok)  (hI:T.In w) (hB:T.Bd B) (hwk:B<=wk) (hW:WkV w wk T.tb B v L x) (hx:x<=939524097) (hL:L.length<=90000) (hpt:AY T.N L)  (ht:t<=T.N.nT):
  Calls Tryz.prog 32 #[ac wk,ab t] w fun e w'=>∃v',e=.returned (.bool (CJ T.rul T.N.nT t L x).1)/\WkV w' wk T.tb B v' (CJ T.rul T.N.nT t L x).2.1 (CJ T.rul T.N.nT t L x).2.2/\A1 w w' (wk::v.ownBlock.toList)/\BH w.heap.size v v':=by
 have hwl:wk<w.heap.size:=lt_of_block hW.1;have hvl:∀g,v.ownBlock=some g->B<=g/\g<w.heap.size/\g≠wk:=fun g hg=>⟨(hW.2.lt g hg).1,(hW.2.lt g hg).2,fun e=>hW.ne (by rw[hg,e])⟩
 have HI:Hid (T.In w):=hid hI;have HB:Hid (T.Bd B):=hid hB;have HW:Hid (WkV w wk T.tb B v L x):=hid hW;have HP:Hid (x<=939524097/\L.length+10*P7 L<=90010/\AY T.N L):=hid ⟨hx,by have:=tY L;omega,hpt⟩;obtain⟨res,hres⟩:=qE (CJ T.rul T.N.nT t L x);rw[hres];have HRes:=hid hres;have hT20:T.N.nT<=20:=hI.fc.gr.leT;have hTS:∀n,T.rul n t=none\/∃rhs,T.rul n t=some rhs/\∃rest,rhs=.tok t::rest:=fun n=>by
  cases h:T.rul n t with
  |none=>exact .inl rfl
  |some rhs=>exact .inr ⟨rhs,rfl,hT.led n t rhs h⟩
 have HTS:=hid hTS;clear hI hB hW hx hpt hres hL hTS
 go_enter Tryz.func32,Tryz.ntmps32
 go_wp2
 go_loopg [5] (P7 L) (fun g p wr=>∃v1 L1 x1,g=P7 L1/\Hid (CJ T.rul T.N.nT t L1 x1=res)/\Hid (WkV wr wk T.tb B v1 L1 x1)/\Hid (A1 w wr (wk::v.ownBlock.toList))/\Hid (BH w.heap.size v v1)/\Hid (x1<=939524097/\L1.length+10*P7 L1<=90010/\AY T.N L1))
 case atStart=>exact⟨v,L,x,rfl,HRes,HW,hid (A1.refl _ _),hid (BH.refl _ _),HP⟩
 case round=>
  clear HRes HW HP;obtain⟨v1,L1,x1,rfl,hr1,hw1,hk1,hf1,hp1⟩:=hrel;have c0:wr.cell? (af wk 0)=some (ac T.tb):=(A0 hw1.out.1).trans rfl;have c1:wr.cell? (af wk 1)=some v1:=(A0 hw1.out.1).trans rfl;have f1:wr.frozen? (af wk 1)=false:=A3 hw1.out.1;have hwr:wk<wr.heap.size:=lt_of_block hw1.out.1;cases L1 with
  |nil=>
   obtain⟨ad,cap,rfl⟩:=hw1.out.2.nil;have hI1:T.In wr:=HI.out.below HB.out (hk1.out.below (by omega) (fun q hq=>by
    rcases List.mem_cons.1 hq with e |e
    ·omega
    ·exact(hvl q y7Z).1))
   obtain⟨d0,d1,d2⟩:=hI1.tv.heads;have HR1:Hid (res=(t==T.N.nT,[],x1)):=hid (by rw[<-hr1.out];rfl);obtain⟨nT,hnT⟩:=qF (T.N.nT);obtain⟨nN,hnN⟩:=qF (T.N.nN);rw[<-hnT]at d0 HR1;rw[<-hnN]at d1;clear hI1 hnT hnN hr1 d2
   go_wp2_with (go_at_call 31;refine(MO _ _ _ _ _ _ _).mono ?_;rintro e w2 ⟨rfl,hb2⟩;have HB2:=hid hb2;clear hb2)
   go_ret;have hb2:=HB2.out;refine⟨.slice ad 0 cap,?_,?_⟩
   ·rw[HR1.out]
    exact congrArg (fun b=>Ending.returned (.bool b)) (by rw[Bool.eq_iff_iff];simp;omega)
   ·rw[HR1.out]
    exact⟨hw1.out.keeps (A1.of_below hb2 []) (by simp) (by simp),hk1.out.trans (A1.of_below hb2 _),hf1.out⟩
  |cons p s=>
   obtain⟨g,cap,rfl,hgl,hgB,hgc,cb,cm,hsk⟩:=hw1.out.2.top;have hgw:g≠wk:=fun e=>hw1.out.ne y79Z
   have HSK:=hid hsk;have hsl:s.length+1<=90010:=by have:=hp1.out.2.1;simp only[lC]at this;omega
   obtain⟨n1,hn1⟩:=qF (s.length);rw[<-hn1]at cb cm c1 hsl hgc;have HN1:=hid hn1;clear hsk hn1;obtain⟨bn,hbn⟩:=qF (AQ p);obtain⟨np,hnp⟩:=qF (AP p);rw[<-hbn]at cb;rw[<-hnp]at cm;have hks:A1 wr ((wr.setCell (af wk 1) (ae g n1 cap)).alloc (.cells #[.bool bn,ab np] 105)) [wk]:=((A1.refl wr [wk]).setCell (by simp) _).alloc _;have hw2:WkV ((wr.setCell (af wk 1) (ae g n1 cap)).alloc (.cells #[.bool bn,ab np] 105)) wk T.tb B (ae g n1 cap) s x1:=
    ⟨(Below.heap_alloc _ _ _ (by rw[World.size_setCell];exact hwr)).trans (A5 (j:=1) hw1.out.1 _),by
     rw[HN1.out];exact A8 HSK.out (by rw[<-HN1.out];exact hks) (fun q hq hm=>by
      have hm:=mS.1 hm;have hq:g=q:=by simpa[Value.ownBlock] using hq
      omega)⟩
   obtain⟨W2,hW2⟩:=qE ((wr.setCell (af wk 1) (ae g n1 cap)).alloc (.cells #[.bool bn,ab np] 105));have hnb:W2.cell? (af wr.heap.size 0)=some (.bool bn)/\W2.cell? (af wr.heap.size 1)=some (ab np):=by
    rw[<-hW2];have h1:=BG (wr.setCell (af wk 1) (ae g n1 cap)) #[.bool bn,ab np] 105;simp only[World.size_setCell]at h1;exact⟨h1 0,h1 1⟩
   rw[hW2]at hks hw2;have HBN:Hid (bn=AQ p/\np=AP p):=hid ⟨hbn,hnp⟩;have hk2:A1 w W2 (wk::v.ownBlock.toList):=hk1.out.trans (hks.mono (fun q hq=>by simp[mS.1 hq]));have hf2:BH w.heap.size v (ae g n1 cap):=fun q hq=>hf1.out q hq
   have H2:=hid (And.intro hw2 (And.intro hk2 hf2));have m1:W2.cell? (af wk 2)=some (ab x1):=(A0 hw2.1).trans rfl;have HC:Hid (Calls Tryz.prog 55 #[ac wk,ab (1:Nat)] W2 fun e w'=>e=.returned (.tuple #[])/\w'=W2.setCell (af wk 2) (ab (DJ x1 1))):=hid (QG wk x1 1 hp1.out.1 (by omega) W2 m1 (A3 hw2.1));have HW2:=hid hW2;have HNB:=hid hnb;clear hbn hnp hw2 hk2 hf2 hks m1 hW2 hnb hk1 hf1;cases p with
   |tok u=>
    obtain⟨rfl,rfl⟩:bn=false/\np=u:=HBN.out
    go_upto_region 6 with fail
    rw[HW2.out];have hnb0:=HNB.out.1;have hnb1:=HNB.out.2
    go_wp2_with (go_at_call 55;refine HC.out.mono ?_;rintro e w5 ⟨rfl,rfl⟩)
    have HR1:Hid (res=(np==t,s,DJ x1 1)):=hid (by rw[<-hr1.out];rfl);go_ret;refine⟨ae g n1 cap,?_,?_⟩
    ·rw[HR1.out]
     exact congrArg (fun b=>Ending.returned (.bool b)) (by rw[Bool.eq_iff_iff];simp;omega)
    ·rw[HR1.out]
     obtain⟨z1,z2⟩:=H2.out.1.count (DJ x1 1);exact⟨z1,H2.out.2.1.trans (z2.mono (fun q hq=>by simp[mS.1 hq])),H2.out.2.2⟩
   |nam n=>
    obtain⟨rfl,rfl⟩:bn=true/\np=n:=HBN.out;have hnN:np<T.N.nN:=hp1.out.2.2.1 np (List.mem_cons_self ..);have hI2:T.In W2:=HI.out.below HB.out (H2.out.2.1.below (by omega) (fun q hq=>by
     rcases List.mem_cons.1 hq with e |e
     ·omega
     ·exact(hvl q y7Z).1))
    have hps:AY T.N s:=hp1.out.2.2.tail;have hw2l:w.heap.size<=W2.heap.size:=H2.out.2.1.size
    rcases HTS.out np with hrl | ⟨rhs,hrl,rest,hrest⟩
    ·have HO:=hid (tR hT hI2 HB.out hwk H2.out.1 hp1.out.1 hnN ht hrl)
     have HR1:Hid (res=(false,s,x1)):=hid (by rw[<-hr1.out];simp only[CJ,hrl]);clear hrl hI2 hps HC
     go_upto_region 8 with fail
     rw[HW2.out];have hnb0:=HNB.out.1;have hnb1:=HNB.out.2
     go_wp2_with (go_at_call 56;refine HO.out.mono ?_;rintro e w5 ⟨rfl,hw5,hk5⟩;have H5:=hid (And.intro hw5 hk5);clear hw5 hk5)
     go_ret;refine⟨ae g n1 cap,?_,?_⟩
     ·rw[HR1.out];rfl
     ·rw[HR1.out]
      exact⟨H5.out.1,H2.out.2.1.trans (H5.out.2.mono (fun q hq=>by simp[mS.1 hq])),H2.out.2.2⟩
    ·have hsl2:s.length<=100000:=by have:=HN1.out;omega
     have HO:=hid (rB hT hI2 HB.out hwk H2.out.1 hp1.out.1 hsl2 hrl);have hlen:=hT.len np t rhs hrl;subst hrest;have HR1:Hid (CJ T.rul T.N.nT t (Pt.tok t::rest++s) (DJ x1 1)=res):=hid (by rw[<-hr1.out];simp[CJ,hrl]);have HP5:Hid (DJ x1 1<=939524097/\(Pt.tok t::rest++s).length+10*P7 (Pt.tok t::rest++s)<=90010/\AY T.N (Pt.tok t::rest++s)):=hid ⟨tO _ _,by
      have h1:=hp1.out.2.1;have h2:=hlen.1;simp only[lC,lA,P7,List.cons_append]at h1 h2 ⊢;omega,hlen.2.append hps⟩
     clear hrl hI2 hps HC hlen
     go_upto_region 8 with fail
     rw[HW2.out];have hnb0:=HNB.out.1;have hnb1:=HNB.out.2
     go_wp2_with (go_at_call 56;refine HO.out.mono ?_;rintro e w5 ⟨v5,rfl,hw5,hk5,hf5⟩;have H5:=hid (And.intro hw5 (And.intro hk5 hf5));clear hw5 hk5 hf5)
     go_roundg 0
     case measure=>simp[P7]
     case rel=>exact⟨v5,_,_,rfl,HR1,hid H5.out.1,hid (H2.out.2.1.fresh H5.out.2.1 H2.out.2.2 (lR_ _)),hid (H2.out.2.2.trans H5.out.2.2 hw2l),HP5⟩
theorem XO {T:Tab} (hI:T.In w):
  Calls Tryz.prog 26 #[ac T.tb] w fun e w'=>∃wk v,e=.returned (ac wk)/\w.heap.size<=wk/\WkV w' wk T.tb w.heap.size v [.nam 0] 0/\Below w.heap.size w w':=by
 obtain⟨d0,d1,_⟩:=hI.tv.heads;obtain⟨nT,hnT⟩:=qF (T.N.nT);obtain⟨nN,hnN⟩:=qF (T.N.nN);rw[<-hnT]at d0;rw[<-hnN]at d1;clear hI hnT hnN
 go_enter Tryz.func26,Tryz.ntmps26
 go_wp2_with (go_at_call 34;refine(NJ _ _ _).mono ?_;rintro e w2 ⟨rfl,hb2⟩;have HB2:=hid hb2;clear hb2)
 go_ret;have hs:=HB2.out.size;refine⟨w2.heap.size+1,ae w2.heap.size 1 1,rfl,by omega,⟨?_,rfl,.inr ⟨w2.heap.size,1,#[.bool true,ab 0],rfl,hs,?_,by decide,by decide,rfl,rfl⟩⟩,?_⟩
 ·exact P2 w2 _ _ _ _
 ·exact(Below.heap_alloc _ _ _ y5Z).trans (World.alloc_heap_new w2 _)
 ·exact(HB2.out.alloc hs _).alloc y5Z _
end Go.Proofs.YtjjggdcnpndgjabGreatDoor
