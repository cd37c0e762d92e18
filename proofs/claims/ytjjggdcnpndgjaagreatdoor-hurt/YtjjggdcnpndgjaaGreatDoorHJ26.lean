import Derived.Test.YtjjggdcnpndgjaaGreatDoorHJ24
import Derived.Test.YtjjggdcnpndgjaaGreatDoorHJ25
set_option linter.unusedSimpArgs false
set_option maxHeartbeats 8000000
set_option maxRecDepth 100000
namespace Go.Proofs.YtjjggdcnpndgjaaGreatDoor
abbrev tj:=@List.length_reverse
abbrev xh:=@List.take_append_of_le_length
abbrev yE:=@Go.results_tmp
open Go.RowKit Go.Shelf
variable {B Bn e m n t tb wk x:Nat}{L s:List Pt}{S:List Nat}{W W' w w':World}{v:Value}
theorem dP (L:List Pt):(BO L).length=L.length*2:=by
 unfold BO
 induction L with
 |nil=>rfl
 |cons a r ih=>rw[gy,lA,ih];simp;omega
theorem OP (a b:List Pt):BO (a++b)=BO a++BO b:=by unfold BO;rw[mg]
theorem SM (p:Pt):BO [p]=[.bool (AQ p),ab (AP p)]:=rfl
def Oa (w:World) (B:Nat) (v:Value) (L:List Pt):Prop:=w.ownsRow B 235 2 v L.length (BO L.reverse)
theorem Oa.top {p:Pt} (h:Oa w B v (p::s)):
  ∃g cap,v=ae g (s.length+1) cap/\g<w.heap.size/\B<=g/\s.length+1<=cap/\w.cell? (af g (s.length*2))=some (.bool (AQ p))/\w.cell? (af g (s.length*2+1))=some (ab (AP p))/\Oa w B (ae g s.length cap) s:=by
 obtain⟨h1,h2⟩:=h
 rcases h2 with⟨_,h2⟩ | ⟨g,cap,cur,rfl,hg,hh,hnc,hm,hs,ht⟩
 ·simp at h2
 ·have e:BO (p::s).reverse=BO s.reverse++ [.bool (AQ p),ab (AP p)]:=by rw[List.reverse_cons,OP,SM]
  have hl:(BO s.reverse).length=s.length*2:=by rw[dP,tj]
  have hrow:w.ownsRow B 235 2 (ae g (p::s).length cap) (p::s).length (BO (p::s).reverse):=⟨h1,.inr ⟨g,cap,cur,rfl,hg,hh,hnc,hm,hs,ht⟩⟩;refine⟨g,cap,rfl,ak hh,hg,hnc,?_,?_,⟨hl,.inr ⟨g,cap,cur,rfl,hg,hh,by simp only[lC]at hnc;omega,hm,hs,?_⟩⟩⟩
  ·rw[hrow.cellAt _ (by simp only[lC];omega),e,zQ (by omega),hl,kq];rfl
  ·rw[hrow.cellAt _ (by simp only[lC];omega),e,zQ (by omega),hl,show s.length*2+1 - s.length*2=1 by omega];rfl
  ·have h3:(cur.toList.take ((p::s).length*2)).take (s.length*2)=cur.toList.take (s.length*2):=by
    rw[List.take_take,xI (by simp only[lC];omega)]
   rw[<-h3,ht,e,xh (by omega),jk (by omega)]
theorem Oa.nil  (h:Oa w B v []):∃ad cap,v=.slice ad 0 cap:=by
 rcases h.2 with⟨rfl,_⟩ | ⟨g,cap,cur,rfl,_⟩
 ·exact⟨_,_,rfl⟩
 ·exact⟨_,_,rfl⟩
theorem Oa.form  (h:Oa w B v L):∃ad cap,v=.slice ad L.length cap/\L.length<=cap:=by
 rcases h.2 with⟨rfl,h0⟩ | ⟨g,cap,cur,rfl,_,_,h1,_⟩
 ·exact⟨none,0,by rw[h0],by omega⟩
 ·exact⟨_,_,rfl,h1⟩
def Ah (w:World) (wk tb B:Nat) (v:Value) (L:List Pt) (x:Nat):Prop:=w.heap[wk]?=some (.cells #[ac tb,v,ab x] 230 (0,0))/\Oa w B v L
def BH (n:Nat) (v v':Value):Prop:=∀g,v'.ownBlock=some g->v.ownBlock=some g\/n<=g
theorem BH.refl (n:Nat) (v:Value):BH n v v:=λ_ h=>.inl h
theorem BH.trans {a b c:Value} (h:BH n a b) (k:BH m b c) (hn:n<=m):BH n a c:=λg e=>by
 rcases k g e with h1 |h1
 ·exact h g h1
 ·exact .inr (by omega)
theorem A1.fresh {a b c:World}{v':Value} (h:A1 a b (wk::v.ownBlock.toList)) (k:A1 b c (wk::v'.ownBlock.toList)) (hf:BH n v v') (hn:a.heap.size<=n):A1 a c (wk::v.ownBlock.toList):=
 ⟨k.os.trans h.os,k.tape.trans h.tape,k.output.trans h.output,y5 h.size k.size,λq hq hm=>(k.block q (lL hq h.size) (λh1=>by
  rcases bh.1 h1 with e |e
  ·exact hm Ld
  ·rcases hf q Cp with h2 |h2
   ·exact hm (by simp[h2])
   ·omega)).trans (h.block q hq hm)⟩
theorem Ah.keeps  (h:Ah w wk tb B v L x) (hk:A1 w w' S) (hw:wk∉S) (hv:∀g,v.ownBlock=some g->g∉S):Ah w' wk tb B v L x:=
 ⟨(hk.block wk (ak h.1) hw).trans h.1,A7 h.2 hk hv⟩
theorem Ah.ne  (h:Ah w wk tb B v L x):v.ownBlock≠some wk:=A5 h.2 h.1 (by decide)
theorem EN {w1 Wa:World}{n₀ j tW size k:Nat}{cs:Array Value}{v':Value}{xs ys:List Value} (hka:A1 W Wa [])
  (hb:W.heap[wk]?=some (.cells cs tW (0,0))) (hte:e≠tW) (hrow:W.ownsRow n₀ e size v k xs) (hown':w1.ownsRow n₀ e size v' m ys) (hgrow:Wa.grownBy w1 v.ownBlock):
  w1.heap[wk]?=some (.cells cs tW (0,0))/\(w1.setCell (af wk j) v').heap[wk]?=some (.cells (cs.setIfInBounds j v') tW (0,0))/\(w1.setCell (af wk j) v').ownsRow n₀ e size v' m ys/\A1 W (w1.setCell (af wk j) v') (wk::v.ownBlock.toList):=by
 have hne:=A5 hrow hb hte;have hk1:A1 W w1 v.ownBlock.toList:=(hka.mono (λq h=>by cases h)).grown hgrow (λq hq=>.inl Fp);have hb1:w1.heap[wk]?=some (.cells cs tW (0,0)):=(hk1.block wk (ak hb) (λhm=>hne aaD)).trans hb;refine⟨hb1,A6 hb1 v',?_,?_⟩
 ·refine A7 hown' ((A1.refl w1 [wk]).setCell (by simp) _) (λg hg hm=>?_)
  have hm:=mS.1 hm;subst hm;exact A5 hown' hb1 hte hg
 ·exact(hk1.mono (λq hq=>by simp at hq ⊢;exact .inr hq)).setCell (by simp) _
theorem G6 {V V1:World} (h:A1 V V1 S) (hS:∀k∈S,∃c e f,V.heap[k]?=some (.cells c e f)):KeepsFrom B V V1:=
 ⟨h.size,λk o _ hk ho=>(h.block k (mh.1 hk).1 (λhm=>by
  obtain⟨c,e,f,h1⟩:=hS k hm;rw[hk]at h1;injection h1 with h1
  subst h1;cases ho)).trans hk⟩
theorem Ah.kinds  (h:Ah w wk tb B v L x):∀k∈wk::v.ownBlock.toList,∃c e f,w.heap[k]?=some (.cells c e f):=by
 intro k hk;simp at hk
 rcases hk with rfl |hk
 ·exact⟨_,_,_,h.1⟩
 ·obtain⟨c,hc⟩:=BI h.2 hk
  exact⟨_,_,_,hc⟩
theorem Ah.step {row:Option Nat} (h:Ah W wk tb B v L x) (hg:W.grownBy W' row) (hr:∀r,row=some r->∃o:Obj,W.heap[r]?=some o/\o.isCells=false):Ah W' wk tb B v L x:=by
 have hn:∀k∈wk::v.ownBlock.toList,k∉row.toList:=λk hk hm=>by
  obtain⟨c,e,f,h1⟩:=h.kinds k hk;have hm:row=some k:=by simpa using hm
  obtain⟨o,h2,h3⟩:=hr k hm;rw[h1]at h2;injection h2 with h2
  subst h2;cases h3
 exact h.keeps ((A1.refl W row.toList).grown hg (λk e=>.inl Ld)) (hn wk (by simp)) (λg hg=>hn g (by simp[hg]))
theorem YJ {sz c g:Nat}{xs:List Value} (h:w.ownsRow B e sz (ae g m c) n xs) (hb:w'.heap[g]?=w.heap[g]?):w'.ownsRow B e sz (ae g m c) n xs:=by
 obtain⟨h1,h2⟩:=h;refine⟨h1,?_⟩
 rcases h2 with⟨h2,_⟩ | ⟨g',cap,cur,hv,hg,hh,r⟩
 ·cases h2
 ·have e:g=g':=by
   injection hv with h3
   injection h3 with h3
   injection h3
  subst e;exact .inr ⟨g,cap,cur,hv,hg,hb.trans hh,r⟩
structure zn where
 n0:Nat
 tb:Nat
 kb:Nat
 N:NG
 yL:List ByteArray
 pg:List Nm
 yu:Option Addr
 yl:Nat
 gN:Nat
 xY:Nat
 k:List Fa
 R:Nat->Nat->Int
 E:Nat->Nat
 yN:Nat->Nat->Option (List Pt)
structure zn.Ok (T:zn):Prop where
 fh:∀n,AL T.k n<2 ^21
 Tn:∀n t,n<T.N.nN->t<=20->(AL T.k n).testBit t=(T.yN n t).isSome
 rl:∀n t rhs,T.yN n t=some rhs->n<T.N.nN/\t<T.N.nT/\∃nm,T.pg[n]?=some nm/\T.R n t=(t:Int)/\nm.2[t]?=some rhs
 len:∀n t rhs,T.yN n t=some rhs->rhs.length<=8/\B3 T.N rhs
 ez:∀n,T.E n=0
 Xr:Tx T.yN
 of:Q2 T.N T.yN
 nN:0<T.N.nN
 nn:∀n,n<T.N.nN->zT T.k n=false
structure zn.In (T:zn) (w:World):Prop where
 fc:zK w T.n0 T.tb T.kb T.N T.yL T.pg T.yu T.yl T.gN T.xY T.k
 tv:zH w T.tb T.yu T.N.nT T.yl T.gN T.N.nN T.xY T.kb T.R T.E
structure zn.Bd (T:zn) (B:Nat):Prop where
 n0:T.n0<=B
 tb:T.tb<B
 kb:T.kb<B
theorem zn.In.bd {T:zn} (h:T.In w):T.Bd w.heap.size:=⟨h.fc.ln,h.fc.lf,h.fc.kn.lt⟩
theorem zn.In.below {T:zn} (h:T.In w) (hB:T.Bd B) (hb:Below B w w'):T.In w':=by
 have hV:zH w' T.tb T.yu T.N.nT T.yl T.gN T.N.nN T.xY T.kb T.R T.E:=h.tv.block (hb.block T.tb hB.tb);exact⟨{gr:=h.fc.gr.below (hb.mono hB.n0),n0:=h.fc.n0,ne:=h.fc.ne,lf:=hV.lt,f0:=hV.Ar.1,f1:=hV.Ar.2.1,f2:=hV.Ar.2.2,kn:=(⟨h.fc.kn.1,YJ h.fc.kn.2 (hb.block T.kb hB.kb)⟩:y8 _ _ _ _)},hV⟩
section
attribute [local go_sem] Oper.semAt_some
def FG (B Bn:Nat) (A C:World):Prop:=Below B A C/\C.heap[Bn]?=A.heap[Bn]?
theorem FG.trans {X Y Z:World} (h:FG B Bn X Y) (k:FG B Bn Y Z):FG B Bn X Z:=⟨h.1.trans k.1,k.2.trans h.2⟩
theorem FG.put  (hB:B<=w.heap.size) (Lu:Bn<w.heap.size) (W:World) (l:Nat) (o o':Obj) (hl:w.heap.size<=l) (h:W.heap[l]?=some o) (h1:o.isCells=false) (h2:o.isWalk=false):FG B Bn W (W.putObj l o'):=
 ⟨xX hB W l o o' hl h h1 h2,rz (by omega)⟩
theorem FG.keeps  (h:A1 W W' S) (hB:B<=W.heap.size) (Lu:Bn<W.heap.size) (hS:∀q∈S,B<=q/\q≠Bn):FG B Bn W W':=
 ⟨h.below hB (λq hq=>(hS q hq).1),h.block Bn Lu (λhm=>(hS Bn hm).2 rfl)⟩
theorem FT {b:Nat}{c:Array Value}{f:Nat × Nat}{row:Option Nat} (h:W.heap[b]?=some (.cells c e f)) (hg:W.grownBy W' row) (hr:∀r,row=some r->∃o:Obj,W.heap[r]?=some o/\o.isCells=false):W'.heap[b]?=some (.cells c e f):=by
 refine(((A1.refl W row.toList).grown hg (λk e=>.inl Ld)).block b (ak h) (λhm=>?_)).trans h;have hm:row=some b:=by simpa using hm
 obtain⟨o,h2,h3⟩:=hr b hm;rw[h]at h2;injection h2 with h2
 subst h2;cases h3
def F4 (ps:List Pt) (i:Nat):Pt:=ps.getD i (.tok 0)
def JU (ps:List Pt) (i:Nat) (v:Value):Prop:=v=.agg #[.bool (AQ (F4 ps i)),ab (AP (F4 ps i))]
theorem NE {ps:List Pt}{i:Nat}{p:Pt} (h:ps[i]?=some p):F4 ps i=p:=by unfold F4;rw[zh,h];rfl
theorem r9 (ps:List Pt):(List.range ps.length).map (F4 ps)=ps:=by
 apply nu;intro i;rw[gM]
 by_cases h:i<ps.length
 ·rw[ng h,ko,gE h]
  exact congrArg some (NE (gE h))
 ·rw[dy yM,dy (by omega)];rfl
def KM {L:Nat}{P:Nat->Value->Prop} (ps:List Pt) (pre:List (BX L P)):List Pt:=((pre.map (·.1.1)).map (F4 ps)).reverse
theorem jJ {L:Nat}{P:Nat->Value->Prop} (ps:List Pt) (pre:List (BX L P)) (x:BX L P):KM ps (pre++ [x])=F4 ps x.1.1::KM ps pre:=by unfold KM;simp
theorem lI {P:Nat->Value->Prop} (ps:List Pt) (ys:List (BX ps.length P)) (h:ys.map (·.1.1)=(List.range ps.length).reverse):KM ps ys=ps:=by
 unfold KM;rw[h,List.map_reverse,List.reverse_reverse,r9]
theorem UA {n₀:Nat}{pv:Value}{ps:List Pt} (hv:C0 W n₀ pv ps) (hb:W.cell? (af Bn 0)=some pv):
  ∃ad cap,W.cell? (af Bn 0)=some (.slice ad ps.length cap)/\ps.length<=cap/\∀i,i<ps.length->∃g off b m,ad=some (af g off)/\JU ps i (.agg #[b,m])/\W.cell? (af g (off+i*2))=some b/\W.cell? (af g (off+i*2+1))=some m:=by
 obtain⟨ad,cap,rfl,h2,h3⟩:=hv;refine⟨ad,cap,hb,h2,λi hi=>?_⟩;obtain⟨g,off,h4,h5,h6⟩:=h3 (by omega);obtain⟨h7,h8⟩:=h6 i _ (gE hi);refine⟨g,off,_,_,h4,?_,h7,h8⟩;unfold JU;rw[NE (gE hi)]
theorem sJ {T:zn} (hT:T.Ok)  (hI:T.In w) (hB:T.Bd B) (hwk:B<=wk) (hW:Ah w wk T.tb B v s x) (hx:x<=939524097) (hs:s.length<=100000) {rhs:List Pt} (hr:T.yN n t=some rhs):
  Calls Tryz.prog 172 #[ac wk,ab n,ab t] w λe w'=>∃v',e=.returned (.bool true)/\Ah w' wk T.tb B v' (rhs++s) (DJ x 1)/\A1 w w' (wk::v.ownBlock.toList)/\BH w.heap.size v v':=by
 obtain⟨hn,ht,nm,hnm,hRt,hrhs⟩:=hT.rl n t rhs hr;obtain⟨Mj,_⟩:=hT.len n t rhs hr;have hbit:(AL T.k n).testBit t=true:=by rw[hT.Tn n t hn aaA,hr];rfl
 obtain⟨iP,hiP,aa8,aa9,aba⟩:=jc Tryz.infoB235;have Au:wk<w.heap.size:=ak hW.1;have hvl:∀g,v.ownBlock=some g->B<=g/\g<w.heap.size/\g≠wk:=λg hg=>⟨(hW.2.lt g hg).1,(hW.2.lt g hg).2,λe=>hW.ne (by rw[hg,e])⟩
 have HI:Hid (T.In w):=hid hI;have Qd:Hid (T.Bd B):=hid hB;have CB:Hid (∀W,Below B w W->Calls Tryz.prog 212 #[ac T.tb,ab n,ab t] W λe w'=>e=.returned (.bool true)/\W=w'):=hid λW hb=>by
  have:=ST (hI.below hB hb).fc hT.fh n t hn aaA;rw[hbit]at this;exact this
 have CR:Hid (∀W,Below B w W->Calls Tryz.prog 174 #[ac T.tb,ab n,ab t] W λe w'=>∃v,e=.returned (.tuple #[v,ab t])/\C0 W T.n0 v rhs/\W=w'):=hid λW hb=>
  cY (hI.below hB hb).fc.gr (hI.below hB hb).tv n t t aaA nm rhs hnm hn hRt hrhs
 have hBw:B<=w.heap.size:=by omega
 clear hI hB hnm hRt hrhs hbit hr;refine(mq (n:=4)).1 ?_;refine qg Tryz.func172 rfl trivial ?_ rfl;simp only[Tryz.ntmps172,iz,lC,iw,Nat.reduceAdd,Nat.reduceSub,jg,jh,ju,jo,eu,ig];have hb1:Below B w (w.alloc (.cells #[ac wk] 194)):=(ah B w).alloc hBw _;have Fi:Hid (Ah (w.alloc (.cells #[ac wk] 194)) wk T.tb B v s x):=hid (hW.keeps ((A1.refl w []).alloc _) (by simp) (by simp));have c0:(w.alloc (.cells #[ac wk] 194)).cell? (af wk 0)=some (ac T.tb):=(A0 Fi.out.1).trans rfl;have yR:=hid hb1;clear hb1 hW
 gi_wp2_with (first
  | (refine⟨trivial,?_⟩;gi_at_call 212;refine((mq (n:=3)).2 (CB.out _ yR.out)).mono ?_;rintro e w1 ⟨rfl,rfl⟩)
  | (refine⟨trivial,?_⟩;gi_at_call 174;refine((mq (n:=3)).2 (CR.out _ yR.out)).mono ?_;rintro e w1 ⟨pv,rfl,Nn,rfl⟩;have Pq:=hid Nn;obtain⟨ad,Qe,rfl,_⟩:=Nn)
  | (refine⟨trivial,?_⟩;gi_at_call 197;refine(ZQ Fence.wide 3 trivial rfl _ _ _ _).mono ?_;rintro e w1 ⟨rfl,rfl⟩))
 obtain⟨w1,hw1⟩:=qE (w.alloc (.cells #[ac wk] 194));have hs1:w1.heap.size=w.heap.size+1:=by rw[<-hw1,bg]
 have Iu:w1.cell? (af w.heap.size 0)=some (ac wk):=by rw[<-hw1];exact GL w _ _
 have agf:A1 w w1 []:=by rw[<-hw1];exact(A1.refl w []).alloc _
 have agh:=hid agf;rw[hw1]at Fi yR Pq ⊢;rw[show w.heap.size+1=w1.heap.size from hs1.symm];replace hs1:w.heap.size+1<=w1.heap.size:=by omega
 clear hw1 agf c0;obtain⟨w2,hw2⟩:=qE (w1.alloc (.cells #[.slice ad rhs.length Qe] 228));have hs2:w1.heap.size+1<=w2.heap.size:=by rw[<-hw2,bg];omega
 have Lu:w2.cell? (af w1.heap.size 0)=some (.slice ad rhs.length Qe):=by rw[<-hw2];exact GL w1 _ _
 have abg:A1 w1 w2 []:=by rw[<-hw2];exact(A1.refl w1 []).alloc _
 rw[hw2]at ⊢;have Ak:Hid (Ah w2 wk T.tb B v s x):=hid (Fi.out.keeps abg (by simp) (by simp));have hb2:w2.cell? (af w.heap.size 0)=some (ac wk):=(abg.cell (by show w.heap.size<w1.heap.size;omega) (by simp)).trans Iu;have aiT:Hid (C0 w2 T.n0 (.slice ad rhs.length Qe) rhs):=hid (Pq.out.below (abg.below (by have:=Qd.out.n0;omega) (by simp)));have adO:Hid (A1 w w2 []):=hid (agh.out.trans abg);clear hw2 abg Iu yR agh Fi Pq CB CR;refine wpIn_rangeFunc_ownH (F:=Fence.wide) rfl (by omega) (gf:=224) (lb:= #[ac w1.heap.size]) rfl trivial (qo Tryz.func224 yg rfl)
  (T3 3 (by omega) w1.heap.size rhs.length (by omega) (JU rhs) (FG B w1.heap.size) (λW=>C0 W T.n0 (.slice ad rhs.length Qe) rhs/\W.cell? (af w1.heap.size 0)=some (.slice ad rhs.length Qe))
   (λA C hQ hK=>⟨hQ.1.below (hK.1.mono Qd.out.n0),(jd hK.2).trans hQ.2⟩) (λW hQ=>UA hQ.1 hQ.2) w2
   (λW hW=>⟨aiT.out.below (hW.mono (by have:=Qd.out.n0;omega)),(hW.cell (by show w1.heap.size<w2.heap.size;omega)).trans Lu⟩))
  FG.trans (FG.put (by omega) (by omega)) (ah _ _) (λ_=>rfl)
  (fun(pre:List (BX rhs.length (JU rhs))) W=>∃v',Ah W wk T.tb B v' (KM rhs pre++s) x/\A1 w2 W (wk::v.ownBlock.toList)/\BH w2.heap.size v v')
  (λ_ _ _=>False) ?own (λ_ _ _ _ _ hs _ _=>hs) ⟨v,Ak.out,A1.refl _ _,BH.refl _ _⟩
  (λy a' W=>∃pb vq,(W.heap[wk]?=some (.cells #[ac T.tb,vq,ab x] 230 (0,0))/\vq.ownBlock≠some pb)/\w2.heap.size<=pb/\pb<W.heap.size/\W.heap[pb]?=some (.cells #[.bool (AQ (F4 rhs y.1.1)),ab (AP (F4 rhs y.1.1))] 235 (0,0))/\a'= {tmps:= #[ac wk,ab n,ab t,ac w.heap.size,undef,undef,.bool false,.slice ad rhs.length Qe,ab t,undef,ac pb,undef,ac wk,ac wk,ac wk,ac T.tb,ac T.tb,ac T.tb,ab n,ab t,.bool true,.tuple #[.slice ad rhs.length Qe,ab t],ac wk,ac wk,ac wk,ac T.tb,ab n,ab t,.tuple #[.slice ad rhs.length Qe,ab t],.slice ad rhs.length Qe,ab t,.slice ad rhs.length Qe,.func (.func 224) #[] #[ac w1.heap.size],ab (y.1.1:Int),y.1.2,undef,undef,undef,undef,undef,undef,undef,undef,undef,undef,undef,undef,undef,undef,undef,undef,undef,undef,undef,undef,undef,undef,undef],defers:=[]})
  ?abh ?assign ?body ?done ?stop
 case own=>
  rintro pre A C row ⟨v',h1,h2,h3⟩ hg hr;exact⟨v',h1.step hg (λr e=>(hr r e).2),h2.grown hg (λr e=>.inr (hr r e).1),h3⟩
 case abh=>
  rintro y a' _ A C row ⟨pb,vq,hq,h1,h2,h3,h4⟩ hg hr;exact⟨pb,vq,⟨FT hq.1 hg (λr e=>(hr r e).2),hq.2⟩,h1,lL h2 hg.size,FT h3 hg (λr e=>(hr r e).2),h4⟩
 case assign=>
  rintro l pre ⟨⟨i,Cz⟩,hi1,hi2⟩ W K ⟨v',h1,h2,h3⟩ hK;simp only at hi1 hi2;unfold JU at hi2;subst hi2;have hsz:=h2.size;have y7:A1 W (W.alloc (.cells #[.bool (AQ (F4 rhs i)),ab (AP (F4 rhs i))] 235)) []:=(A1.refl W []).alloc _;have hwv:=h1.keeps y7 (by simp) (by simp);simp only[NY]
  gi_wp2
  exact hK _ _ ((KeepsOthers.alloc _ _).from _) (FG.keeps y7 (by omega) (by omega) (λq h=>by cases h)) ⟨v',hwv,h2.alloc _,h3⟩ ⟨W.heap.size,v',⟨hwv.1,λe=>by have:=CJ h1.2 e;omega⟩,by omega,by rw[bg];omega,ay W _,rfl⟩
 case body=>
  rintro l pre ⟨⟨i,Cz⟩,hi1,hi2⟩ a' W hl ⟨r,hr⟩ ⟨v',h1,h2,h3⟩ ⟨pb,vq,hq,Bu,Hy,Dy,rfl⟩ hlt;simp only at hi1 hi2 Dy ⊢;unfold JU at hi2;subst hi2;have hsz:=h2.size;have adP:∀g,v'.ownBlock=some g->g≠w.heap.size/\g≠w1.heap.size/\B<=g:=λg hg=>by
   rcases h3 g hg with h4 |h4
   ·have h5:=hvl g h4;exact⟨by omega,by omega,h5.1⟩
   ·exact⟨by omega,by omega,(h1.2.lt g hg).1⟩
  have cB:W.cell? (af w.heap.size 0)=some (ac wk):=(h2.cell (by show w.heap.size<w2.heap.size;omega) (by
   show w.heap.size∉wk::v.ownBlock.toList;intro hm
   rcases bh.1 hm with e |e
   ·omega
   ·have h5:=hvl w.heap.size Cp;omega)).trans hb2
  have cv:W.cell? (af wk 1)=some v':=(A0 h1.1).trans rfl;have fv:W.frozen? (af wk 1)=false:=A3 h1.1;have Qf:=(A0 (j:=0) Dy).trans rfl;have Qg:=(A0 (j:=1) Dy).trans rfl;have hlen:(KM rhs pre++s).length<=100008:=by unfold KM;simp;omega
  have H1:=hid h1;have H2:=hid h2;have H3:=hid h3;have HN:=hid adP;have hrow:W.ownsRow B 235 2 v' (KM rhs pre++s).length (BO (KM rhs pre++s).reverse):=h1.2;have hoff:∀g,g≠wk->g<w2.heap.size->v.ownBlock≠some g->some g≠v'.ownBlock:=λg hg hlt hvn e=>by
   rcases h3 g e.symm with h4 |h4
   ·exact hvn h4
   ·omega
  have Qh:some w.heap.size≠v'.ownBlock:=λe=>(adP _ e.symm).1 rfl
  have ogW:some wk≠v'.ownBlock:=λe=>h1.ne e.symm
  have Uj:some pb≠v'.ownBlock:=λe=>by
   have h4:=hq.1;rw[h1.1]at h4;have e4:vq=v':=by
    injection h4 with h4
    injection h4 with h4
    simpa using h4.symm
   exact hq.2 (by rw[e4];exact e.symm)
  have Da:=hid hrow;obtain⟨bp,Qi⟩:=qE (AQ (F4 rhs i));obtain⟨np,hnp⟩:=qE (AP (F4 rhs i));have HBP:Hid (BO [F4 rhs i]=[.bool bp,ab np]):=hid (by rw[SM,Qi,hnp]);rw[Qi]at Qf;rw[hnp]at Qg;obtain⟨kk,hkk⟩:=qE ((KM rhs pre++s).length);rw[hkk]at hlen Da;have HKK:=hid hkk;clear h1 h2 h3 adP hrow hoff Qi hnp hkk Dy hq
  gi_wp2
  have Ad:wk<W.heap.size:=by omega
  have hlb:w.heap.size<W.heap.size:=by omega
  refine BZ (λw'=>w'.cell? (af w.heap.size 0)=some (ac wk)/\w'.cell? (af wk 1)=some v'/\w'.cell? (af pb 0)=some (.bool bp)/\w'.cell? (af pb 1)=some (ab np)) hmx yg Ka yg ⟨cB,cv,Qf,Qg⟩ (λhH=>?_);simp only[AB,BM,AO];refine tB 0 hH ?_;refine tB 1 hH ?_;refine tB 2 hH ?_;refine tB 3 hH ?_;refine tB 4 hH ?_;refine tB 5 hH ?_;refine tL ?_;refine tS 6 λK hK=>?_
  refine tM ?_;go_simp;refine hK.out _ _ ?_ λhH=>?_
  ·exact⟨A2 _ hH.1,A2 _ hH.2.1,A2 _ hH.2.2.1,A2 _ hH.2.2.2⟩
  clear hK K;refine tL ?_;refine tS 7 λK hK=>?_
  refine tM ?_;rw[aq (by rfl)];refine mz _ (.tmp 39) (.tmp 41) 228 rfl B 235 iP (.agg #[.bool false,ab 0]) 2 16 Tryz.underlying228 hiP aa8 aa9 aba rfl (by decide) v' _ _ rfl (Da.out.alloc _) (af W.heap.size 0) 1 1 [.bool bp,ab np] rfl rfl (dh (fr:=(0,0)) (dw W _)) Fb (by omega) zX (by omega) yM _ rfl ?_;intro g2 cap2 w7 hown hgrow hat Bv;refine hK.out _ _ ?_ λhH=>?_
  ·exact⟨(hgrow.cell_far _ yM (by exact Qh)).trans hH.1,(hgrow.cell_far _ yM Vq).trans hH.2.1,(hgrow.cell_far _ yM (by exact Uj)).trans hH.2.2.1,(hgrow.cell_far _ yM (by exact Uj)).trans hH.2.2.2⟩
  clear hK K;refine tL ?_;refine tB 8 hH ?_;refine tB 9 hH ?_;refine tB 10 hH ?_;refine tL ?_;refine bk yg ?_ _;clear hH;obtain⟨z1,z2,z3,z4⟩:=EN (j:=1) (W:=W) ((A1.refl W []).alloc _).drew H1.out.1 (by decide) Da.out hown hgrow;have zc:=(A0 (j:=1) z1).trans rfl;have zf:=A3 (j:=1) z1;have HZ:=hid (And.intro z2 (And.intro z3 z4));have HAt:=hid hat;clear z1 z2 z3 z4 hown hgrow hat Bv cB cv fv Qf Qg;show wpList _ _ _ _ _ _;go_wp2;have hkK:∀k∈wk::v'.ownBlock.toList,∃c e f,W.heap[k]?=some (.cells c e f):=H1.out.kinds;refine⟨G6 HZ.out.2.2 hkK,FG.keeps HZ.out.2.2 (by omega) (by omega) (λq hq=>?_),_,⟨HZ.out.1,?_⟩,?_,?_⟩
  ·rcases bh.1 hq with e |e
   ·subst e;exact⟨hwk,by omega⟩
   ·have h5:=HN.out q Cp;exact⟨h5.2.2,h5.2.1⟩
  ·rw[jJ]
   unfold Oa;rw[ig,List.reverse_cons,OP,HBP.out,lC,HKK.out];exact HZ.out.2.1
  ·exact H2.out.fresh HZ.out.2.2 H3.out (yF _)
  ·refine H3.out.trans (m:=W.heap.size) (λg hg=>?_) hsz
   obtain rfl:g2=g:=by simpa[Value.ownBlock] using hg
   rcases HAt.out with h4 |h4
   ·exact .inl h4
   ·exact .inr Zy
 case done=>
  rintro D ys W hD hys ⟨v',h1,h2,h3⟩ hK;rw[lI rhs ys hys]at h1;have hsz:=h2.size;have cB:W.cell? (af w.heap.size 0)=some (ac wk):=(h2.cell (by show w.heap.size<w2.heap.size;omega) (by
   show w.heap.size∉wk::v.ownBlock.toList;intro hm
   rcases bh.1 hm with e |e
   ·omega
   ·have h5:=hvl w.heap.size Cp;omega)).trans hb2
  have cx:W.cell? (af wk 2)=some (ab x):=(A0 h1.1).trans rfl;have fx:W.frozen? (af wk 2)=false:=A3 h1.1;have CC:=(mq (n:=3)).2 (RG wk x 1 hx (by omega) W cx fx);have hDw:D≠wk:=by omega
  have hks:A1 W (W.setCell (af wk 2) (ab (DJ x 1))) [wk]:=(A1.refl W [wk]).setCell (by simp) _;have hD2:(W.setCell (af wk 2) (ab (DJ x 1))).heap[D]?=some (.deferred (some [])):=(hks.block D (mh.1 hK).1 (by simpa using hDw)).trans hK;have hw3:Ah (W.setCell (af wk 2) (ab (DJ x 1))) wk T.tb B v' (rhs++s) (DJ x 1):=⟨A6 h1.1 _,A7 h1.2 hks (λg hg hm=>by
   have hm:=mS.1 hm;subst hm;exact h1.ne hg)⟩
  have hw4:=hw3.step (qa _ D (.deferred none)) (λr e=>by cases e;exact⟨_,hD2,rfl⟩);have hk4:A1 w ((W.setCell (af wk 2) (ab (DJ x 1))).putObj D (.deferred none)) (wk::v.ownBlock.toList):=by
   refine((((adO.out.mono (λq h=>by cases h)).trans h2).trans (hks.mono (λq hq=>by simp[mS.1 hq])))).grown (qa _ D (.deferred none)) (λk e=>.inr ?_);cases e;omega
  have hf4:BH w.heap.size v v':=λg hg=>by
   rcases h3 g hg with h5 |h5
   ·exact .inl h5
   ·exact .inr (by omega)
  have HE:=hid (And.intro hw4 (And.intro hk4 hf4));have Pf:=hid hD2;clear h1 h2 h3 hks hw3 hw4 hk4 hf4 hD2 cx fx hys
  gi_wp2_with (refine⟨trivial,?_⟩;gi_at_call 171;refine CC.mono ?_;rintro e w5 ⟨rfl,rfl⟩)
  refine⟨by simp,.inl ⟨_,_,rfl,uo Pf.out,?_⟩⟩;exact⟨_,yE rfl _ _ _,v',rfl,HE.out⟩
 case stop=>
  rintro D c pre W _ _ h _;exact h.elim
end
theorem lJ  (h:x<=939524097):DJ x 0=x:=by unfold DJ;omega
theorem tR (x y:Nat):DJ x y<=939524097:=by unfold DJ;omega
theorem tF {T:zn} (hT:T.Ok)  (hI:T.In w) (hB:T.Bd B) (hwk:B<=wk) (hW:Ah w wk T.tb B v s x) (hx:x<=939524097)  (hn:n<T.N.nN) (ht:t<=T.N.nT) (hr:T.yN n t=none):
  Calls Tryz.prog 172 #[ac wk,ab n,ab t] w λe w'=>e=.returned (.bool false)/\Ah w' wk T.tb B v s x/\A1 w w' [wk]:=by
 have hbit:(AL T.k n).testBit t=false:=by rw[hT.Tn n t hn aaA,hr];rfl
 have Au:wk<w.heap.size:=ak hW.1;have HI:Hid (T.In w):=hid hI;have CB:Hid (∀W,Below B w W->Calls Tryz.prog 212 #[ac T.tb,ab n,ab t] W λe w'=>e=.returned (.bool false)/\W=w'):=hid λW hb=>by
  have:=ST (hI.below hB hb).fc hT.fh n t hn aaA;rw[hbit]at this;exact this
 have CE:Hid (∀W,Below B w W->Calls Tryz.prog 213 #[ac T.tb,ab n] W λe w'=>e=.returned (ab (0:Nat))/\W=w'):=hid λW hb=>by
  have:=YU (hI.below hB hb).tv n (by have:=hI.fc.gr.Bt;omega);rw[hT.ez n]at this;exact this
 have hBw:B<=w.heap.size:=by omega
 have hb1:Below B w (w.alloc (.cells #[ac wk] 194)):=(ah B w).alloc hBw _;have hw1:Ah (w.alloc (.cells #[ac wk] 194)) wk T.tb B v s x:=hW.keeps ((A1.refl w []).alloc _) (by simp) (by simp);have c0:(w.alloc (.cells #[ac wk] 194)).cell? (af wk 0)=some (ac T.tb):=(A0 hw1.1).trans rfl;have cx:(w.alloc (.cells #[ac wk] 194)).cell? (af wk 2)=some (ab x):=(A0 hw1.1).trans rfl;have HC:Hid (Calls Tryz.prog 171 #[ac wk,ab (0:Nat)] (w.alloc (.cells #[ac wk] 194)) λe w'=>e=.returned (.tuple #[])/\w'=(w.alloc (.cells #[ac wk] 194)).setCell (af wk 2) (ab (DJ x 0))):=hid (RG wk x 0 hx (by omega) _ cx (A3 hw1.1));have yR:=hid hb1;have hks:A1 w (w.setCell (af wk 2) (ab (DJ x 0))) [wk]:=(A1.refl _ [wk]).setCell (by simp) _;have HE:Hid (Ah ((w.setCell (af wk 2) (ab (DJ x 0))).alloc (.cells #[ac wk] 194)) wk T.tb B v s x/\A1 w ((w.setCell (af wk 2) (ab (DJ x 0))).alloc (.cells #[ac wk] 194)) [wk]):=by
  have h2:Ah (w.setCell (af wk 2) (ab (DJ x 0))) wk T.tb B v s x:=⟨by
   have h1:=A6 (j:=2) hW.1 (ab (DJ x 0));rw[lJ hx]at h1 ⊢;exact h1,A7 hW.2 hks (λg hg hm=>by
   have hm:=mS.1 hm;subst hm;exact hW.ne hg)⟩
  exact hid ⟨h2.keeps ((A1.refl _ []).alloc _) (by simp) (by simp),hks.alloc _⟩
 clear hI hB hbit hr hb1 hw1 hW cx hks
 go_enter Tryz.func172,Tryz.ntmps172
 go_wp2_with (first
  | (go_at_call 212;refine(CB.out _ yR.out).mono ?_;rintro e w1 ⟨rfl,rfl⟩)
  | (go_at_call 213;refine(CE.out _ yR.out).mono ?_;rintro e w1 ⟨rfl,rfl⟩)
  | (go_at_call 171;refine HC.out.mono ?_;rintro e w1 ⟨rfl,rfl⟩))
 go_ret;exact⟨rfl,HE.out⟩
theorem Ah.count  (h:Ah w wk tb B v L x) (y:Nat):Ah (w.setCell (af wk 2) (ab y)) wk tb B v L y/\A1 w (w.setCell (af wk 2) (ab y)) [wk]:=by
 have hks:A1 w (w.setCell (af wk 2) (ab y)) [wk]:=(A1.refl _ [wk]).setCell (by simp) _;exact⟨⟨A6 (j:=2) h.1 _,A7 h.2 hks (λg hg hm=>by
  have hm:=mS.1 hm;subst hm;exact h.ne hg)⟩,hks⟩
def C3 (yN:Nat->Nat->Option (List Pt)) (nT t:Nat):List Pt->Nat->Bool × List Pt × Nat
 | [],x=>(t==nT,[],x)
 | .tok u::s,x=>(u==t,s,DJ x 1)
 | .yB n::s,x=>match yN n t with
  |some rhs=>(true,rhs.tail++s,DJ (DJ x 1) 1)
  |none=>(false,s,x)
theorem B3.append {N:NG}{a b:List Pt} (h:B3 N a) (k:B3 N b):B3 N (a++b):=
 ⟨λn hn=>(gj.1 hn).elim (h.1 n) (k.1 n),λt ht=>(gj.1 ht).elim (h.2 t) (k.2 t)⟩
def P7:List Pt->Nat
 | .yB _::_=>1
 |_=>0
theorem tO (L:List Pt):P7 L<=1:=by unfold P7;split <;> omega
theorem d7 {T:zn} (hT:T.Ok)  (hI:T.In w) (hB:T.Bd B) (hwk:B<=wk) (hW:Ah w wk T.tb B v L x) (hx:x<=939524097) (hL:L.length<=90000) (Ae:B3 T.N L)  (ht:t<=T.N.nT):
  Calls Tryz.prog 116 #[ac wk,ab t] w λe w'=>∃v',e=.returned (.bool (C3 T.yN T.N.nT t L x).1)/\Ah w' wk T.tb B v' (C3 T.yN T.N.nT t L x).2.1 (C3 T.yN T.N.nT t L x).2.2/\A1 w w' (wk::v.ownBlock.toList)/\BH w.heap.size v v':=by
 have Au:wk<w.heap.size:=ak hW.1;have hvl:∀g,v.ownBlock=some g->B<=g/\g<w.heap.size/\g≠wk:=λg hg=>⟨(hW.2.lt g hg).1,(hW.2.lt g hg).2,λe=>hW.ne (by rw[hg,e])⟩
 have HI:Hid (T.In w):=hid hI;have HB:Hid (T.Bd B):=hid hB;have HW:Hid (Ah w wk T.tb B v L x):=hid hW;have HP:Hid (x<=939524097/\L.length+10*P7 L<=90010/\B3 T.N L):=hid ⟨hx,by have:=tO L;omega,Ae⟩;obtain⟨res,hres⟩:=qE (C3 T.yN T.N.nT t L x);rw[hres];have agi:=hid hres;have Cj:T.N.nT<=20:=hI.fc.gr.Aj;have hTS:∀n,T.yN n t=none\/∃rhs,T.yN n t=some rhs/\∃rest,rhs=.tok t::rest:=λn=>by
  cases h:T.yN n t with
  |none=>exact .inl rfl
  |some rhs=>exact .inr ⟨rhs,rfl,hT.Xr n t rhs h⟩
 have HTS:=hid hTS;clear hI hB hW hx Ae hres hL hTS
 go_enter Tryz.func116,Tryz.ntmps116
 go_wp2
 go_loopg [5] (P7 L) (λg p wr=>∃v1 L1 x1,g=P7 L1/\Hid (C3 T.yN T.N.nT t L1 x1=res)/\Hid (Ah wr wk T.tb B v1 L1 x1)/\Hid (A1 w wr (wk::v.ownBlock.toList))/\Hid (BH w.heap.size v v1)/\Hid (x1<=939524097/\L1.length+10*P7 L1<=90010/\B3 T.N L1))
 case atStart=>exact⟨v,L,x,rfl,agi,HW,hid (A1.refl _ _),hid (BH.refl _ _),HP⟩
 case round=>
  clear agi HW HP;obtain⟨v1,L1,x1,rfl,hr1,hw1,hk1,hf1,Bu⟩:=hrel;have c0:wr.cell? (af wk 0)=some (ac T.tb):=(A0 hw1.out.1).trans rfl;have c1:wr.cell? (af wk 1)=some v1:=(A0 hw1.out.1).trans rfl;have f1:wr.frozen? (af wk 1)=false:=A3 hw1.out.1;have hwr:wk<wr.heap.size:=ak hw1.out.1;cases L1 with
  |nil=>
   obtain⟨ad,cap,rfl⟩:=hw1.out.2.nil;have Rs:T.In wr:=HI.out.below HB.out (hk1.out.below (by omega) (λq hq=>by
    rcases bh.1 hq with e |e
    ·omega
    ·exact(hvl q Cp).1))
   obtain⟨d0,d1,d2⟩:=Rs.tv.Ar;have Ck:Hid (res=(t==T.N.nT,[],x1)):=hid (by rw[<-hr1.out];rfl);obtain⟨nT,zo⟩:=qF (T.N.nT);obtain⟨nN,yY⟩:=qF (T.N.nN);rw[<-zo]at d0 Ck;rw[<-yY]at d1;clear Rs zo yY hr1 d2
   go_wp2_with (go_at_call 115;refine(MN _ _ _ _ _ _ _).mono ?_;rintro e w2 ⟨rfl,hb2⟩;have yV:=hid hb2;clear hb2)
   go_ret;have hb2:=yV.out;refine⟨.slice ad 0 cap,?_,?_⟩
   ·rw[Ck.out]
    exact congrArg (λb=>Ending.returned (.bool b)) (by rw[og];simp;omega)
   ·rw[Ck.out]
    exact⟨hw1.out.keeps (A1.yX hb2 []) (by simp) (by simp),hk1.out.trans (A1.yX hb2 _),hf1.out⟩
  |cons p s=>
   obtain⟨g,cap,rfl,Bf,hgB,Fj,cb,cm,hsk⟩:=hw1.out.2.top;have Hl:g≠wk:=λe=>hw1.out.ne aab
   have HSK:=hid hsk;have Ef:s.length+1<=90010:=by have:=Bu.out.2.1;simp only[lC]at this;omega
   obtain⟨n1,hn1⟩:=qF (s.length);rw[<-hn1]at cb cm c1 Ef Fj;have Rt:=hid hn1;clear hsk hn1;obtain⟨bn,zY⟩:=qF (AQ p);obtain⟨np,hnp⟩:=qF (AP p);rw[<-zY]at cb;rw[<-hnp]at cm;have hks:A1 wr ((wr.setCell (af wk 1) (ae g n1 cap)).alloc (.cells #[.bool bn,ab np] 235)) [wk]:=((A1.refl wr [wk]).setCell (by simp) _).alloc _;have hw2:Ah ((wr.setCell (af wk 1) (ae g n1 cap)).alloc (.cells #[.bool bn,ab np] 235)) wk T.tb B (ae g n1 cap) s x1:=
    ⟨(dm _ _ _ (by rw[World.size_setCell];exact hwr)).trans (A6 (j:=1) hw1.out.1 _),by
     rw[Rt.out];exact A7 HSK.out (by rw[<-Rt.out];exact hks) (λq hq hm=>by
      have hm:=mS.1 hm;have hq:g=q:=by simpa[Value.ownBlock] using hq
      omega)⟩
   obtain⟨W2,hW2⟩:=qE ((wr.setCell (af wk 1) (ae g n1 cap)).alloc (.cells #[.bool bn,ab np] 235));have hnb:W2.cell? (af wr.heap.size 0)=some (.bool bn)/\W2.cell? (af wr.heap.size 1)=some (ab np):=by
    rw[<-hW2];have h1:=BF (wr.setCell (af wk 1) (ae g n1 cap)) #[.bool bn,ab np] 235;simp only[World.size_setCell]at h1;exact⟨h1 0,h1 1⟩
   rw[hW2]at hks hw2;have HBN:Hid (bn=AQ p/\np=AP p):=hid ⟨zY,hnp⟩;have hk2:A1 w W2 (wk::v.ownBlock.toList):=hk1.out.trans (hks.mono (λq hq=>by simp[mS.1 hq]));have hf2:BH w.heap.size v (ae g n1 cap):=λq hq=>hf1.out q hq
   have H2:=hid (And.intro hw2 (And.intro hk2 hf2));have m1:W2.cell? (af wk 2)=some (ab x1):=(A0 hw2.1).trans rfl;have HC:Hid (Calls Tryz.prog 171 #[ac wk,ab (1:Nat)] W2 λe w'=>e=.returned (.tuple #[])/\w'=W2.setCell (af wk 2) (ab (DJ x1 1))):=hid (RG wk x1 1 Bu.out.1 (by omega) W2 m1 (A3 hw2.1));have Ak:=hid hW2;have Bq:=hid hnb;clear zY hnp hw2 hk2 hf2 hks m1 hW2 hnb hk1 hf1;cases p with
   |tok u=>
    obtain⟨rfl,rfl⟩:bn=false/\np=u:=HBN.out
    go_upto_region 6 with fail
    rw[Ak.out];have agj:=Bq.out.1;have agk:=Bq.out.2
    go_wp2_with (go_at_call 171;refine HC.out.mono ?_;rintro e w5 ⟨rfl,rfl⟩)
    have Ck:Hid (res=(np==t,s,DJ x1 1)):=hid (by rw[<-hr1.out];rfl);go_ret;refine⟨ae g n1 cap,?_,?_⟩
    ·rw[Ck.out]
     exact congrArg (λb=>Ending.returned (.bool b)) (by rw[og];simp;omega)
    ·rw[Ck.out]
     obtain⟨z1,z2⟩:=H2.out.1.count (DJ x1 1);exact⟨z1,H2.out.2.1.trans (z2.mono (λq hq=>by simp[mS.1 hq])),H2.out.2.2⟩
   |yB n=>
    obtain⟨rfl,rfl⟩:bn=true/\np=n:=HBN.out;have yY:np<T.N.nN:=Bu.out.2.2.1 np (eo ..);have Gi:T.In W2:=HI.out.below HB.out (H2.out.2.1.below (by omega) (λq hq=>by
     rcases bh.1 hq with e |e
     ·omega
     ·exact(hvl q Cp).1))
    have hps:B3 T.N s:=Bu.out.2.2.tail;have aiU:w.heap.size<=W2.heap.size:=H2.out.2.1.size
    rcases HTS.out np with hrl | ⟨rhs,hrl,rest,Gh⟩
    ·have HO:=hid (tF hT Gi HB.out hwk H2.out.1 Bu.out.1 yY ht hrl)
     have Ck:Hid (res=(false,s,x1)):=hid (by rw[<-hr1.out];simp only[C3,hrl]);clear hrl Gi hps HC
     go_upto_region 8 with fail
     rw[Ak.out];have agj:=Bq.out.1;have agk:=Bq.out.2
     go_wp2_with (go_at_call 172;refine HO.out.mono ?_;rintro e w5 ⟨rfl,Jn,zj⟩;have H5:=hid (And.intro Jn zj);clear Jn zj)
     go_ret;refine⟨ae g n1 cap,?_,?_⟩
     ·rw[Ck.out];rfl
     ·rw[Ck.out]
      exact⟨H5.out.1,H2.out.2.1.trans (H5.out.2.mono (λq hq=>by simp[mS.1 hq])),H2.out.2.2⟩
    ·have aiV:s.length<=100000:=by have:=Rt.out;omega
     have HO:=hid (sJ hT Gi HB.out hwk H2.out.1 Bu.out.1 aiV hrl);have hlen:=hT.len np t rhs hrl;subst Gh;have Ck:Hid (C3 T.yN T.N.nT t (Pt.tok t::rest++s) (DJ x1 1)=res):=hid (by rw[<-hr1.out];simp[C3,hrl]);have Xs:Hid (DJ x1 1<=939524097/\(Pt.tok t::rest++s).length+10*P7 (Pt.tok t::rest++s)<=90010/\B3 T.N (Pt.tok t::rest++s)):=hid ⟨tR _ _,by
      have h1:=Bu.out.2.1;have h2:=hlen.1;simp only[lC,lA,P7,ig]at h1 h2 ⊢;omega,hlen.2.append hps⟩
     clear hrl Gi hps HC hlen
     go_upto_region 8 with fail
     rw[Ak.out];have agj:=Bq.out.1;have agk:=Bq.out.2
     go_wp2_with (go_at_call 172;refine HO.out.mono ?_;rintro e w5 ⟨v5,rfl,Jn,zj,Jo⟩;have H5:=hid (And.intro Jn (And.intro zj Jo));clear Jn zj Jo)
     go_roundg 0
     case measure=>simp[P7]
     case rel=>exact⟨v5,_,_,rfl,Ck,hid H5.out.1,hid (H2.out.2.1.fresh H5.out.2.1 H2.out.2.2 (yF _)),hid (H2.out.2.2.trans H5.out.2.2 aiU),Xs⟩
theorem Y8 {T:zn} (hI:T.In w):
  Calls Tryz.prog 93 #[ac T.tb] w λe w'=>∃wk v,e=.returned (ac wk)/\w.heap.size<=wk/\Ah w' wk T.tb w.heap.size v [.yB 0] 0/\Below w.heap.size w w':=by
 obtain⟨d0,d1,_⟩:=hI.tv.Ar;obtain⟨nT,zo⟩:=qF (T.N.nT);obtain⟨nN,yY⟩:=qF (T.N.nN);rw[<-zo]at d0;rw[<-yY]at d1;clear hI zo yY
 go_enter Tryz.func93,Tryz.ntmps93
 go_wp2_with (go_at_call 118;refine(N9 _ _ _).mono ?_;rintro e w2 ⟨rfl,hb2⟩;have yV:=hid hb2;clear hb2)
 go_ret;have hs:=yV.out.size;refine⟨w2.heap.size+1,ae w2.heap.size 1 1,rfl,by omega,⟨?_,rfl,.inr ⟨w2.heap.size,1,#[.bool true,ab 0],rfl,hs,?_,by decide,by decide,rfl,rfl⟩⟩,?_⟩
 ·exact P3 w2 _ _ _ _
 ·exact(dm _ _ _ Hw).trans (ay w2 _)
 ·exact(yV.out.alloc hs _).alloc Hw _
end Go.Proofs.YtjjggdcnpndgjaaGreatDoor
