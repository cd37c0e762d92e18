import Derived.Test.YtjjggdcnpndgjaaGreatDoorCJ23
import Derived.Test.YtjjggdcnpndgjaaGreatDoorCJ24
set_option linter.unusedSimpArgs false
set_option maxHeartbeats 8000000
set_option maxRecDepth 100000
namespace Go.Proofs.YtjjggdcnpndgjaaGreatDoor
abbrev uk:=@List.length_reverse
abbrev xY:=@List.take_append_of_le_length
abbrev zm:=@Go.results_tmp
open Go.RowKit Go.Shelf
variable {B Bn e m n t tb wk x:Nat}{L s:List Pt}{S:List Nat}{W W' w w':World}{v:Value}
theorem fA (L:List Pt):(BZ L).length=L.length*2:=by
 unfold BZ
 induction L with
 |nil=>rfl
 |cons a r ih=>rw[ij,lA,ih];simp;omega
theorem OO (a b:List Pt):BZ (a++b)=BZ a++BZ b:=by unfold BZ;rw[mo]
theorem T9 (p:Pt):BZ [p]=[.bool (AW p),ab (AV p)]:=rfl
def Qd (w:World) (B:Nat) (v:Value) (L:List Pt):Prop:=w.ownsRow B 235 2 v L.length (BZ L.reverse)
theorem Qd.top {p:Pt} (h:Qd w B v (p::s)):
  ∃g cap,v=ae g (s.length+1) cap/\g<w.heap.size/\B<=g/\s.length+1<=cap/\w.cell? (af g (s.length*2))=some (.bool (AW p))/\w.cell? (af g (s.length*2+1))=some (ab (AV p))/\Qd w B (ae g s.length cap) s:=by
 obtain⟨h1,h2⟩:=h
 rcases h2 with⟨_,h2⟩ | ⟨g,cap,cur,rfl,hg,hh,hnc,hm,hs,ht⟩
 ·simp at h2
 ·have e:BZ (p::s).reverse=BZ s.reverse++ [.bool (AW p),ab (AV p)]:=by rw[List.reverse_cons,OO,T9]
  have hl:(BZ s.reverse).length=s.length*2:=by rw[fA,uk]
  have hrow:w.ownsRow B 235 2 (ae g (p::s).length cap) (p::s).length (BZ (p::s).reverse):=⟨h1,.inr ⟨g,cap,cur,rfl,hg,hh,hnc,hm,hs,ht⟩⟩;refine⟨g,cap,rfl,ak hh,hg,hnc,?_,?_,⟨hl,.inr ⟨g,cap,cur,rfl,hg,hh,by simp only[lC]at hnc;omega,hm,hs,?_⟩⟩⟩
  ·rw[hrow.cellAt _ (by simp only[lC];omega),e,Bc (by omega),hl,ku];rfl
  ·rw[hrow.cellAt _ (by simp only[lC];omega),e,Bc (by omega),hl,show s.length*2+1 - s.length*2=1 by omega];rfl
  ·have h3:(cur.toList.take ((p::s).length*2)).take (s.length*2)=cur.toList.take (s.length*2):=by
    rw[List.take_take,vu (by simp only[lC];omega)]
   rw[<-h3,ht,e,xY (by omega),jk (by omega)]
theorem Qd.nil  (h:Qd w B v []):∃ad cap,v=.slice ad 0 cap:=by
 rcases h.2 with⟨rfl,_⟩ | ⟨g,cap,cur,rfl,_⟩
 ·exact⟨_,_,rfl⟩
 ·exact⟨_,_,rfl⟩
theorem Qd.form  (h:Qd w B v L):∃ad cap,v=.slice ad L.length cap/\L.length<=cap:=by
 rcases h.2 with⟨rfl,h0⟩ | ⟨g,cap,cur,rfl,_,_,h1,_⟩
 ·exact⟨none,0,by rw[h0],by omega⟩
 ·exact⟨_,_,rfl,h1⟩
def Ce (w:World) (wk tb B:Nat) (v:Value) (L:List Pt) (x:Nat):Prop:=w.heap[wk]?=some (.cells #[ac tb,v,ab x] 230 (0,0))/\Qd w B v L
def BN (n:Nat) (v v':Value):Prop:=∀g,v'.ownBlock=some g->v.ownBlock=some g\/n<=g
theorem BN.refl (n:Nat) (v:Value):BN n v v:=λ_ h=>.inl h
theorem BN.trans {a b c:Value} (h:BN n a b) (k:BN m b c) (hn:n<=m):BN n a c:=λg e=>by
 rcases k g e with h1 |h1
 ·exact h g h1
 ·exact .inr (by omega)
theorem A5.fresh {a b c:World}{v':Value} (h:A5 a b (wk::v.ownBlock.toList)) (k:A5 b c (wk::v'.ownBlock.toList)) (hf:BN n v v') (hn:a.heap.size<=n):A5 a c (wk::v.ownBlock.toList):=
 ⟨k.os.trans h.os,k.tape.trans h.tape,k.output.trans h.output,zV h.size k.size,λq hq hm=>(k.block q (lL hq h.size) (λh1=>by
  rcases bk.1 h1 with e |e
  ·exact hm Mv
  ·rcases hf q Ee with h2 |h2
   ·exact hm (by simp[h2])
   ·omega)).trans (h.block q hq hm)⟩
theorem Ce.keeps  (h:Ce w wk tb B v L x) (hk:A5 w w' S) (hw:wk∉S) (hv:∀g,v.ownBlock=some g->g∉S):Ce w' wk tb B v L x:=
 ⟨(hk.block wk (ak h.1) hw).trans h.1,AC h.2 hk hv⟩
theorem Ce.ne  (h:Ce w wk tb B v L x):v.ownBlock≠some wk:=A9 h.2 h.1 (by decide)
theorem EY {w1 Wa:World}{n₀ j tW size k:Nat}{cs:Array Value}{v':Value}{xs ys:List Value} (hka:A5 W Wa [])
  (hb:W.heap[wk]?=some (.cells cs tW (0,0))) (hte:e≠tW) (hrow:W.ownsRow n₀ e size v k xs) (hown':w1.ownsRow n₀ e size v' m ys) (hgrow:Wa.grownBy w1 v.ownBlock):
  w1.heap[wk]?=some (.cells cs tW (0,0))/\(w1.setCell (af wk j) v').heap[wk]?=some (.cells (cs.setIfInBounds j v') tW (0,0))/\(w1.setCell (af wk j) v').ownsRow n₀ e size v' m ys/\A5 W (w1.setCell (af wk j) v') (wk::v.ownBlock.toList):=by
 have hne:=A9 hrow hb hte;have hk1:A5 W w1 v.ownBlock.toList:=(hka.mono (λq h=>by cases h)).grown hgrow (λq hq=>.inl Hh);have hb1:w1.heap[wk]?=some (.cells cs tW (0,0)):=(hk1.block wk (ak hb) (λhm=>hne aaK)).trans hb;refine⟨hb1,AA hb1 v',?_,?_⟩
 ·refine AC hown' ((A5.refl w1 [wk]).setCell (by simp) _) (λg hg hm=>?_)
  have hm:=mS.1 hm;subst hm;exact A9 hown' hb1 hte hg
 ·exact(hk1.mono (λq hq=>by simp at hq ⊢;exact .inr hq)).setCell (by simp) _
theorem GG {V V1:World} (h:A5 V V1 S) (hS:∀k∈S,∃c e f,V.heap[k]?=some (.cells c e f)):KeepsFrom B V V1:=
 ⟨h.size,λk o _ hk ho=>(h.block k (ng.1 hk).1 (λhm=>by
  obtain⟨c,e,f,h1⟩:=hS k hm;rw[hk]at h1;injection h1 with h1
  subst h1;cases ho)).trans hk⟩
theorem Ce.kinds  (h:Ce w wk tb B v L x):∀k∈wk::v.ownBlock.toList,∃c e f,w.heap[k]?=some (.cells c e f):=by
 intro k hk;simp at hk
 rcases hk with rfl |hk
 ·exact⟨_,_,_,h.1⟩
 ·obtain⟨c,hc⟩:=BQ h.2 hk
  exact⟨_,_,_,hc⟩
theorem Ce.step {row:Option Nat} (h:Ce W wk tb B v L x) (hg:W.grownBy W' row) (hr:∀r,row=some r->∃o:Obj,W.heap[r]?=some o/\o.isCells=false):Ce W' wk tb B v L x:=by
 have hn:∀k∈wk::v.ownBlock.toList,k∉row.toList:=λk hk hm=>by
  obtain⟨c,e,f,h1⟩:=h.kinds k hk;have hm:row=some k:=by simpa using hm
  obtain⟨o,h2,h3⟩:=hr k hm;rw[h1]at h2;injection h2 with h2
  subst h2;cases h3
 exact h.keeps ((A5.refl W row.toList).grown hg (λk e=>.inl Mv)) (hn wk (by simp)) (λg hg=>hn g (by simp[hg]))
theorem ZM {sz c g:Nat}{xs:List Value} (h:w.ownsRow B e sz (ae g m c) n xs) (hb:w'.heap[g]?=w.heap[g]?):w'.ownsRow B e sz (ae g m c) n xs:=by
 obtain⟨h1,h2⟩:=h;refine⟨h1,?_⟩
 rcases h2 with⟨h2,_⟩ | ⟨g',cap,cur,hv,hg,hh,r⟩
 ·cases h2
 ·have e:g=g':=by
   injection hv with h3
   injection h3 with h3
   injection h3
  subst e;exact .inr ⟨g,cap,cur,hv,hg,hb.trans hh,r⟩
structure Am where
 n0:Nat
 tb:Nat
 kb:Nat
 N:NG
 zy:List ByteArray
 pg:List Nm
 yZ:Option Addr
 yT:Nat
 gN:Nat
 yQ:Nat
 k:List Fa
 R:Nat->Nat->Int
 E:Nat->Nat
 zH:Nat->Nat->Option (List Pt)
structure Am.Ok (T:Am):Prop where
 fh:∀n,AQ T.k n<2 ^21
 Vx:∀n t,n<T.N.nN->t<=20->(AQ T.k n).testBit t=(T.zH n t).isSome
 rl:∀n t rhs,T.zH n t=some rhs->n<T.N.nN/\t<T.N.nT/\∃nm,T.pg[n]?=some nm/\T.R n t=(t:Int)/\nm.2[t]?=some rhs
 len:∀n t rhs,T.zH n t=some rhs->rhs.length<=8/\BE T.N rhs
 ez:∀n,T.E n=0
 led:Wr T.zH
 of:QG T.N T.zH
 nN:0<T.N.nN
 nn:∀n,n<T.N.nN->Bh T.k n=false
structure Am.In (T:Am) (w:World):Prop where
 fc:Aw w T.n0 T.tb T.kb T.N T.zy T.pg T.yZ T.yT T.gN T.yQ T.k
 tv:Au w T.tb T.yZ T.N.nT T.yT T.gN T.N.nN T.yQ T.kb T.R T.E
structure Am.Bd (T:Am) (B:Nat):Prop where
 n0:T.n0<=B
 tb:T.tb<B
 kb:T.kb<B
theorem Am.In.bd {T:Am} (h:T.In w):T.Bd w.heap.size:=⟨h.fc.ln,h.fc.lf,h.fc.kn.lt⟩
theorem Am.In.below {T:Am} (h:T.In w) (hB:T.Bd B) (hb:Below B w w'):T.In w':=by
 have hV:Au w' T.tb T.yZ T.N.nT T.yT T.gN T.N.nN T.yQ T.kb T.R T.E:=h.tv.block (hb.block T.tb hB.tb);exact⟨{gr:=h.fc.gr.below (hb.mono hB.n0),n0:=h.fc.n0,ne:=h.fc.ne,lf:=hV.lt,f0:=hV.Cq.1,f1:=hV.Cq.2.1,f2:=hV.Cq.2.2,kn:=(⟨h.fc.kn.1,ZM h.fc.kn.2 (hb.block T.kb hB.kb)⟩:zY _ _ _ _)},hV⟩
section
attribute [local go_sem] Oper.semAt_some
def FP (B Bn:Nat) (A C:World):Prop:=Below B A C/\C.heap[Bn]?=A.heap[Bn]?
theorem FP.trans {X Y Z:World} (h:FP B Bn X Y) (k:FP B Bn Y Z):FP B Bn X Z:=⟨h.1.trans k.1,k.2.trans h.2⟩
theorem FP.put  (hB:B<=w.heap.size) (Nk:Bn<w.heap.size) (W:World) (l:Nat) (o o':Obj) (hl:w.heap.size<=l) (h:W.heap[l]?=some o) (h1:o.isCells=false) (h2:o.isWalk=false):FP B Bn W (W.putObj l o'):=
 ⟨yK hB W l o o' hl h h1 h2,ue (by omega)⟩
theorem FP.keeps  (h:A5 W W' S) (hB:B<=W.heap.size) (Nk:Bn<W.heap.size) (hS:∀q∈S,B<=q/\q≠Bn):FP B Bn W W':=
 ⟨h.below hB (λq hq=>(hS q hq).1),h.block Bn Nk (λhm=>(hS Bn hm).2 rfl)⟩
theorem G5 {b:Nat}{c:Array Value}{f:Nat × Nat}{row:Option Nat} (h:W.heap[b]?=some (.cells c e f)) (hg:W.grownBy W' row) (hr:∀r,row=some r->∃o:Obj,W.heap[r]?=some o/\o.isCells=false):W'.heap[b]?=some (.cells c e f):=by
 refine(((A5.refl W row.toList).grown hg (λk e=>.inl Mv)).block b (ak h) (λhm=>?_)).trans h;have hm:row=some b:=by simpa using hm
 obtain⟨o,h2,h3⟩:=hr b hm;rw[h]at h2;injection h2 with h2
 subst h2;cases h3
def FC (ps:List Pt) (i:Nat):Pt:=ps.getD i (.tok 0)
def KD (ps:List Pt) (i:Nat) (v:Value):Prop:=v=.agg #[.bool (AW (FC ps i)),ab (AV (FC ps i))]
theorem NV {ps:List Pt}{i:Nat}{p:Pt} (h:ps[i]?=some p):FC ps i=p:=by unfold FC;rw[Af,h];rfl
theorem s8 (ps:List Pt):(List.range ps.length).map (FC ps)=ps:=by
 apply oo;intro i;rw[gM]
 by_cases h:i<ps.length
 ·rw[ny h,kq,gE h]
  exact congrArg some (NV (gE h))
 ·rw[eo zG,eo (by omega)];rfl
def L4 {L:Nat}{P:Nat->Value->Prop} (ps:List Pt) (pre:List (BX L P)):List Pt:=((pre.map (·.1.1)).map (FC ps)).reverse
theorem jN {L:Nat}{P:Nat->Value->Prop} (ps:List Pt) (pre:List (BX L P)) (x:BX L P):L4 ps (pre++ [x])=FC ps x.1.1::L4 ps pre:=by unfold L4;simp
theorem o6 {P:Nat->Value->Prop} (ps:List Pt) (ys:List (BX ps.length P)) (h:ys.map (·.1.1)=(List.range ps.length).reverse):L4 ps ys=ps:=by
 unfold L4;rw[h,List.map_reverse,List.reverse_reverse,s8]
theorem V4 {n₀:Nat}{pv:Value}{ps:List Pt} (hv:D1 W n₀ pv ps) (hb:W.cell? (af Bn 0)=some pv):
  ∃ad cap,W.cell? (af Bn 0)=some (.slice ad ps.length cap)/\ps.length<=cap/\∀i,i<ps.length->∃g off b m,ad=some (af g off)/\KD ps i (.agg #[b,m])/\W.cell? (af g (off+i*2))=some b/\W.cell? (af g (off+i*2+1))=some m:=by
 obtain⟨ad,cap,rfl,h2,h3⟩:=hv;refine⟨ad,cap,hb,h2,λi hi=>?_⟩;obtain⟨g,off,h4,h5,h6⟩:=h3 (by omega);obtain⟨h7,h8⟩:=h6 i _ (gE hi);refine⟨g,off,_,_,h4,?_,h7,h8⟩;unfold KD;rw[NV (gE hi)]
theorem tH {T:Am} (hT:T.Ok)  (hI:T.In w) (hB:T.Bd B) (hwk:B<=wk) (hW:Ce w wk T.tb B v s x) (hx:x<=939524097) (hs:s.length<=100000) {rhs:List Pt} (hr:T.zH n t=some rhs):
  Calls Tryz.prog 172 #[ac wk,ab n,ab t] w λe w'=>∃v',e=.returned (.bool true)/\Ce w' wk T.tb B v' (rhs++s) (DR x 1)/\A5 w w' (wk::v.ownBlock.toList)/\BN w.heap.size v v':=by
 obtain⟨hn,ht,nm,hnm,hRt,hrhs⟩:=hT.rl n t rhs hr;obtain⟨Ob,_⟩:=hT.len n t rhs hr;have hbit:(AQ T.k n).testBit t=true:=by rw[hT.Vx n t hn abf,hr];rfl
 obtain⟨iP,hiP,abP,abQ,abR⟩:=iy Tryz.infoB235;have Cs:wk<w.heap.size:=ak hW.1;have hvl:∀g,v.ownBlock=some g->B<=g/\g<w.heap.size/\g≠wk:=λg hg=>⟨(hW.2.lt g hg).1,(hW.2.lt g hg).2,λe=>hW.ne (by rw[hg,e])⟩
 have HI:Hid (T.In w):=hid hI;have Sh:Hid (T.Bd B):=hid hB;have CB:Hid (∀W,Below B w W->Calls Tryz.prog 212 #[ac T.tb,ab n,ab t] W λe w'=>e=.returned (.bool true)/\W=w'):=hid λW hb=>by
  have:=SW (hI.below hB hb).fc hT.fh n t hn abf;rw[hbit]at this;exact this
 have CR:Hid (∀W,Below B w W->Calls Tryz.prog 174 #[ac T.tb,ab n,ab t] W λe w'=>∃v,e=.returned (.tuple #[v,ab t])/\D1 W T.n0 v rhs/\W=w'):=hid λW hb=>
  aQ (hI.below hB hb).fc.gr (hI.below hB hb).tv n t t abf nm rhs hnm hn hRt hrhs
 have hBw:B<=w.heap.size:=by omega
 clear hI hB hnm hRt hrhs hbit hr;refine(nk (n:=4)).1 ?_;refine qw Tryz.func172 rfl trivial ?_ rfl;simp only[Tryz.ntmps172,jf,lC,jd,Nat.reduceAdd,Nat.reduceSub,jm,jo,jy,jr,ey,iw];have hb1:Below B w (w.alloc (.cells #[ac wk] 194)):=(ah B w).alloc hBw _;have Hs:Hid (Ce (w.alloc (.cells #[ac wk] 194)) wk T.tb B v s x):=hid (hW.keeps ((A5.refl w []).alloc _) (by simp) (by simp));have c0:(w.alloc (.cells #[ac wk] 194)).cell? (af wk 0)=some (ac T.tb):=(A0 Hs.out.1).trans rfl;have zL:=hid hb1;clear hb1 hW
 gi_wp2_with (first
  | (refine⟨trivial,?_⟩;gi_at_call 212;refine((nk (n:=3)).2 (CB.out _ zL.out)).mono ?_;rintro e w1 ⟨rfl,rfl⟩)
  | (refine⟨trivial,?_⟩;gi_at_call 174;refine((nk (n:=3)).2 (CR.out _ zL.out)).mono ?_;rintro e w1 ⟨pv,rfl,Po,rfl⟩;have Ro:=hid Po;obtain⟨ad,Si,rfl,_⟩:=Po)
  | (refine⟨trivial,?_⟩;gi_at_call 197;refine(aH Fence.wide 3 trivial rfl _ _ _ _).mono ?_;rintro e w1 ⟨rfl,rfl⟩))
 obtain⟨w1,hw1⟩:=qE (w.alloc (.cells #[ac wk] 194));have hs1:w1.heap.size=w.heap.size+1:=by rw[<-hw1,bh]
 have Ku:w1.cell? (af w.heap.size 0)=some (ac wk):=by rw[<-hw1];exact GX w _ _
 have agR:A5 w w1 []:=by rw[<-hw1];exact(A5.refl w []).alloc _
 have agS:=hid agR;rw[hw1]at Hs zL Ro ⊢;rw[show w.heap.size+1=w1.heap.size from hs1.symm];replace hs1:w.heap.size+1<=w1.heap.size:=by omega
 clear hw1 agR c0;obtain⟨w2,hw2⟩:=qE (w1.alloc (.cells #[.slice ad rhs.length Si] 228));have hs2:w1.heap.size+1<=w2.heap.size:=by rw[<-hw2,bh];omega
 have Nk:w2.cell? (af w1.heap.size 0)=some (.slice ad rhs.length Si):=by rw[<-hw2];exact GX w1 _ _
 have abX:A5 w1 w2 []:=by rw[<-hw2];exact(A5.refl w1 []).alloc _
 rw[hw2]at ⊢;have Ci:Hid (Ce w2 wk T.tb B v s x):=hid (Hs.out.keeps abX (by simp) (by simp));have hb2:w2.cell? (af w.heap.size 0)=some (ac wk):=(abX.cell (by show w.heap.size<w1.heap.size;omega) (by simp)).trans Ku;have ajr:Hid (D1 w2 T.n0 (.slice ad rhs.length Si) rhs):=hid (Ro.out.below (abX.below (by have:=Sh.out.n0;omega) (by simp)));have aeE:Hid (A5 w w2 []):=hid (agS.out.trans abX);clear hw2 abX Ku zL agS Hs Ro CB CR;refine wpIn_rangeFunc_ownH (F:=Fence.wide) rfl (by omega) (gf:=224) (lb:= #[ac w1.heap.size]) rfl trivial (rq Tryz.func224 yM rfl)
  (T6 3 (by omega) w1.heap.size rhs.length (by omega) (KD rhs) (FP B w1.heap.size) (λW=>D1 W T.n0 (.slice ad rhs.length Si) rhs/\W.cell? (af w1.heap.size 0)=some (.slice ad rhs.length Si))
   (λA C hQ hK=>⟨hQ.1.below (hK.1.mono Sh.out.n0),(jh hK.2).trans hQ.2⟩) (λW hQ=>V4 hQ.1 hQ.2) w2
   (λW hW=>⟨ajr.out.below (hW.mono (by have:=Sh.out.n0;omega)),(hW.cell (by show w1.heap.size<w2.heap.size;omega)).trans Nk⟩))
  FP.trans (FP.put (by omega) (by omega)) (ah _ _) (λ_=>rfl)
  (fun(pre:List (BX rhs.length (KD rhs))) W=>∃v',Ce W wk T.tb B v' (L4 rhs pre++s) x/\A5 w2 W (wk::v.ownBlock.toList)/\BN w2.heap.size v v')
  (λ_ _ _=>False) ?own (λ_ _ _ _ _ hs _ _=>hs) ⟨v,Ci.out,A5.refl _ _,BN.refl _ _⟩
  (λy a' W=>∃pb vq,(W.heap[wk]?=some (.cells #[ac T.tb,vq,ab x] 230 (0,0))/\vq.ownBlock≠some pb)/\w2.heap.size<=pb/\pb<W.heap.size/\W.heap[pb]?=some (.cells #[.bool (AW (FC rhs y.1.1)),ab (AV (FC rhs y.1.1))] 235 (0,0))/\a'= {tmps:= #[ac wk,ab n,ab t,ac w.heap.size,undef,undef,.bool false,.slice ad rhs.length Si,ab t,undef,ac pb,undef,ac wk,ac wk,ac wk,ac T.tb,ac T.tb,ac T.tb,ab n,ab t,.bool true,.tuple #[.slice ad rhs.length Si,ab t],ac wk,ac wk,ac wk,ac T.tb,ab n,ab t,.tuple #[.slice ad rhs.length Si,ab t],.slice ad rhs.length Si,ab t,.slice ad rhs.length Si,.func (.func 224) #[] #[ac w1.heap.size],ab (y.1.1:Int),y.1.2,undef,undef,undef,undef,undef,undef,undef,undef,undef,undef,undef,undef,undef,undef,undef,undef,undef,undef,undef,undef,undef,undef,undef],defers:=[]})
  ?abY ?assign ?body ?done ?stop
 case own=>
  rintro pre A C row ⟨v',h1,h2,h3⟩ hg hr;exact⟨v',h1.step hg (λr e=>(hr r e).2),h2.grown hg (λr e=>.inr (hr r e).1),h3⟩
 case abY=>
  rintro y a' _ A C row ⟨pb,vq,hq,h1,h2,h3,h4⟩ hg hr;exact⟨pb,vq,⟨G5 hq.1 hg (λr e=>(hr r e).2),hq.2⟩,h1,lL h2 hg.size,G5 h3 hg (λr e=>(hr r e).2),h4⟩
 case assign=>
  rintro l pre ⟨⟨i,Eo⟩,hi1,hi2⟩ W K ⟨v',h1,h2,h3⟩ hK;simp only at hi1 hi2;unfold KD at hi2;subst hi2;have hsz:=h2.size;have zW:A5 W (W.alloc (.cells #[.bool (AW (FC rhs i)),ab (AV (FC rhs i))] 235)) []:=(A5.refl W []).alloc _;have hwv:=h1.keeps zW (by simp) (by simp);simp only[O6]
  gi_wp2
  exact hK _ _ ((KeepsOthers.alloc _ _).from _) (FP.keeps zW (by omega) (by omega) (λq h=>by cases h)) ⟨v',hwv,h2.alloc _,h3⟩ ⟨W.heap.size,v',⟨hwv.1,λe=>by have:=D8 h1.2 e;omega⟩,by omega,by rw[bh];omega,bg W _,rfl⟩
 case body=>
  rintro l pre ⟨⟨i,Eo⟩,hi1,hi2⟩ a' W hl ⟨r,hr⟩ ⟨v',h1,h2,h3⟩ ⟨pb,vq,hq,Dn,Km,Fw,rfl⟩ hlt;simp only at hi1 hi2 Fw ⊢;unfold KD at hi2;subst hi2;have hsz:=h2.size;have aeF:∀g,v'.ownBlock=some g->g≠w.heap.size/\g≠w1.heap.size/\B<=g:=λg hg=>by
   rcases h3 g hg with h4 |h4
   ·have h5:=hvl g h4;exact⟨by omega,by omega,h5.1⟩
   ·exact⟨by omega,by omega,(h1.2.lt g hg).1⟩
  have cB:W.cell? (af w.heap.size 0)=some (ac wk):=(h2.cell (by show w.heap.size<w2.heap.size;omega) (by
   show w.heap.size∉wk::v.ownBlock.toList;intro hm
   rcases bk.1 hm with e |e
   ·omega
   ·have h5:=hvl w.heap.size Ee;omega)).trans hb2
  have cv:W.cell? (af wk 1)=some v':=(A0 h1.1).trans rfl;have fv:W.frozen? (af wk 1)=false:=A7 h1.1;have Sk:=(A0 (j:=0) Fw).trans rfl;have Sm:=(A0 (j:=1) Fw).trans rfl;have hlen:(L4 rhs pre++s).length<=100008:=by unfold L4;simp;omega
  have H1:=hid h1;have H2:=hid h2;have H3:=hid h3;have HN:=hid aeF;have hrow:W.ownsRow B 235 2 v' (L4 rhs pre++s).length (BZ (L4 rhs pre++s).reverse):=h1.2;have hoff:∀g,g≠wk->g<w2.heap.size->v.ownBlock≠some g->some g≠v'.ownBlock:=λg hg hlt hvn e=>by
   rcases h3 g e.symm with h4 |h4
   ·exact hvn h4
   ·omega
  have Sn:some w.heap.size≠v'.ownBlock:=λe=>(aeF _ e.symm).1 rfl
  have ogW:some wk≠v'.ownBlock:=λe=>h1.ne e.symm
  have Xf:some pb≠v'.ownBlock:=λe=>by
   have h4:=hq.1;rw[h1.1]at h4;have e4:vq=v':=by
    injection h4 with h4
    injection h4 with h4
    simpa using h4.symm
   exact hq.2 (by rw[e4];exact e.symm)
  have Dl:=hid hrow;obtain⟨bp,Sq⟩:=qE (AW (FC rhs i));obtain⟨np,hnp⟩:=qE (AV (FC rhs i));have HBP:Hid (BZ [FC rhs i]=[.bool bp,ab np]):=hid (by rw[T9,Sq,hnp]);rw[Sq]at Sk;rw[hnp]at Sm;obtain⟨kk,hkk⟩:=qE ((L4 rhs pre++s).length);rw[hkk]at hlen Dl;have HKK:=hid hkk;clear h1 h2 h3 aeF hrow hoff Sq hnp hkk Fw hq
  gi_wp2
  have Bz:wk<W.heap.size:=by omega
  have hlb:w.heap.size<W.heap.size:=by omega
  refine CV (λw'=>w'.cell? (af w.heap.size 0)=some (ac wk)/\w'.cell? (af wk 1)=some v'/\w'.cell? (af pb 0)=some (.bool bp)/\w'.cell? (af pb 1)=some (ab np)) hmx yM Lv yM ⟨cB,cv,Sk,Sm⟩ (λhH=>?_);simp only[AG,BP,AR];refine tB 0 hH ?_;refine tB 1 hH ?_;refine tB 2 hH ?_;refine tB 3 hH ?_;refine tB 4 hH ?_;refine tB 5 hH ?_;refine tL ?_;refine tS 6 λK hK=>?_
  refine tM ?_;go_simp;refine hK.out _ _ ?_ λhH=>?_
  ·exact⟨A6 _ hH.1,A6 _ hH.2.1,A6 _ hH.2.2.1,A6 _ hH.2.2.2⟩
  clear hK K;refine tL ?_;refine tS 7 λK hK=>?_
  refine tM ?_;rw[ay (by rfl)];refine mq _ (.tmp 39) (.tmp 41) 228 rfl B 235 iP (.agg #[.bool false,ab 0]) 2 16 Tryz.underlying228 hiP abP abQ abR rfl (by decide) v' _ _ rfl (Dl.out.alloc _) (af W.heap.size 0) 1 1 [.bool bp,ab np] rfl rfl (dn (fr:=(0,0)) (dz W _)) Gl (by omega) Bg (by omega) zG _ rfl ?_;intro g2 cap2 w7 hown hgrow hat Cu;refine hK.out _ _ ?_ λhH=>?_
  ·exact⟨(hgrow.cell_far _ zG (by exact Sn)).trans hH.1,(hgrow.cell_far _ zG Yp).trans hH.2.1,(hgrow.cell_far _ zG (by exact Xf)).trans hH.2.2.1,(hgrow.cell_far _ zG (by exact Xf)).trans hH.2.2.2⟩
  clear hK K;refine tL ?_;refine tB 8 hH ?_;refine tB 9 hH ?_;refine tB 10 hH ?_;refine tL ?_;refine bq yM ?_ _;clear hH;obtain⟨z1,z2,z3,z4⟩:=EY (j:=1) (W:=W) ((A5.refl W []).alloc _).drew H1.out.1 (by decide) Dl.out hown hgrow;have zc:=(A0 (j:=1) z1).trans rfl;have zf:=A7 (j:=1) z1;have HZ:=hid (And.intro z2 (And.intro z3 z4));have HAt:=hid hat;clear z1 z2 z3 z4 hown hgrow hat Cu cB cv fv Sk Sm;show wpList _ _ _ _ _ _;go_wp2;have hkK:∀k∈wk::v'.ownBlock.toList,∃c e f,W.heap[k]?=some (.cells c e f):=H1.out.kinds;refine⟨GG HZ.out.2.2 hkK,FP.keeps HZ.out.2.2 (by omega) (by omega) (λq hq=>?_),_,⟨HZ.out.1,?_⟩,?_,?_⟩
  ·rcases bk.1 hq with e |e
   ·subst e;exact⟨hwk,by omega⟩
   ·have h5:=HN.out q Ee;exact⟨h5.2.2,h5.2.1⟩
  ·rw[jN]
   unfold Qd;rw[iw,List.reverse_cons,OO,HBP.out,lC,HKK.out];exact HZ.out.2.1
  ·exact H2.out.fresh HZ.out.2.2 H3.out (zn _)
  ·refine H3.out.trans (m:=W.heap.size) (λg hg=>?_) hsz
   obtain rfl:g2=g:=by simpa[Value.ownBlock] using hg
   rcases HAt.out with h4 |h4
   ·exact .inl h4
   ·exact .inr aaM
 case done=>
  rintro D ys W hD hys ⟨v',h1,h2,h3⟩ hK;rw[o6 rhs ys hys]at h1;have hsz:=h2.size;have cB:W.cell? (af w.heap.size 0)=some (ac wk):=(h2.cell (by show w.heap.size<w2.heap.size;omega) (by
   show w.heap.size∉wk::v.ownBlock.toList;intro hm
   rcases bk.1 hm with e |e
   ·omega
   ·have h5:=hvl w.heap.size Ee;omega)).trans hb2
  have cx:W.cell? (af wk 2)=some (ab x):=(A0 h1.1).trans rfl;have fx:W.frozen? (af wk 2)=false:=A7 h1.1;have CC:=(nk (n:=3)).2 (RL wk x 1 hx (by omega) W cx fx);have hDw:D≠wk:=by omega
  have hks:A5 W (W.setCell (af wk 2) (ab (DR x 1))) [wk]:=(A5.refl W [wk]).setCell (by simp) _;have hD2:(W.setCell (af wk 2) (ab (DR x 1))).heap[D]?=some (.deferred (some [])):=(hks.block D (ng.1 hK).1 (by simpa using hDw)).trans hK;have hw3:Ce (W.setCell (af wk 2) (ab (DR x 1))) wk T.tb B v' (rhs++s) (DR x 1):=⟨AA h1.1 _,AC h1.2 hks (λg hg hm=>by
   have hm:=mS.1 hm;subst hm;exact h1.ne hg)⟩
  have hw4:=hw3.step (qo _ D (.deferred none)) (λr e=>by cases e;exact⟨_,hD2,rfl⟩);have hk4:A5 w ((W.setCell (af wk 2) (ab (DR x 1))).putObj D (.deferred none)) (wk::v.ownBlock.toList):=by
   refine((((aeE.out.mono (λq h=>by cases h)).trans h2).trans (hks.mono (λq hq=>by simp[mS.1 hq])))).grown (qo _ D (.deferred none)) (λk e=>.inr ?_);cases e;omega
  have hf4:BN w.heap.size v v':=λg hg=>by
   rcases h3 g hg with h5 |h5
   ·exact .inl h5
   ·exact .inr (by omega)
  have HE:=hid (And.intro hw4 (And.intro hk4 hf4));have Yv:=hid hD2;clear h1 h2 h3 hks hw3 hw4 hk4 hf4 hD2 cx fx hys
  gi_wp2_with (refine⟨trivial,?_⟩;gi_at_call 171;refine CC.mono ?_;rintro e w5 ⟨rfl,rfl⟩)
  refine⟨by simp,.inl ⟨_,_,rfl,uz Yv.out,?_⟩⟩;exact⟨_,zm rfl _ _ _,v',rfl,HE.out⟩
 case stop=>
  rintro D c pre W _ _ h _;exact h.elim
end
theorem pT  (h:x<=939524097):DR x 0=x:=by unfold DR;omega
theorem vV (x y:Nat):DR x y<=939524097:=by unfold DR;omega
theorem uE {T:Am} (hT:T.Ok)  (hI:T.In w) (hB:T.Bd B) (hwk:B<=wk) (hW:Ce w wk T.tb B v s x) (hx:x<=939524097)  (hn:n<T.N.nN) (ht:t<=T.N.nT) (hr:T.zH n t=none):
  Calls Tryz.prog 172 #[ac wk,ab n,ab t] w λe w'=>e=.returned (.bool false)/\Ce w' wk T.tb B v s x/\A5 w w' [wk]:=by
 have hbit:(AQ T.k n).testBit t=false:=by rw[hT.Vx n t hn abf,hr];rfl
 have Cs:wk<w.heap.size:=ak hW.1;have HI:Hid (T.In w):=hid hI;have CB:Hid (∀W,Below B w W->Calls Tryz.prog 212 #[ac T.tb,ab n,ab t] W λe w'=>e=.returned (.bool false)/\W=w'):=hid λW hb=>by
  have:=SW (hI.below hB hb).fc hT.fh n t hn abf;rw[hbit]at this;exact this
 have CE:Hid (∀W,Below B w W->Calls Tryz.prog 213 #[ac T.tb,ab n] W λe w'=>e=.returned (ab (0:Nat))/\W=w'):=hid λW hb=>by
  have:=ZZ (hI.below hB hb).tv n (by have:=hI.fc.gr.Dm;omega);rw[hT.ez n]at this;exact this
 have hBw:B<=w.heap.size:=by omega
 have hb1:Below B w (w.alloc (.cells #[ac wk] 194)):=(ah B w).alloc hBw _;have hw1:Ce (w.alloc (.cells #[ac wk] 194)) wk T.tb B v s x:=hW.keeps ((A5.refl w []).alloc _) (by simp) (by simp);have c0:(w.alloc (.cells #[ac wk] 194)).cell? (af wk 0)=some (ac T.tb):=(A0 hw1.1).trans rfl;have cx:(w.alloc (.cells #[ac wk] 194)).cell? (af wk 2)=some (ab x):=(A0 hw1.1).trans rfl;have HC:Hid (Calls Tryz.prog 171 #[ac wk,ab (0:Nat)] (w.alloc (.cells #[ac wk] 194)) λe w'=>e=.returned (.tuple #[])/\w'=(w.alloc (.cells #[ac wk] 194)).setCell (af wk 2) (ab (DR x 0))):=hid (RL wk x 0 hx (by omega) _ cx (A7 hw1.1));have zL:=hid hb1;have hks:A5 w (w.setCell (af wk 2) (ab (DR x 0))) [wk]:=(A5.refl _ [wk]).setCell (by simp) _;have HE:Hid (Ce ((w.setCell (af wk 2) (ab (DR x 0))).alloc (.cells #[ac wk] 194)) wk T.tb B v s x/\A5 w ((w.setCell (af wk 2) (ab (DR x 0))).alloc (.cells #[ac wk] 194)) [wk]):=by
  have h2:Ce (w.setCell (af wk 2) (ab (DR x 0))) wk T.tb B v s x:=⟨by
   have h1:=AA (j:=2) hW.1 (ab (DR x 0));rw[pT hx]at h1 ⊢;exact h1,AC hW.2 hks (λg hg hm=>by
   have hm:=mS.1 hm;subst hm;exact hW.ne hg)⟩
  exact hid ⟨h2.keeps ((A5.refl _ []).alloc _) (by simp) (by simp),hks.alloc _⟩
 clear hI hB hbit hr hb1 hw1 hW cx hks
 go_enter Tryz.func172,Tryz.ntmps172
 go_wp2_with (first
  | (go_at_call 212;refine(CB.out _ zL.out).mono ?_;rintro e w1 ⟨rfl,rfl⟩)
  | (go_at_call 213;refine(CE.out _ zL.out).mono ?_;rintro e w1 ⟨rfl,rfl⟩)
  | (go_at_call 171;refine HC.out.mono ?_;rintro e w1 ⟨rfl,rfl⟩))
 go_ret;exact⟨rfl,HE.out⟩
theorem Ce.count  (h:Ce w wk tb B v L x) (y:Nat):Ce (w.setCell (af wk 2) (ab y)) wk tb B v L y/\A5 w (w.setCell (af wk 2) (ab y)) [wk]:=by
 have hks:A5 w (w.setCell (af wk 2) (ab y)) [wk]:=(A5.refl _ [wk]).setCell (by simp) _;exact⟨⟨AA (j:=2) h.1 _,AC h.2 hks (λg hg hm=>by
  have hm:=mS.1 hm;subst hm;exact h.ne hg)⟩,hks⟩
def D2 (zH:Nat->Nat->Option (List Pt)) (nT t:Nat):List Pt->Nat->Bool × List Pt × Nat
 | [],x=>(t==nT,[],x)
 | .tok u::s,x=>(u==t,s,DR x 1)
 | .zi n::s,x=>match zH n t with
  |some rhs=>(true,rhs.tail++s,DR (DR x 1) 1)
  |none=>(false,s,x)
theorem BE.append {N:NG}{a b:List Pt} (h:BE N a) (k:BE N b):BE N (a++b):=
 ⟨λn hn=>(ig.1 hn).elim (h.1 n) (k.1 n),λt ht=>(ig.1 ht).elim (h.2 t) (k.2 t)⟩
def PQ:List Pt->Nat
 | .zi _::_=>1
 |_=>0
theorem vB (L:List Pt):PQ L<=1:=by unfold PQ;split <;> omega
theorem bM {T:Am} (hT:T.Ok)  (hI:T.In w) (hB:T.Bd B) (hwk:B<=wk) (hW:Ce w wk T.tb B v L x) (hx:x<=939524097) (hL:L.length<=90000) (Ca:BE T.N L)  (ht:t<=T.N.nT):
  Calls Tryz.prog 116 #[ac wk,ab t] w λe w'=>∃v',e=.returned (.bool (D2 T.zH T.N.nT t L x).1)/\Ce w' wk T.tb B v' (D2 T.zH T.N.nT t L x).2.1 (D2 T.zH T.N.nT t L x).2.2/\A5 w w' (wk::v.ownBlock.toList)/\BN w.heap.size v v':=by
 have Cs:wk<w.heap.size:=ak hW.1;have hvl:∀g,v.ownBlock=some g->B<=g/\g<w.heap.size/\g≠wk:=λg hg=>⟨(hW.2.lt g hg).1,(hW.2.lt g hg).2,λe=>hW.ne (by rw[hg,e])⟩
 have HI:Hid (T.In w):=hid hI;have HB:Hid (T.Bd B):=hid hB;have HW:Hid (Ce w wk T.tb B v L x):=hid hW;have HP:Hid (x<=939524097/\L.length+10*PQ L<=90010/\BE T.N L):=hid ⟨hx,by have:=vB L;omega,Ca⟩;obtain⟨res,hres⟩:=qE (D2 T.zH T.N.nT t L x);rw[hres];have agT:=hid hres;have Dx:T.N.nT<=20:=hI.fc.gr.Ch;have hTS:∀n,T.zH n t=none\/∃rhs,T.zH n t=some rhs/\∃rest,rhs=.tok t::rest:=λn=>by
  cases h:T.zH n t with
  |none=>exact .inl rfl
  |some rhs=>exact .inr ⟨rhs,rfl,hT.led n t rhs h⟩
 have HTS:=hid hTS;clear hI hB hW hx Ca hres hL hTS
 go_enter Tryz.func116,Tryz.ntmps116
 go_wp2
 go_loopg [5] (PQ L) (λg p wr=>∃v1 L1 x1,g=PQ L1/\Hid (D2 T.zH T.N.nT t L1 x1=res)/\Hid (Ce wr wk T.tb B v1 L1 x1)/\Hid (A5 w wr (wk::v.ownBlock.toList))/\Hid (BN w.heap.size v v1)/\Hid (x1<=939524097/\L1.length+10*PQ L1<=90010/\BE T.N L1))
 case atStart=>exact⟨v,L,x,rfl,agT,HW,hid (A5.refl _ _),hid (BN.refl _ _),HP⟩
 case round=>
  clear agT HW HP;obtain⟨v1,L1,x1,rfl,hr1,hw1,hk1,hf1,Dn⟩:=hrel;have c0:wr.cell? (af wk 0)=some (ac T.tb):=(A0 hw1.out.1).trans rfl;have c1:wr.cell? (af wk 1)=some v1:=(A0 hw1.out.1).trans rfl;have f1:wr.frozen? (af wk 1)=false:=A7 hw1.out.1;have hwr:wk<wr.heap.size:=ak hw1.out.1;cases L1 with
  |nil=>
   obtain⟨ad,cap,rfl⟩:=hw1.out.2.nil;have Uh:T.In wr:=HI.out.below HB.out (hk1.out.below (by omega) (λq hq=>by
    rcases bk.1 hq with e |e
    ·omega
    ·exact(hvl q Ee).1))
   obtain⟨d0,d1,d2⟩:=Uh.tv.Cq;have Dq:Hid (res=(t==T.N.nT,[],x1)):=hid (by rw[<-hr1.out];rfl);obtain⟨nT,Ac⟩:=qF (T.N.nT);obtain⟨nN,zT⟩:=qF (T.N.nN);rw[<-Ac]at d0 Dq;rw[<-zT]at d1;clear Uh Ac zT hr1 d2
   go_wp2_with (go_at_call 115;refine(N2 _ _ _ _ _ _ _).mono ?_;rintro e w2 ⟨rfl,hb2⟩;have zO:=hid hb2;clear hb2)
   go_ret;have hb2:=zO.out;refine⟨.slice ad 0 cap,?_,?_⟩
   ·rw[Dq.out]
    exact congrArg (λb=>Ending.returned (.bool b)) (by rw[ow];simp;omega)
   ·rw[Dq.out]
    exact⟨hw1.out.keeps (A5.zQ hb2 []) (by simp) (by simp),hk1.out.trans (A5.zQ hb2 _),hf1.out⟩
  |cons p s=>
   obtain⟨g,cap,rfl,Bu,hgB,Er,cb,cm,hsk⟩:=hw1.out.2.top;have Iw:g≠wk:=λe=>hw1.out.ne aaP
   have HSK:=hid hsk;have En:s.length+1<=90010:=by have:=Dn.out.2.1;simp only[lC]at this;omega
   obtain⟨n1,hn1⟩:=qF (s.length);rw[<-hn1]at cb cm c1 En Er;have Nn:=hid hn1;clear hsk hn1;obtain⟨bn,Bp⟩:=qF (AW p);obtain⟨np,hnp⟩:=qF (AV p);rw[<-Bp]at cb;rw[<-hnp]at cm;have hks:A5 wr ((wr.setCell (af wk 1) (ae g n1 cap)).alloc (.cells #[.bool bn,ab np] 235)) [wk]:=((A5.refl wr [wk]).setCell (by simp) _).alloc _;have hw2:Ce ((wr.setCell (af wk 1) (ae g n1 cap)).alloc (.cells #[.bool bn,ab np] 235)) wk T.tb B (ae g n1 cap) s x1:=
    ⟨(dw _ _ _ (by rw[World.size_setCell];exact hwr)).trans (AA (j:=1) hw1.out.1 _),by
     rw[Nn.out];exact AC HSK.out (by rw[<-Nn.out];exact hks) (λq hq hm=>by
      have hm:=mS.1 hm;have hq:g=q:=by simpa[Value.ownBlock] using hq
      omega)⟩
   obtain⟨W2,hW2⟩:=qE ((wr.setCell (af wk 1) (ae g n1 cap)).alloc (.cells #[.bool bn,ab np] 235));have hnb:W2.cell? (af wr.heap.size 0)=some (.bool bn)/\W2.cell? (af wr.heap.size 1)=some (ab np):=by
    rw[<-hW2];have h1:=BK (wr.setCell (af wk 1) (ae g n1 cap)) #[.bool bn,ab np] 235;simp only[World.size_setCell]at h1;exact⟨h1 0,h1 1⟩
   rw[hW2]at hks hw2;have HBN:Hid (bn=AW p/\np=AV p):=hid ⟨Bp,hnp⟩;have hk2:A5 w W2 (wk::v.ownBlock.toList):=hk1.out.trans (hks.mono (λq hq=>by simp[mS.1 hq]));have hf2:BN w.heap.size v (ae g n1 cap):=λq hq=>hf1.out q hq
   have H2:=hid (And.intro hw2 (And.intro hk2 hf2));have m1:W2.cell? (af wk 2)=some (ab x1):=(A0 hw2.1).trans rfl;have HC:Hid (Calls Tryz.prog 171 #[ac wk,ab (1:Nat)] W2 λe w'=>e=.returned (.tuple #[])/\w'=W2.setCell (af wk 2) (ab (DR x1 1))):=hid (RL wk x1 1 Dn.out.1 (by omega) W2 m1 (A7 hw2.1));have Ci:=hid hW2;have Dk:=hid hnb;clear Bp hnp hw2 hk2 hf2 hks m1 hW2 hnb hk1 hf1;cases p with
   |tok u=>
    obtain⟨rfl,rfl⟩:bn=false/\np=u:=HBN.out
    go_upto_region 6 with fail
    rw[Ci.out];have agU:=Dk.out.1;have agV:=Dk.out.2
    go_wp2_with (go_at_call 171;refine HC.out.mono ?_;rintro e w5 ⟨rfl,rfl⟩)
    have Dq:Hid (res=(np==t,s,DR x1 1)):=hid (by rw[<-hr1.out];rfl);go_ret;refine⟨ae g n1 cap,?_,?_⟩
    ·rw[Dq.out]
     exact congrArg (λb=>Ending.returned (.bool b)) (by rw[ow];simp;omega)
    ·rw[Dq.out]
     obtain⟨z1,z2⟩:=H2.out.1.count (DR x1 1);exact⟨z1,H2.out.2.1.trans (z2.mono (λq hq=>by simp[mS.1 hq])),H2.out.2.2⟩
   |zi n=>
    obtain⟨rfl,rfl⟩:bn=true/\np=n:=HBN.out;have zT:np<T.N.nN:=Dn.out.2.2.1 np (ew ..);have Jb:T.In W2:=HI.out.below HB.out (H2.out.2.1.below (by omega) (λq hq=>by
     rcases bk.1 hq with e |e
     ·omega
     ·exact(hvl q Ee).1))
    have hps:BE T.N s:=Dn.out.2.2.tail;have ajs:w.heap.size<=W2.heap.size:=H2.out.2.1.size
    rcases HTS.out np with hrl | ⟨rhs,hrl,rest,Ja⟩
    ·have HO:=hid (uE hT Jb HB.out hwk H2.out.1 Dn.out.1 zT ht hrl)
     have Dq:Hid (res=(false,s,x1)):=hid (by rw[<-hr1.out];simp only[D2,hrl]);clear hrl Jb hps HC
     go_upto_region 8 with fail
     rw[Ci.out];have agU:=Dk.out.1;have agV:=Dk.out.2
     go_wp2_with (go_at_call 172;refine HO.out.mono ?_;rintro e w5 ⟨rfl,Sr,Ag⟩;have H5:=hid (And.intro Sr Ag);clear Sr Ag)
     go_ret;refine⟨ae g n1 cap,?_,?_⟩
     ·rw[Dq.out];rfl
     ·rw[Dq.out]
      exact⟨H5.out.1,H2.out.2.1.trans (H5.out.2.mono (λq hq=>by simp[mS.1 hq])),H2.out.2.2⟩
    ·have ajt:s.length<=100000:=by have:=Nn.out;omega
     have HO:=hid (tH hT Jb HB.out hwk H2.out.1 Dn.out.1 ajt hrl);have hlen:=hT.len np t rhs hrl;subst Ja;have Dq:Hid (D2 T.zH T.N.nT t (Pt.tok t::rest++s) (DR x1 1)=res):=hid (by rw[<-hr1.out];simp[D2,hrl]);have HP5:Hid (DR x1 1<=939524097/\(Pt.tok t::rest++s).length+10*PQ (Pt.tok t::rest++s)<=90010/\BE T.N (Pt.tok t::rest++s)):=hid ⟨vV _ _,by
      have h1:=Dn.out.2.1;have h2:=hlen.1;simp only[lC,lA,PQ,iw]at h1 h2 ⊢;omega,hlen.2.append hps⟩
     clear hrl Jb hps HC hlen
     go_upto_region 8 with fail
     rw[Ci.out];have agU:=Dk.out.1;have agV:=Dk.out.2
     go_wp2_with (go_at_call 172;refine HO.out.mono ?_;rintro e w5 ⟨v5,rfl,Sr,Ag,Lj⟩;have H5:=hid (And.intro Sr (And.intro Ag Lj));clear Sr Ag Lj)
     go_roundg 0
     case measure=>simp[PQ]
     case rel=>exact⟨v5,_,_,rfl,Dq,hid H5.out.1,hid (H2.out.2.1.fresh H5.out.2.1 H2.out.2.2 (zn _)),hid (H2.out.2.2.trans H5.out.2.2 ajs),HP5⟩
theorem YF {T:Am} (hI:T.In w):
  Calls Tryz.prog 93 #[ac T.tb] w λe w'=>∃wk v,e=.returned (ac wk)/\w.heap.size<=wk/\Ce w' wk T.tb w.heap.size v [.zi 0] 0/\Below w.heap.size w w':=by
 obtain⟨d0,d1,_⟩:=hI.tv.Cq;obtain⟨nT,Ac⟩:=qF (T.N.nT);obtain⟨nN,zT⟩:=qF (T.N.nN);rw[<-Ac]at d0;rw[<-zT]at d1;clear hI Ac zT
 go_enter Tryz.func93,Tryz.ntmps93
 go_wp2_with (go_at_call 118;refine(O3 _ _ _).mono ?_;rintro e w2 ⟨rfl,hb2⟩;have zO:=hid hb2;clear hb2)
 go_ret;have hs:=zO.out.size;refine⟨w2.heap.size+1,ae w2.heap.size 1 1,rfl,by omega,⟨?_,rfl,.inr ⟨w2.heap.size,1,#[.bool true,ab 0],rfl,hs,?_,by decide,by decide,rfl,rfl⟩⟩,?_⟩
 ·exact PB w2 _ _ _ _
 ·exact(dw _ _ _ Kk).trans (bg w2 _)
 ·exact(zO.out.alloc hs _).alloc Kk _
end Go.Proofs.YtjjggdcnpndgjaaGreatDoor
