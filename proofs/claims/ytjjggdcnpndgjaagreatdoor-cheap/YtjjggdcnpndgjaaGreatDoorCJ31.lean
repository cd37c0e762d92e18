import Derived.Test.YtjjggdcnpndgjaaGreatDoorCJ30
set_option linter.unusedSimpArgs false
set_option maxHeartbeats 8000000
set_option maxRecDepth 100000
namespace Go.Proofs.YtjjggdcnpndgjaaGreatDoor
open Go.RowKit Go.Shelf
section
theorem Tryz.infoB346:(Tryz.prog.info? 346).map (λi=>(i.zero,i.size,i.bytes))=some (some (.agg #[.bool false,.bool false,ab 0]),3,24):=by kernel_rfl
theorem Tryz.infoX45:(Tryz.prog.info? 45).map (λi=>(i.zero,i.size,i.bytes))=some (some (.slice none 0 0),1,24):=by kernel_rfl
def TC (o:Option Pt):List Value:=[.bool o.isNone,.bool (MF o),ab (MC o)]
def FU (l:List (Option Pt)):List Value:=l.flatMap TC
theorem X2 (a b:List (Option Pt)):FU (a++b)=FU a++FU b:=by unfold FU;rw[mo]
theorem fT (o:Option Pt):FU [o]=TC o:=by unfold FU;simp
def DB (s:List (Option Pt) × (Nat->List Nat)) (r:Nat × List Pt):List (Option Pt) × (Nat->List Nat):=
 (s.1++r.2.map some++ [none],λm=>if m=r.1 then s.2 m++ [s.1.length]else s.2 m)
structure I5 (w:World) (B wb gh:Nat) (c0 c1 c2:Value) (nN:Nat) (vT:Value) (hv:Nat->Value) (zK:List (Option Pt)) (hds:Nat->List Nat):Prop where
 blk:w.heap[wb]?=some (.cells #[c0,c1,c2,vT,ae gh nN nN,.slice none 0 0] 306 (0,0))
 tl:w.ownsRow B 346 3 vT zK.length (FU zK)
 hb:∃cs,w.heap[gh]?=some (.cells cs 45 (0,0))/\cs.size=nN/\∀n,n<nN->cs[n]?=some (hv n)
 hi:∀n,n<nN->DQ w B (hv n) (hds n)
 ap:∀n m,n<nN->m<nN->n≠m->∀g,(hv n).ownBlock=some g->(hv m).ownBlock≠some g
 ghB:B<=gh
 Xt:wb<B
section
variable {w w':World}{B wb gh nN:Nat}{c0 c1 c2 vT:Value}{hv:Nat->Value}{zK:List (Option Pt)}{hds:Nat->List Nat}
def I5.S (_:I5 w B wb gh c0 c1 c2 nN vT hv zK hds) (k:Nat):Prop:=k=wb\/k=gh\/vT.ownBlock=some k\/∃n,n<nN/\(hv n).ownBlock=some k
theorem I5.keeps {S:List Nat} (h:I5 w B wb gh c0 c1 c2 nN vT hv zK hds) (hk:A5 w w' S) (hS:∀k∈S,¬h.S k):I5 w' B wb gh c0 c1 c2 nN vT hv zK hds where
 blk:=(hk.block wb (ak h.blk) (λhm=>hS _ hm (.inl rfl))).trans h.blk
 tl:=AC h.tl hk (λg hg hm=>hS _ hm (.inr (.inr (.inl hg))))
 hb:=by
  obtain⟨cs,h1,h2⟩:=h.hb;exact⟨cs,(hk.block gh (ak h1) (λhm=>hS _ hm (.inr (.inl rfl)))).trans h1,h2⟩
 hi:=λn hn=>AC (h.hi n hn) hk (λg hg hm=>hS _ hm (.inr (.inr (.inr ⟨n,hn,hg⟩))))
 ap:=h.ap
 ghB:=h.ghB
 Xt:=h.Xt
theorem I5.kinds (h:I5 w B wb gh c0 c1 c2 nN vT hv zK hds) {k:Nat} (hk:h.S k):∃c e f,w.heap[k]?=some (.cells c e f):=by
 rcases hk with rfl |rfl |hk | ⟨n,hn,hk⟩
 ·exact⟨_,_,_,h.blk⟩
 ·obtain⟨cs,h1,_⟩:=h.hb;exact⟨_,_,_,h1⟩
 ·obtain⟨c,hc⟩:=BQ h.tl hk;exact⟨_,_,_,hc⟩
 ·obtain⟨c,hc⟩:=BQ (h.hi n hn) hk;exact⟨_,_,_,hc⟩
theorem I5.step {row:Option Nat} (h:I5 w B wb gh c0 c1 c2 nN vT hv zK hds) (hg:w.grownBy w' row) (hr:∀r,row=some r->∃o:Obj,w.heap[r]?=some o/\o.isCells=false):I5 w' B wb gh c0 c1 c2 nN vT hv zK hds:=by
 refine h.keeps ((A5.refl w row.toList).grown hg (λk e=>.inl Mv)) (λk hk hS=>?_);obtain⟨c,e,f,h1⟩:=h.kinds hS;obtain⟨o,h2,h3⟩:=hr k (by simpa using hk);rw[h1]at h2;injection h2 with h2
 subst h2;cases h3
theorem I5.tail {Wa w1:World}{v':Value}{o:Option Pt} (h:I5 w B wb gh c0 c1 c2 nN vT hv zK hds) (hka:A5 w Wa []) (hgrow:Wa.grownBy w1 vT.ownBlock) (hown:w1.ownsRow B 346 3 v' (zK.length+1) (FU zK++TC o)):
  w1.heap[wb]?=some (.cells #[c0,c1,c2,vT,ae gh nN nN,.slice none 0 0] 306 (0,0))/\I5 (w1.setCell (af wb 3) v') B wb gh c0 c1 c2 nN v' hv (zK++ [o]) hds/\A5 w (w1.setCell (af wb 3) v') (wb::vT.ownBlock.toList):=by
 obtain⟨z1,z2,z3,z4⟩:=EY (j:=3) hka h.blk (by decide) h.tl hown hgrow;obtain⟨cs,Bw,hg2⟩:=h.hb;have Iw:gh∉wb::vT.ownBlock.toList:=λhm=>by
  rcases bk.1 hm with e |e
  ·have:=h.ghB;have:=h.Xt;omega
  ·exact A9 h.tl Bw (by decide) Ee
 refine⟨z1,⟨z2,?_,⟨cs,(z4.block gh (ak Bw) Iw).trans Bw,hg2⟩,λn hn=>AC (h.hi n hn) z4 (λg hg hm=>?_),h.ap,h.ghB,h.Xt⟩,z4⟩
 ·rw[lA,fu,X2,fT]
  exact z3
 ·rcases bk.1 hm with e |e
  ·have:=((h.hi n hn).lt g hg).1;have:=h.Xt;omega
  ·exact GQ (h.hi n hn) h.tl (by decide) hg Ee
theorem I5.head {Wa w1:World}{v':Value}{n x:Nat} (h:I5 w B wb gh c0 c1 c2 nN vT hv zK hds) (hn:n<nN) (hka:A5 w Wa []) (hgrow:Wa.grownBy w1 (hv n).ownBlock) (hown:w1.ownsRow B 3 1 v' ((hds n).length+1) (DJ (hds n)++ [ab x])) (hfr:BN w.heap.size (hv n) v'):
  (∃cs,w1.heap[gh]?=some (.cells cs 45 (0,0))/\cs[n]?=some (hv n))/\I5 (w1.setCell (af gh n) v') B wb gh c0 c1 c2 nN vT (λm=>if m=n then v' else hv m) zK (λm=>if m=n then hds m++ [x]else hds m)/\A5 w (w1.setCell (af gh n) v') (gh::(hv n).ownBlock.toList):=by
 obtain⟨cs,Bw,hg2,hg3⟩:=h.hb;obtain⟨z1,z2,z3,z4⟩:=EY (j:=n) hka Bw (by decide) (h.hi n hn) hown hgrow;refine⟨⟨cs,z1,hg3 n hn⟩,⟨(z4.block wb (ak h.blk) (λhm=>?_)).trans h.blk,AC h.tl z4 (λg hg hm=>?_),⟨_,z2,by simpa using hg2,λm hm=>?_⟩,λm hm=>?_,λm m' hm hm' hne g hg=>?_,h.ghB,h.Xt⟩,z4⟩
 ·rcases bk.1 hm with e |e
  ·have:=h.ghB;have:=h.Xt;omega
  ·have:=((h.hi n hn).lt wb Ee).1;have:=h.Xt;omega
 ·rcases bk.1 hm with e |e
  ·subst e;exact A9 h.tl Bw (by decide) hg
  ·exact GQ h.tl (h.hi n hn) (by decide) hg Ee
 ·by_cases e:m=n
  ·subst e
   rw[ay rfl,rj,ay rfl,ay (by omega)]
  ·rw[aq e,eu (yB e)]
   exact hg3 m hm
 ·by_cases e:m=n
  ·subst e
   simp only[ay];unfold DQ;rw[lA,GW];exact z3
  ·simp only[aq e]
   refine AC (h.hi m hm) z4 (λg hg Rc=>?_)
   rcases bk.1 Rc with e2 |e2
   ·subst e2;exact A9 (h.hi m hm) Bw (by decide) hg
   ·exact h.ap m n hm hn e g hg (by simpa using e2)
 ·have hlt:∀k,k<nN->∀g,(hv k).ownBlock=some g->g<w.heap.size:=λk hk g hg=>D8 (h.hi k hk) hg
  show(if m'=n then v' else hv m').ownBlock≠some g;have hg:(if m=n then v' else hv m).ownBlock=some g:=hg
  by_cases e:m=n
  ·rw[ay e]at hg
   rw[aq (by omega)]
   rcases hfr g hg with h1 |h1
   ·exact h.ap n m' hn hm' (by omega) g h1
   ·intro h2;have:=hlt m' hm' g h2;omega
  ·rw[aq e]at hg
   by_cases e2:m'=n
   ·rw[ay e2]
    intro h2
    rcases hfr g h2 with h1 |h1
    ·exact h.ap m n hm hn e g hg h1
    ·have:=hlt m hm g hg;omega
   ·rw[aq e2]
    exact h.ap m m' hm hm' hne g hg
end
end
section
attribute [local go_sem] Oper.semAt_some
def BH (l:List (Nat × List Pt)):List (Option Pt) × (Nat->List Nat):=l.foldl DB ([],λ_=>[])
theorem TK (l:List (Nat × List Pt)) (r:Nat × List Pt):BH (l++ [r])=DB (BH l) r:=by unfold BH;rw[ux];rfl
theorem T1:∀(l:List (Nat × List Pt)) (s:List (Option Pt) × (Nat->List Nat)),(∀r∈l,r.2.length<=8)->(l.foldl DB s).1.length<=s.1.length+9*l.length/\∀n,((l.foldl DB s).2 n).length<=(s.2 n).length+l.length
 | [],s,_=>⟨by simp,λn=>by simp⟩
 |r::l,s,h=>by
  obtain⟨h1,h2⟩:=T1 l (DB s r) (λx hx=>h x (gj _ hx));have h3:=h r (ew ..);rw[lz];refine⟨?_,λn=>?_⟩
  ·have e:(DB s r).1.length=s.1.length+r.2.length+1:=by simp[DB];omega
   simp only[lC];omega
  ·have e:((DB s r).2 n).length<=(s.2 n).length+1:=by
    simp only[DB];split
    ·simp
    ·omega
   have:=h2 n;simp only[lC];omega
theorem A5.over {a b c:World}{S S':List Nat} (h:A5 a b S) (k:A5 b c S') (hS:∀q∈S',q∈S\/a.heap.size<=q):A5 a c S:=
 ⟨k.os.trans h.os,k.tape.trans h.tape,k.output.trans h.output,zV h.size k.size,λq hq hm=>(k.block q (lL hq h.size) (λh1=>by
  rcases hS q h1 with e |e
  ·exact hm e
  ·omega)).trans (h.block q hq hm)⟩
theorem S9 (l:List (Nat × List Pt)) (h:∀r∈l,r.2.length<=8):(BH l).1.length<=9*l.length/\∀n,((BH l).2 n).length<=l.length:=by
 obtain⟨h1,h2⟩:=T1 l ([],λ_=>[]) h;unfold BH;exact⟨by simpa using h1,λn=>by simpa using h2 n⟩
theorem aP {T:Am}{w:World} (hI:T.In w) {wb:Nat}{rv vd:Value} (hwb:w.heap[wb]?=some (.cells #[ac T.tb,rv,vd,.slice none 0 0,.slice none 0 0,.slice none 0 0] 306 (0,0))) (hBw:T.Bd wb):
  Calls Tryz.prog 188 #[ac wb] w λe w'=>e=.returned (.tuple #[])/\∃gh vT hv,I5 w' w.heap.size wb gh (ac T.tb) rv vd T.N.nN vT hv (BH T.N.rules).1 (BH T.N.rules).2/\A5 w w' [wb]:=by
 obtain⟨iT,hiT,ac0,ac1,ac2⟩:=iy Tryz.infoB346;obtain⟨iI,Ii,Ij,Ik,Il⟩:=iy Tryz.infoX3;obtain⟨iS,Gu,Gv,Gw,Gx⟩:=iy Tryz.infoX45;have Cs:wb<w.heap.size:=ak hwb;obtain⟨d0,d1,_⟩:=hI.tv.Cq;have Bo:=hI.bd;have Dh:T.tb<w.heap.size:=Bo.tb;have Bi:=hI.fc.gr.Dm;have aj4:=hI.fc.gr.Nh;have Vb:Hid (T.In w):=hid hI;obtain⟨nN,zT⟩:=qF (T.N.nN);have Fz:=hid zT;rw[<-zT]at d1 Bi ⊢;clear hI zT;refine(nk (n:=4)).1 ?_;refine qw Tryz.func188 rfl trivial ?_ rfl;simp only[Tryz.ntmps188,jf,lC,jd,Nat.reduceAdd,Nat.reduceSub,jm,jo,jy,jr,ey,iw];have bx:=bg w (.cells #[ac wb] 270);obtain⟨w1,hw1⟩:=qE (w.alloc (.cells #[ac wb] 270));have hk1:A5 w w1 []:=by rw[<-hw1];exact(A5.refl w []).alloc _
 have hs1:w.heap.size<w1.heap.size:=by rw[<-hw1,bh];omega
 have Hs:=hid hw1;rw[hw1]at bx;clear hw1;have ab6:=(hk1.block wb Cs (by simp)).trans hwb;have e0:w1.cell? (af wb 0)=some (ac T.tb):=(A0 ab6).trans rfl;have e4:w1.cell? (af wb 4)=some (.slice none 0 0):=(A0 ab6).trans rfl;have f4:w1.frozen? (af wb 4)=false:=A7 ab6;have d1':=(hk1.cell (p:=(af T.tb 1)) (by exact Dh) (by simp)).trans d1
 gi_wp2_with fail
 rw[Hs.out];refine KQ ((xz (n:=4)).2 ?_);refine AH (λw'=>w'.cell? (af w.heap.size 0)=some (ac wb)/\w'.cell? (af wb 0)=some (ac T.tb)/\w'.cell? (af T.tb 1)=some (ae T.gN nN T.yQ)) hmx yM ⟨(A0 bx).trans rfl,e0,d1'⟩ (λhH=>?_);simp only[AG,BP,AR];refine tB 0 hH ?_;refine tB 1 hH ?_;refine tB 2 hH ?_;refine tB 3 hH ?_;refine tB 4 hH ?_;refine tB 5 hH ?_;refine tB 6 hH ?_;refine tB 7 hH ?_;refine tB 8 hH ?_;refine tB 9 hH ?_;refine tB 10 hH ?_;refine tL ?_;refine tS 11 λK hK=>?_
 refine tM ?_;rw[ay (by rfl)];refine GK _ (.tmp 16) (.tmp 16) 60 rfl 45 iS (.slice none 0 0) Tryz.underlying60 Gu Gv nN rfl rfl (by rw[Gx];omega) (by omega) ?_;rw[Gw];refine hK.out _ _ ?_ λhH=>?_
 ·exact⟨A6 _ hH.1,A6 _ hH.2.1,A6 _ hH.2.2⟩
 clear hK K;refine tL ?_;refine tB 12 hH ?_;refine tB 13 hH ?_;refine tB 14 hH ?_;refine tL ?_;refine bq yM ?_ _;clear hH;have hmk:w1.drew.alloc (.cells (madeCells (Value.slice none 0 0).cells (nN*1)) 45)=(w1.alloc (.cells (madeCells #[.slice none 0 0] nN) 45)).drew:=by rw[yG];rfl
 rw[hmk];clear hmk;obtain⟨W2,hW2⟩:=qE ((w1.alloc (.cells (madeCells #[.slice none 0 0] nN) 45)).drew);have hk2:A5 w1 W2 []:=by rw[<-hW2];exact((A5.refl w1 []).alloc _).drew
 have aeZ:W2.heap[w1.heap.size]?=some (.cells (madeCells #[.slice none 0 0] nN) 45 (0,0)):=by rw[<-hW2];exact bg w1 _
 have hs2:w1.heap.size<W2.heap.size:=ak aeZ;rw[hW2];have adw:=(hk2.block wb (by omega) (by simp)).trans ab6;have e4':W2.cell? (af wb 4)=some (.slice none 0 0):=(A0 adw).trans rfl;have f4':W2.frozen? (af wb 4)=false:=A7 adw;have Zu:=(hk2.block w.heap.size hs1 (by simp)).trans bx;have HX:=hid (And.intro (hk1.trans hk2) (And.intro adw aeZ));clear hW2 hk2 aeZ adw e0 e4 f4 d1' hk1 ab6;show wpList _ _ _ _ _ _;go_wp2;obtain⟨W3,hW3⟩:=qE (W2.setCell (af wb 4) (ae w1.heap.size nN nN));have hk3:A5 W2 W3 [wb]:=by rw[<-hW3];exact(A5.refl W2 [wb]).setCell (by simp) _
 have hb3:W3.heap[wb]?=some (.cells #[ac T.tb,rv,vd,.slice none 0 0,ae w1.heap.size nN nN,.slice none 0 0] 306 (0,0)):=by rw[<-hW3];exact AA (j:=4) HX.out.2.1 _
 rw[hW3];clear hW3;refine FH (Q:=λ_ _ _=>False) ?_;have ae0:A5 w W3 [wb]:=(HX.out.1.mono (λq h=>by cases h)).trans hk3;have hI3:T.In W3:=Vb.out.below (B:=wb) hBw (ae0.below (by omega) (λq hq=>by rw[mS.1 hq];exact zn _));have HC3:Hid (I5 W3 w.heap.size wb w1.heap.size (ac T.tb) rv vd nN (.slice none 0 0) (λ_=>.slice none 0 0) (BH []).1 (BH []).2):=hid
  ⟨hb3,jg _ _ _ _,⟨_,(hk3.block _ hs2 zG).trans HX.out.2.2,by simp[vh],λn hn=>by simp[madeCells,hn,Nat.mod_one]⟩,λn hn=>jg _ _ _ _,λn m _ _ _ g hg=>by simp[Value.ownBlock]at hg,by omega,Cs⟩
 have ahe:W3.heap[w.heap.size]?=some (.cells #[ac wb] 270 (0,0)):=(hk3.block w.heap.size (by omega) zG).trans Zu;have bx3:W3.cell? (af w.heap.size 0)=some (ac wb):=(A0 ahe).trans rfl;have e03:W3.cell? (af wb 0)=some (ac T.tb):=(A0 hb3).trans rfl;obtain⟨g0,g1,_⟩:=hI3.tv.Cq;rw[<-Fz.out]at g1;have hs3:w1.heap.size<W3.heap.size:=by have:=hk3.size;omega
 have Ns:=hid hI3;have aj5:=hid ae0;clear hI3 ae0 hk3 hb3
 gi_wp2_with (refine⟨trivial,?_⟩;gi_at_call 130;refine(TO Fence.wide 3 trivial rfl _ _ _ _ _ _ _).mono ?_;rintro e W4' ⟨rfl,rfl⟩)
 have Vz:=BK W3 #[.slice T.yZ T.N.nT T.yT,ae T.gN nN T.yQ] 135 1;obtain⟨W4,Be⟩:=qE (W3.alloc (.cells #[.slice T.yZ T.N.nT T.yT,ae T.gN nN T.yQ] 135));have hk4:A5 W3 W4 []:=by rw[<-Be];exact(A5.refl W3 []).alloc _
 have Fx:W3.heap.size<W4.heap.size:=by rw[<-Be,bh];omega
 rw[Be]at Vz ⊢;have bx4:=(hk4.block w.heap.size (by omega) (by simp)).trans ahe;have Iy:=hid (HC3.out.keeps hk4 (λk h=>by cases h));have aj6:Hid (A5 w W4 [wb]):=hid (aj5.out.trans (hk4.mono (λq h=>by cases h)));clear Be bx3 e03 g0 g1;have Vz:W4.cell? (af W3.heap.size 1)=some (ae T.gN T.N.nN T.yQ):=by rw[<-Fz.out];exact Vz.trans rfl
 refine xm (F:=Fence.wide) rfl (by omega) (gf:=183) (lb:= #[ac W3.heap.size]) rfl trivial (rq Tryz.func183 yM rfl)
  (O8 Fence.wide 3 trivial rfl (by omega) W3.heap.size T.n0 T.N T.zy T.pg T.yZ T.yT T.gN T.yQ W3 W4 Ns.out.fc.gr (hk4.below Ns.out.fc.ln (λq h=>by cases h)) Ns.out.fc.ln (by omega) Vz) belowK_t (yK (by have:=Ns.out.fc.ln;omega)) (ah _ _) (λ_=>rfl)
  (fun(pre:List (RI T.N W3 T.n0)) W=>∃vT hv,I5 W w.heap.size wb w1.heap.size (ac T.tb) rv vd nN vT hv (BH (pre.map λx=>x.1.1)).1 (BH (pre.map λx=>x.1.1)).2/\A5 w W [wb]/\W.heap[w.heap.size]?=some (.cells #[ac wb] 270 (0,0))/\W4.heap.size<=W.heap.size/\Below T.n0 W3 W) (λ_ _ _=>False)
  ?own (λ_ _ _ _ _ hs _ _=>hs) ⟨.slice none 0 0,λ_=>.slice none 0 0,Iy.out,aj6.out,bx4,zn _,hk4.below Ns.out.fc.ln (λq h=>by cases h)⟩
  (λx=>{tmps:= #[ac wb,ac w.heap.size,ab (x.1.1.1:Int),x.1.2,undef,undef,ac wb,ac wb,ac wb,ac wb,ac T.tb,ac T.tb,ac T.tb,ac T.tb,.pointer (some (af T.tb 1)),ae T.gN nN T.yQ,ab nN,ae w1.drew.heap.size nN nN,ac wb,.pointer (some (af wb 4)),ac wb,ac wb,ac wb,ac T.tb,ac T.tb,ac T.tb,ac T.tb,.agg #[.slice T.yZ T.N.nT T.yT,ae T.gN nN T.yQ],.func (.func 183) #[] #[ac W3.heap.size],ab (x.1.1.1:Int),x.1.2,undef,undef,undef,undef,undef,undef,undef,undef,undef,undef,undef,undef,undef,undef,undef,undef,undef,undef,undef,undef,undef,undef,undef,undef,undef,undef,undef,undef,undef,undef,undef,undef,undef,undef,undef,undef,undef,undef,undef,undef,undef,undef,undef,undef,undef,undef,undef,undef],defers:=[]}) ?assign ?body ?done ?stop
 case own=>
  rintro pre A C row ⟨vT,hv,h1,h2,h3,h4,h5⟩ hg hr;have hk:A5 A C row.toList:=(A5.refl A row.toList).grown hg (λq e=>.inl Mv);refine⟨vT,hv,h1.step hg (λr e=>(hr r e).2),h2.grown hg (λr e=>.inr (by have:=(hr r e).1;omega)),(hk.block w.heap.size (ak h3) (λhm=>by have:=(hr _ aaK).1;omega)).trans h3,zV h4 hg.size,h5.grown hg (by have:=Ns.out.fc.ln;omega) (λq e=>by have:=(hr q e).1;have:=Ns.out.fc.ln;omega)⟩
 case assign=>
  intro l x W' K hK;simp only[XJ]
  gi_wp2
  exact hK
 case body=>
  rintro l pre ⟨⟨⟨n,ps⟩,pv⟩,hx⟩ W ⟨vT,hv,h1,h2,h3,h4,h5⟩ hlt;have hxr:(n,ps)∈T.N.rules:=hx.1;have zT:n<nN:=by rw[Fz.out];exact Ns.out.fc.gr.ok.lt _ hxr
  have hp8:ps.length<=8:=Ns.out.fc.gr.ok.parts _ hxr;have hpW:D1 W T.n0 pv ps:=hx.2.below h5;have hsm:=S9 (pre.map λx=>x.1.1) (λr hr=>by
   obtain⟨y,_,rfl⟩:=dm.1 hr;exact Ns.out.fc.gr.ok.parts _ y.2.1)
  rw[lM]at hsm;have hT:BH ((pre++ [(⟨((n,ps),pv),hx⟩:RI T.N W3 T.n0)]).map λx=>x.1.1)=DB (BH (pre.map λx=>x.1.1)) (n,ps):=by
   rw[fq,List.map_singleton,TK]
  obtain⟨⟨zK,hds⟩,hth⟩:∃z,BH (pre.map λx=>x.1.1)=z:=⟨_,rfl⟩;rw[hth]at hT h1 hsm;simp only at h1 hsm hlt ⊢;have HCT:=hid hT;obtain⟨ad,cap,rfl,hcap,Mz⟩:=hpW;obtain⟨kT,hkT⟩:=qE (zK.length);obtain⟨kH,hkH⟩:=qE ((hds n).length);have ame:kT<=540:=by omega
  have amf:kH<=60:=by have:=hsm.2 n;omega
  obtain⟨yZ,yT,rfl,hcT⟩:∃ad cap,vT=.slice ad kT cap/\kT<=cap:=by rw[<-hkT];exact BV h1.tl
  have hrow:W.ownsRow w.heap.size 3 1 (hv n) kH (DJ (hds n)):=by rw[<-hkH];exact h1.hi n zT
  obtain⟨vH,hvH⟩:=qE (hv n);have cB:W.cell? (af w.heap.size 0)=some (ac wb):=(A0 h3).trans rfl;have c3:W.cell? (af wb 3)=some (.slice yZ kT yT):=(A0 h1.blk).trans rfl;have c4:W.cell? (af wb 4)=some (ae w1.heap.size nN nN):=(A0 h1.blk).trans rfl;have cn:W.cell? (af w1.heap.size n)=some vH:=by
   obtain⟨cs,hc1,hc2,hc3⟩:=h1.hb;rw[<-hvH];exact(A0 hc1).trans (hc3 n zT)
  obtain⟨csg,hcg,_,_⟩:=h1.hb;rw[hvH]at hrow;have Sn:some w.heap.size≠vH.ownBlock:=λe=>A9 hrow h3 (by decide) e.symm
  have ogG:some w1.heap.size≠vH.ownBlock:=λe=>A9 hrow hcg (by decide) e.symm
  have ogW:some wb≠vH.ownBlock:=λe=>by have:=(hrow.lt wb e.symm).1;omega
  have hlG:w1.heap.size<W.heap.size:=ak hcg;have HPc:=hid Mz;have Dl:=hid hrow;have HC:=hid h1;have HK:=hid h2;have HB:=hid h3;have Ep:=hid h5;have Lm:=hid (And.intro hkT (And.intro hkH hvH));have hni:((n:Int)< (nN:Int)):=by omega
  clear hxr Mz hsm hT hth hkT hkH hvH hrow h1 h2 h3 h5 hcg
  gi_wp2
  refine CV (λw'=>w'.cell? (af w.heap.size 0)=some (ac wb)/\w'.cell? (af wb 3)=some (.slice yZ kT yT)/\w'.cell? (af wb 4)=some (ae w1.heap.size nN nN)/\w'.cell? (af w1.heap.size n)=some vH) hmx yM Lv yM ⟨cB,c3,c4,cn⟩ (λhH=>?_);simp only[AG,BP,AR];refine tB 0 hH ?_;refine tB 1 hH ?_;refine tB 2 hH ?_;refine tB 3 hH ?_;refine tB 4 hH ?_;refine tB 5 hH ?_;refine tB 6 hH ?_;refine tB 7 hH ?_;refine tB 8 hH ?_;refine tB 9 hH ?_;refine tB 10 hH ?_;refine tB 11 hH ?_;refine tB 12 hH ?_;refine tB 13 hH ?_;refine tB 14 hH ?_;refine tB 15 hH ?_;refine tB 16 hH ?_;refine tL ?_;refine tS 17 λK hK=>?_
  refine tM ?_;go_simp;refine hK.out _ _ ?_ λhH=>?_
  ·exact⟨A6 _ hH.1,A6 _ hH.2.1,A6 _ hH.2.2.1,A6 _ hH.2.2.2⟩
  clear hK K;refine tL ?_;refine tS 18 λK hK=>?_
  refine tM ?_;rw[ay (by rfl)];refine mq _ (.tmp 42) (.tmp 48) 45 rfl w.heap.size 3 iI (ab 0) 1 8 Tryz.underlying45 Ii Ij Ik Il rfl (by decide) vH _ _ rfl (Dl.out.alloc _) (af W.heap.size 0) 1 1 [ab kT] rfl rfl (dn (fr:=(0,0)) (dz W _)) Gl (by omega) Bg (by omega) zG _ rfl ?_;intro g2 cap2 w7 hown hgrow hat Cu;refine hK.out _ _ ?_ λhH=>?_
  ·exact⟨(hgrow.cell_far _ zG (by exact Sn)).trans hH.1,(hgrow.cell_far _ zG Yp).trans hH.2.1,(hgrow.cell_far _ zG Yp).trans hH.2.2.1,(hgrow.cell_far _ zG (by exact ogG)).trans hH.2.2.2⟩
  clear hK K;refine tL ?_;refine tB 19 hH ?_;refine tB 20 hH ?_;refine tL ?_;refine bq yM ?_ _;clear hH;obtain⟨z1,z2,z3⟩:=HC.out.head (x:=kT) zT (Wa:=(W.alloc (.cells #[ab kT] 3)).drew) ((A5.refl W []).alloc _).drew (by rw[Lm.out.2.2];exact hgrow) (by rw[Lm.out.2.1];exact hown) (λg hg=>by
   obtain rfl:g2=g:=by simpa[Value.ownBlock] using hg
   rcases hat with h4 |h4
   ·exact .inl (by rw[Lm.out.2.2];exact h4)
   ·exact .inr aaM)
  obtain⟨cs1,hc1,hc2⟩:=z1;have zc:w7.cell? (af w1.heap.size n)=some (hv n):=(A0 hc1).trans hc2;have zf:=A7 (j:=n) hc1;have HZ:=hid (And.intro z2 z3);clear z2 z3 hc1 hc2 hown hgrow hat Cu cB c3 c4 cn;show wpList _ _ _ _ _ _;go_wp2;obtain⟨W5,Bj⟩:=qE (w7.setCell (af w1.heap.size n) (ae g2 (kH+1) cap2));rw[Bj]at HZ ⊢;clear Bj zc zf;obtain⟨hv',ahf⟩:=qE ((λm=>if m=n then ae g2 (kH+1) cap2 else hv m));obtain⟨ahg,ae1⟩:=qE ((λm=>if m=n then hds m++ [kT]else hds m));rw[ahf,ae1]at HZ;have Nb:=hid HZ.out.1;have Hq:=hid HZ.out.2;have aj7:=hid ae1;have Ec:∀q∈w1.heap.size::(hv n).ownBlock.toList,w.heap.size<q:=λq hq=>by
   rcases bk.1 hq with e |e
   ·omega
   ·have e:(hv n).ownBlock=some q:=by simpa using e
    have e1:=((HC.out.hi n zT).lt q e).1;have e2:w.heap.size≠q:=λe3=>Sn (by rw[e3,<-Lm.out.2.2,e])
    omega
  have Av:Hid (W5.heap[w.heap.size]?=some (.cells #[ac wb] 270 (0,0))):=hid ((Hq.out.block w.heap.size (by omega) (λhm=>by have:=Ec _ hm;omega)).trans HB.out);have hs5:=Hq.out.size;have ae2:Hid (Below T.n0 W W5):=hid (Hq.out.below acG (λq hq=>by have:=Ec q hq;have:=Bo.n0;omega));clear ahf ae1 HZ
  gi_wp2
  gi_loopw [53] (λz wr=>∃(i:Nat) (Hw:Value),i<=ps.length/\z=ab i/\Hid (I5 wr w.heap.size wb w1.heap.size (ac T.tb) rv vd nN Hw hv' (zK++(ps.take i).map some) ahg)/\Hid (A5 W5 wr (wb::(Value.slice yZ kT yT).ownBlock.toList))/\Hid (BN W5.heap.size (.slice yZ kT yT) Hw)) (λz _=>ps.length - (intOf z).toNat)
  case atStart=>exact⟨0,_,dh _,rfl,hid (by simpa using Nb.out),hid (A5.refl _ _),hid (BN.refl _ _)⟩
  case round=>
   obtain⟨i,Hw,hi,rfl,hcv,zW,hfr⟩:=hrel
   by_cases Cu:i<ps.length
   ·obtain⟨p,hp⟩:∃p,ps[i]?=some p:=⟨_,gE Cu⟩
    obtain⟨g,off,rfl,Td,Er⟩:=HPc.out (by omega);have hbr:Below T.n0 W wr:=ae2.out.trans (zW.out.below acG (λq hq=>by
     rcases bk.1 hq with e |e
     ·rw[e];exact hBw.n0
     ·have:=(HC.out.tl.lt q Ee).1;have:=Bo.n0;omega))
    obtain⟨q1,q2⟩:=Er i p hp;have Sk:=(hbr.cell (p:=(af g (off+i*2))) (by exact Td)).trans q1;have Sm:=(hbr.cell (p:=(af g (off+i*2+1))) (by exact Td)).trans q2;have HP:=hid hp;have HTC:Hid (TC (some p)=[.bool false,.bool (AW p),ab (AV p)]):=hid rfl;obtain⟨bp,Sq⟩:=qE (AW p);obtain⟨np,hnp⟩:=qE (AV p);rw[Sq,hnp]at HTC;rw[Sq]at Sk;rw[hnp]at Sm;clear hbr q1 q2 Er hp Sq hnp
    gi_wp2
    obtain⟨w8,hw8⟩:=qE (wr.alloc (.cells #[.bool bp,ab np] 235));have Ho:A5 wr w8 []:=by rw[<-hw8];exact(A5.refl wr []).alloc _
    have adx:w8.heap[wr.heap.size]?=some (.cells #[.bool bp,ab np] 235 (0,0)):=by rw[<-hw8];exact bg wr _
    have hz8:wr.heap.size<w8.heap.size:=ak adx;rw[hw8];have Xu:=hid (hcv.out.keeps Ho (λk h=>by cases h));have Ql:Hid (A5 W5 w8 (wb::(Value.slice yZ kT yT).ownBlock.toList)):=hid (zW.out.trans (Ho.mono (λq h=>by cases h)));have ahh:some wr.heap.size≠Hw.ownBlock:=λe=>by have:=D8 hcv.out.tl e.symm;omega
    have cq0:=(A0 (j:=0) adx).trans rfl;have cq1:=(A0 (j:=1) adx).trans rfl;obtain⟨kk,hkk⟩:=qE ((zK++(ps.take i).map some).length);have aj8:kk<=548:=by rw[<-hkk,lA,lM,nh,Lm.out.1];omega
    have Vf:w8.ownsRow w.heap.size 346 3 Hw kk (FU (zK++(ps.take i).map some)):=by rw[<-hkk];exact Xu.out.tl
    have Cm:w8.heap[w.heap.size]?=some (.cells #[ac wb] 270 (0,0)):=(Ql.out.block w.heap.size (by omega) (λhm=>by
     rcases bk.1 hm with e |e
     ·omega
     ·exact A9 Nb.out.tl Av.out (by decide) Ee)).trans Av.out
    have cB8:w8.cell? (af w.heap.size 0)=some (ac wb):=(A0 Cm).trans rfl;have c38:w8.cell? (af wb 3)=some Hw:=(A0 Xu.out.blk).trans rfl;have ae3:some w.heap.size≠Hw.ownBlock:=λe=>A9 Vf Cm (by decide) e.symm
    have ae4:some wb≠Hw.ownBlock:=λe=>by have:=(Vf.lt wb e.symm).1;omega
    have ab7:=hid Vf;have Ue:=hid hkk;have hs8:W5.heap.size<=w8.heap.size:=Ql.out.size;have hzr:W5.heap.size<=wr.heap.size:=zW.out.size;have hwr:wb<wr.heap.size:=by omega
    clear hw8 Ho adx hkk Vf Cm hcv zW Sk Sm;refine CV (λw'=>w'.cell? (af w.heap.size 0)=some (ac wb)/\w'.cell? (af wb 3)=some Hw/\w'.cell? (af wr.heap.size 0)=some (.bool bp)/\w'.cell? (af wr.heap.size 1)=some (ab np)) hmx yM Lv yM ⟨cB8,c38,cq0,cq1⟩ (λhH=>?_);simp only[AG,BP,AR];refine tB 0 hH ?_;refine tB 1 hH ?_;refine tB 2 hH ?_;refine tB 3 hH ?_;refine tB 4 hH ?_;refine tB 5 hH ?_;refine tB 6 hH ?_;refine tL ?_;refine tS 7 λK hK=>?_
    refine tM ?_;go_simp;refine hK.out _ _ ?_ λhH=>?_
    ·exact⟨A6 _ hH.1,A6 _ hH.2.1,A6 _ hH.2.2.1,A6 _ hH.2.2.2⟩
    clear hK K;refine tL ?_;refine tS 8 λK hK=>?_
    refine tM ?_;rw[ay (by rfl)];refine mq _ (.tmp 61) (.tmp 64) 303 rfl w.heap.size 346 iT (.agg #[.bool false,.bool false,ab 0]) 3 24 Tryz.underlying303 hiT ac0 ac1 ac2 rfl (by decide) Hw _ _ rfl (ab7.out.alloc _) (af w8.heap.size 0) 1 1 [.bool false,.bool bp,ab np] rfl rfl (dn (fr:=(0,0)) (dz w8 _)) Gl (by omega) Bg (by omega) zG _ rfl ?_;intro g3 Cf w9 hown hgrow hat Fi;refine hK.out _ _ ?_ λhH=>?_
    ·exact⟨(hgrow.cell_far _ zG (by exact ae3)).trans hH.1,(hgrow.cell_far _ zG (by exact ae4)).trans hH.2.1,(hgrow.cell_far _ zG (by exact ahh)).trans hH.2.2.1,(hgrow.cell_far _ zG (by exact ahh)).trans hH.2.2.2⟩
    clear hK K;refine tL ?_;refine tB 9 hH ?_;refine tB 10 hH ?_;refine tB 11 hH ?_;refine tL ?_;refine bq yM ?_ _;clear hH;obtain⟨z1,z2,z3⟩:=Xu.out.tail (o:=some p) (Wa:=(w8.alloc (.cells #[.bool false,.bool bp,ab np] 346)).drew) ((A5.refl w8 []).alloc _).drew hgrow (by rw[Ue.out,HTC.out];exact hown);have zc:w9.cell? (af wb 3)=some Hw:=(A0 z1).trans rfl;have zf:=A7 (j:=3) z1;have HZ2:=hid z2;have HZ3:=hid z3;have HFr:Hid (BN w8.heap.size Hw (ae g3 (kk+1) Cf)):=hid (λg hg=>by
     obtain rfl:g3=g:=by simpa[Value.ownBlock] using hg
     rcases hat with h4 |h4
     ·exact .inl h4
     ·exact .inr aaM)
    clear z1 z2 z3 hown hgrow hat Fi cB8 c38 cq0 cq1;show wpList _ _ _ _ _ _;go_wp2
    gi_wp2
    go_roundw
    case rel=>exact⟨i+1,_,by omega,by go_num,hid (by rw[sr,HP.out,Option.toList_some,fq,<-aA];exact HZ2.out),hid (Ql.out.fresh HZ3.out hfr.out (zn _)),hid (hfr.out.trans HFr.out hs8)⟩
    case measure=>simp[intOf];omega
   ·have hie:i=ps.length:=by omega
    subst hie;have Xu:=hid hcv.out;have Ql:=hid zW.out;obtain⟨i,hi'⟩:=qF (ps.length);rw[<-hi']at Xu;have HIe:=hid hi';obtain⟨kk,hkk⟩:=qE ((zK++(ps.take i).map some).length);have aj8:kk<=548:=by rw[<-hkk,lA,lM,nh,Lm.out.1];omega
    have Vf:wr.ownsRow w.heap.size 346 3 Hw kk (FU (zK++(ps.take i).map some)):=by rw[<-hkk];exact Xu.out.tl
    have Cm:wr.heap[w.heap.size]?=some (.cells #[ac wb] 270 (0,0)):=(Ql.out.block w.heap.size (by omega) (λhm=>by
     rcases bk.1 hm with e |e
     ·omega
     ·exact A9 Nb.out.tl Av.out (by decide) Ee)).trans Av.out
    have cB8:wr.cell? (af w.heap.size 0)=some (ac wb):=(A0 Cm).trans rfl;have c38:wr.cell? (af wb 3)=some Hw:=(A0 Xu.out.blk).trans rfl;have ae3:some w.heap.size≠Hw.ownBlock:=λe=>A9 Vf Cm (by decide) e.symm
    have ae4:some wb≠Hw.ownBlock:=λe=>by have:=(Vf.lt wb e.symm).1;omega
    have ab7:=hid Vf;have Ue:=hid hkk;have hs8:W5.heap.size<=wr.heap.size:=Ql.out.size;have HTC:Hid (TC none=[.bool true,.bool false,ab 0]):=hid rfl;clear hkk Vf Cm hcv zW hi'
    gi_wp2
    refine CV (λw'=>w'.cell? (af w.heap.size 0)=some (ac wb)/\w'.cell? (af wb 3)=some Hw) hmx yM Lv yM ⟨cB8,c38⟩ (λhH=>?_);simp only[AG,BP,AR];refine tB 0 hH ?_;refine tB 1 hH ?_;refine tB 2 hH ?_;refine tB 3 hH ?_;refine tB 4 hH ?_;refine tB 5 hH ?_;refine tL ?_;refine tS 6 λK hK=>?_
    refine tM ?_;go_simp;refine hK.out _ _ ?_ λhH=>?_
    ·exact⟨A6 _ hH.1,A6 _ hH.2⟩
    clear hK K;refine tL ?_;refine tS 7 λK hK=>?_
    refine tM ?_;rw[ay (by rfl)];refine mq _ (.tmp 73) (.tmp 75) 303 rfl w.heap.size 346 iT (.agg #[.bool false,.bool false,ab 0]) 3 24 Tryz.underlying303 hiT ac0 ac1 ac2 rfl (by decide) Hw _ _ rfl (ab7.out.alloc _) (af wr.heap.size 0) 1 1 [.bool true,.bool false,ab 0] rfl rfl (dn (fr:=(0,0)) (dz wr _)) Gl (by omega) Bg (by omega) zG _ rfl ?_;intro g3 Cf w9 hown hgrow hat Fi;refine hK.out _ _ ?_ λhH=>?_
    ·exact⟨(hgrow.cell_far _ zG (by exact ae3)).trans hH.1,(hgrow.cell_far _ zG (by exact ae4)).trans hH.2⟩
    clear hK K;refine tL ?_;refine tB 8 hH ?_;refine tB 9 hH ?_;refine tB 10 hH ?_;refine tL ?_;refine bq yM ?_ _;clear hH;obtain⟨z1,z2,z3⟩:=Xu.out.tail (o:=none) (Wa:=(wr.alloc (.cells #[.bool true,.bool false,ab 0] 346)).drew) ((A5.refl wr []).alloc _).drew hgrow (by rw[Ue.out,HTC.out];exact hown);have zc:w9.cell? (af wb 3)=some Hw:=(A0 z1).trans rfl;have zf:=A7 (j:=3) z1;have HZ2:=hid z2;have HZ3:=hid z3;clear z1 z2 z3 hown hgrow hat Fi cB8 c38;show wpList _ _ _ _ _ _;go_wp2;have hKe:=Ql.out.fresh HZ3.out hfr.out (zn _);have Kt:∀q∈wb::(Value.slice yZ kT yT).ownBlock.toList,q=wb\/w.heap.size<q:=λq hq=>by
     rcases bk.1 hq with e |e
     ·exact .inl e
     ·have e:(Value.slice yZ kT yT).ownBlock=some q:=by simpa using e
      have e1:=(Nb.out.tl.lt q e).1;have e2:q≠w.heap.size:=λe3=>A9 Nb.out.tl Av.out (by decide) (by rw[e,e3])
      exact .inr (by omega)
    refine⟨(GG Hq.out (λq hq=>HC.out.kinds ?_)).trans (GG hKe (λq hq=>Nb.out.kinds ?_)),ae2.out.trans (hKe.below acG (λq hq=>?_)),?_⟩
    ·rcases bk.1 hq with e |e
     ·exact .inr (.inl e)
     ·exact .inr (.inr (.inr ⟨n,zT,by simpa using e⟩))
    ·rcases bk.1 hq with e |e
     ·exact .inl e
     ·exact .inr (.inr (.inl Ee))
    ·rcases Kt q hq with e |e
     ·rw[e];exact hBw.n0
     ·have:=Bo.n0;omega
    ·dsimp only
     rw[HCT.out];refine⟨ae g3 (kk+1) Cf,hv',?_,(HK.out.over Hq.out (λq hq=>.inr (by have:=Ec q hq;omega))).over hKe (λq hq=>?_),(hKe.block w.heap.size (by omega) (λhm=>by rcases Kt _ hm with e |e <;> omega)).trans Av.out,?_,Ep.out.trans (ae2.out.trans (hKe.below acG (λq hq=>?_)))⟩
     ·have h9:=HZ2.out
      rw[HIe.out,om]at h9;have e9:ahg=(DB (zK,hds) (n,ps)).2:=by rw[<-aj7.out,<-Lm.out.1];rfl
      rw[e9]at h9;exact h9
     ·rcases Kt q hq with e |e
      ·exact .inl (by simp[e])
      ·exact .inr (by omega)
     ·have:=hKe.size;(try simp only[af]at this ⊢);omega
     ·rcases Kt q hq with e |e
      ·rw[e];exact hBw.n0
      ·have:=Bo.n0;omega
 case done=>
  rintro D ys W hD hys ⟨vT,hv,h1,h2,h3,h4,h5⟩ hK;rw[hys]at h1;have HC:=hid h1;have HK:=hid h2;have HD:=hid hK;clear h1 h2 h3 h5 hys hK
  gi_wp2
  refine⟨by simp,.inl ⟨_,_,rfl,uz HD.out,?_⟩⟩;exact⟨_,qz rfl _ _ _,rfl,w1.heap.size,vT,hv,HC.out.step (qo _ D (.deferred none)) (λr e=>by cases e;exact⟨_,HD.out,rfl⟩),HK.out.grown (qo _ D (.deferred none)) (λk e=>by cases e;exact .inr (by omega))⟩
 case stop=>
  rintro D c pre W' _ _ h _;exact h.elim
end
theorem WL {b:List (Option Pt)}:∀{a:List (Option Pt)}{l:List Pt},Oj a=some l->Oj (a++b)=some l
 | [],l,h=>by cases h
 |none::a,l,h=>h
 |some p::a,l,h=>by
  simp only[Oj]at h;cases h1:Oj a with
  |none=>rw[h1]at h;cases h
  |some l'=>
   rw[h1]at h;show(Oj (a++b)).map (p:: ·)=some l;rw[WL h1];exact h
theorem dM:∀(ps:List Pt),Oj (ps.map some++ [none])=some ps
 | []=>rfl
 |p::ps=>by
  show(Oj (ps.map some++ [none])).map (p:: ·)=some (p::ps);rw[dM ps];rfl
theorem RM {a b:List (Option Pt)}{q:Nat}{l:List Pt} (h:BR a q=some l):BR (a++b) q=some l:=by
 have hq:q<a.length:=by
  rcases jz q a.length with h1 |h1
  ·exact h1
  ·unfold BR at h
   rw[qu h1]at h;cases h
 unfold BR at h ⊢;rw[xX (qp hq)];exact WL h
theorem QN {a:List (Option Pt)} (ps:List Pt) {k:Nat} (hk:k<=ps.length):BR (a++ps.map some++ [none]) (a.length+k)=some (ps.drop k):=by
 unfold BR;have h1:(a++ps.map some++ [none]).drop (a.length+k)=(ps.drop k).map some++ [none]:=by
  rw[aA,<-zj,zk,xX (by simpa using hk),<-List.map_drop]
 rw[h1];exact dM _
structure TY (l:List (Nat × List Pt)) (s:List (Option Pt) × (Nat->List Nat)):Prop where
 ok:PF s.1
 old:∀n q,q∈s.2 n->∃rhs,BR s.1 q=some rhs/\(n,rhs)∈l
 new:∀n rhs,(n,rhs)∈l->∃q,q∈s.2 n/\BR s.1 q=some rhs
 pt:∀(q:Nat) (p:Pt),s.1[q]?=some (some p)->∃r∈l,p∈r.2
theorem TY.step {l:List (Nat × List Pt)}{s:List (Option Pt) × (Nat->List Nat)} (h:TY l s) (r:Nat × List Pt):TY (l++ [r]) (DB s r) where
 ok:=λq hq=>by
  have e:(DB s r).1.length=s.1.length+(r.2.length+1):=by simp[DB]
  rcases jz q s.1.length with h1 |h1
  ·obtain⟨l',h2⟩:=h.ok q h1
   refine⟨l',?_⟩;unfold DB;rw[aA];exact RM h2
  ·refine⟨r.2.drop (q - s.1.length),?_⟩
   have:=QN (a:=s.1) r.2 (k:=q - s.1.length) (by omega);rw[show s.1.length+(q - s.1.length)=q by omega]at this;exact this
 old:=λn q hq=>by
  have hold:q∈s.2 n->∃rhs,BR (DB s r).1 q=some rhs/\(n,rhs)∈l++ [r]:=λh1=>by
   obtain⟨rhs,h2,h3⟩:=h.old n q h1;refine⟨rhs,?_,wz _ h3⟩;unfold DB;rw[aA];exact RM h2
  simp only[DB]at hq;split at hq
  ·rename_i e
   rcases ig.1 hq with h1 |h1
   ·exact hold h1
   ·have h1:=mS.1 h1
    refine⟨r.2,?_,vo _ (by rw[e];exact mS.2 rfl)⟩;have:=QN (a:=s.1) r.2 (k:=0) (dh _);rw[h1];exact this
  ·exact hold hq
 new:=λn rhs hr=>by
  rcases ig.1 hr with h1 |h1
  ·obtain⟨q,h2,h3⟩:=h.new n rhs h1
   refine⟨q,?_,?_⟩
   ·simp only[DB]
    split
    ·exact wz _ h2
    ·exact h2
   ·unfold DB
    rw[aA];exact RM h3
  ·have h1:=mS.1 h1
   subst h1;refine⟨s.1.length,?_,?_⟩
   ·simp[DB]
   ·have:=QN (a:=s.1) rhs (k:=0) (dh _)
    simpa[DB] using this
 pt:=λq p hq=>by
  simp only[DB]at hq;rw[aA]at hq
  rcases jz q s.1.length with h1 |h1
  ·rw[aL h1]at hq
   obtain⟨r',h2,h3⟩:=h.pt q p hq;exact⟨r',wz _ h2,h3⟩
  ·rw[Bc h1]at hq
   have h2:=mG hq
   rcases ig.1 h2 with h3 |h3
   ·obtain⟨p',h4,h5⟩:=dm.1 h3
    injection h5 with h5
    subst h5;exact⟨r,vo _ (mS.2 rfl),h4⟩
   ·have h3:=mS.1 h3
    cases h3
theorem Q8 (l:List (Nat × List Pt)):TY l (BH l):=by
 have h:∀(l l0:List (Nat × List Pt)) (s:List (Option Pt) × (Nat->List Nat)),TY l0 s->TY (l0++l) (l.foldl DB s):=by
  intro l
  induction l with
  |nil=>intro l0 s hs;rw[fy];exact hs
  |cons r l ih=>
   intro l0 s hs;have:=ih (l0++ [r]) _ (hs.step r);rw[aA]at this;exact this
 have h0:TY [] (([],λ_=>[]):List (Option Pt) × (Nat->List Nat)):=⟨λq hq=>absurd hq (by simp),λn q hq=>absurd hq (by simp),λn rhs hr=>absurd hr (by simp),λq p hq=>absurd hq (by simp)⟩;exact h l [] _ h0
theorem gH {zK:List (Option Pt)}{q:Nat}{l:List Pt} (h:BR zK q=some l):q<zK.length:=by
 rcases jz q zK.length with h1 |h1
 ·exact h1
 ·unfold BR at h
  rw[qu h1]at h;cases h
def MH (nN:Nat) (hds:Nat->List Nat):List (List Nat):=(List.range nN).map hds
theorem iL {nN n:Nat} (hn:n<nN) (hds:Nat->List Nat):(MH nN hds)[n]?=some (hds n):=by
 unfold MH;rw[gM,ny hn];rfl
theorem dJ (nN:Nat) (hds:Nat->List Nat):(MH nN hds).length=nN:=by unfold MH;simp
theorem UK {nN n:Nat}{hds:Nat->List Nat}{l:List Nat} (h:(MH nN hds)[n]?=some l):n<nN/\l=hds n:=by
 have h1:n<nN:=by have:=(zM.1 h).1;rwa [dJ]at this
 rw[iL h1]at h;injection h with h
 exact⟨h1,h.symm⟩
theorem vW {N:NG} (hN:N.Ok):Rx N (BR (BH N.rules).1) (FY (MH N.nN (BH N.rules).2)):=by
 have hI:=Q8 N.rules;refine⟨λq p ps h=>?_,λn rhs hr=>?_,λn q h=>?_⟩
 ·rcases SJ hI.ok h with⟨h1,_⟩ | ⟨p',ps',h1,h2⟩
  ·cases h1
  ·obtain⟨_,ps2,h3,h4⟩:=MZ hI.ok h2
   rw[h]at h4;injection h4 with h4
   injection h4 with _ h5
   rw[h5];exact h3
 ·obtain⟨q,h1,h2⟩:=hI.new n rhs hr
  exact⟨q,⟨_,iL (hN.lt _ hr) _,h1⟩,h2⟩
 ·obtain⟨l,h1,h2⟩:=h
  obtain⟨_,rfl⟩:=UK h1;exact hI.old n q h2
end Go.Proofs.YtjjggdcnpndgjaaGreatDoor
