import Derived.Test.YtjjggdcnpndgjabGreatDoorJ31
set_option linter.unusedSimpArgs false
set_option maxHeartbeats 8000000
set_option maxRecDepth 100000
namespace Go.Proofs.YtjjggdcnpndgjabGreatDoor
open Go.RowKit Go.Shelf
section
theorem Tryz.infoB205:(Tryz.prog.info? 205).map (fun i=>(i.zero,i.size,i.bytes))=some (some (.agg #[.bool false,.bool false,ab 0]),3,24):=by kernel_rfl
theorem Tryz.infoX22:(Tryz.prog.info? 22).map (fun i=>(i.zero,i.size,i.bytes))=some (some (.slice none 0 0),1,24):=by kernel_rfl
def TC (o:Option Pt):List Value:=[.bool o.isNone,.bool (M4 o),ab (M3 o)]
def FN (l:List (Option Pt)):List Value:=l.flatMap TC
theorem WO (a b:List (Option Pt)):FN (a++b)=FN a++FN b:=by unfold FN;rw[List.flatMap_append]
theorem dV (o:Option Pt):FN [o]=TC o:=by unfold FN;simp
def D1 (s:List (Option Pt) × (Nat->List Nat)) (r:Nat × List Pt):List (Option Pt) × (Nat->List Nat):=
 (s.1++r.2.map some++ [none],fun m=>if m=r.1 then s.2 m++ [s.1.length]else s.2 m)
structure GQ (w:World) (B wb gh:Nat) (c0 c1 c2:Value) (nN:Nat) (vT:Value) (hv:Nat->Value) (tls:List (Option Pt)) (hds:Nat->List Nat):Prop where
 blk:w.heap[wb]?=some (.cells #[c0,c1,c2,vT,ae gh nN nN,.slice none 0 0] 168 (0,0))
 tl:w.ownsRow B 205 3 vT tls.length (FN tls)
 hb:∃cs,w.heap[gh]?=some (.cells cs 22 (0,0))/\cs.size=nN/\∀n,n<nN->cs[n]?=some (hv n)
 hi:∀n,n<nN->D8 w B (hv n) (hds n)
 ap:∀n m,n<nN->m<nN->n≠m->∀g,(hv n).ownBlock=some g->(hv m).ownBlock≠some g
 ghB:B<=gh
 wbB:wb<B
section
variable {w w':World}{B wb gh nN:Nat}{c0 c1 c2 vT:Value}{hv:Nat->Value}{tls:List (Option Pt)}{hds:Nat->List Nat}
def GQ.S (_:GQ w B wb gh c0 c1 c2 nN vT hv tls hds) (k:Nat):Prop:=k=wb\/k=gh\/vT.ownBlock=some k\/∃n,n<nN/\(hv n).ownBlock=some k
theorem GQ.keeps {S:List Nat} (h:GQ w B wb gh c0 c1 c2 nN vT hv tls hds) (hk:A1 w w' S) (hS:∀k∈S,¬h.S k):GQ w' B wb gh c0 c1 c2 nN vT hv tls hds where
 blk:=(hk.block wb (lt_of_block h.blk) (fun hm=>hS _ hm (.inl rfl))).trans h.blk
 tl:=A8 h.tl hk (fun g hg hm=>hS _ hm (.inr (.inr (.inl hg))))
 hb:=by
  obtain⟨cs,h1,h2⟩:=h.hb;exact⟨cs,(hk.block gh (lt_of_block h1) (fun hm=>hS _ hm (.inr (.inl rfl)))).trans h1,h2⟩
 hi:=fun n hn=>A8 (h.hi n hn) hk (fun g hg hm=>hS _ hm (.inr (.inr (.inr ⟨n,hn,hg⟩))))
 ap:=h.ap
 ghB:=h.ghB
 wbB:=h.wbB
theorem GQ.kinds (h:GQ w B wb gh c0 c1 c2 nN vT hv tls hds) {k:Nat} (hk:h.S k):∃c e f,w.heap[k]?=some (.cells c e f):=by
 rcases hk with rfl |rfl |hk | ⟨n,hn,hk⟩
 ·exact⟨_,_,_,h.blk⟩
 ·obtain⟨cs,h1,_⟩:=h.hb;exact⟨_,_,_,h1⟩
 ·obtain⟨c,hc⟩:=BJ h.tl hk;exact⟨_,_,_,hc⟩
 ·obtain⟨c,hc⟩:=BJ (h.hi n hn) hk;exact⟨_,_,_,hc⟩
theorem GQ.step {row:Option Nat} (h:GQ w B wb gh c0 c1 c2 nN vT hv tls hds) (hg:w.grownBy w' row) (hr:∀r,row=some r->∃o:Obj,w.heap[r]?=some o/\o.isCells=false):GQ w' B wb gh c0 c1 c2 nN vT hv tls hds:=by
 refine h.keeps ((A1.refl w row.toList).grown hg (fun k e=>.inl y27Z)) (fun k hk hS=>?_);obtain⟨c,e,f,h1⟩:=h.kinds hS;obtain⟨o,h2,h3⟩:=hr k (by simpa using hk);rw[h1]at h2;injection h2 with h2
 subst h2;cases h3
theorem GQ.tail {Wa w1:World}{v':Value}{o:Option Pt} (h:GQ w B wb gh c0 c1 c2 nN vT hv tls hds) (hka:A1 w Wa []) (hgrow:Wa.grownBy w1 vT.ownBlock) (hown:w1.ownsRow B 205 3 v' (tls.length+1) (FN tls++TC o)):
  w1.heap[wb]?=some (.cells #[c0,c1,c2,vT,ae gh nN nN,.slice none 0 0] 168 (0,0))/\GQ (w1.setCell (af wb 3) v') B wb gh c0 c1 c2 nN v' hv (tls++ [o]) hds/\A1 w (w1.setCell (af wb 3) v') (wb::vT.ownBlock.toList):=by
 obtain⟨z1,z2,z3,z4⟩:=G9 (j:=3) hka h.blk (by decide) h.tl hown hgrow;obtain⟨cs,hg1,hg2⟩:=h.hb;have hgw:gh∉wb::vT.ownBlock.toList:=fun hm=>by
  rcases List.mem_cons.1 hm with e |e
  ·have:=h.ghB;have:=h.wbB;omega
  ·exact A6 h.tl hg1 (by decide) y7Z
 refine⟨z1,⟨z2,?_,⟨cs,(z4.block gh (lt_of_block hg1) hgw).trans hg1,hg2⟩,fun n hn=>A8 (h.hi n hn) z4 (fun g hg hm=>?_),h.ap,h.ghB,h.wbB⟩,z4⟩
 ·rw[lA,List.length_singleton,WO,dV]
  exact z3
 ·rcases List.mem_cons.1 hm with e |e
  ·have:=((h.hi n hn).lt g hg).1;have:=h.wbB;omega
  ·exact J3 (h.hi n hn) h.tl (by decide) hg y7Z
theorem GQ.head {Wa w1:World}{v':Value}{n x:Nat} (h:GQ w B wb gh c0 c1 c2 nN vT hv tls hds) (hn:n<nN) (hka:A1 w Wa []) (hgrow:Wa.grownBy w1 (hv n).ownBlock) (hown:w1.ownsRow B 3 1 v' ((hds n).length+1) (D9 (hds n)++ [ab x])) (hfr:BH w.heap.size (hv n) v'):
  (∃cs,w1.heap[gh]?=some (.cells cs 22 (0,0))/\cs[n]?=some (hv n))/\GQ (w1.setCell (af gh n) v') B wb gh c0 c1 c2 nN vT (fun m=>if m=n then v' else hv m) tls (fun m=>if m=n then hds m++ [x]else hds m)/\A1 w (w1.setCell (af gh n) v') (gh::(hv n).ownBlock.toList):=by
 obtain⟨cs,hg1,hg2,hg3⟩:=h.hb;obtain⟨z1,z2,z3,z4⟩:=G9 (j:=n) hka hg1 (by decide) (h.hi n hn) hown hgrow;refine⟨⟨cs,z1,hg3 n hn⟩,⟨(z4.block wb (lt_of_block h.blk) (fun hm=>?_)).trans h.blk,A8 h.tl z4 (fun g hg hm=>?_),⟨_,z2,by simpa using hg2,fun m hm=>?_⟩,fun m hm=>?_,fun m m' hm hm' hne g hg=>?_,h.ghB,h.wbB⟩,z4⟩
 ·rcases List.mem_cons.1 hm with e |e
  ·have:=h.ghB;have:=h.wbB;omega
  ·have:=((h.hi n hn).lt wb y7Z).1;have:=h.wbB;omega
 ·rcases List.mem_cons.1 hm with e |e
  ·subst e;exact A6 h.tl hg1 (by decide) hg
  ·exact J3 h.tl (h.hi n hn) (by decide) hg y7Z
 ·by_cases e:m=n
  ·subst e
   rw[if_pos rfl,Array.getElem?_setIfInBounds,if_pos rfl,if_pos (by omega)]
  ·rw[if_neg e,Array.getElem?_setIfInBounds_ne (Ne.symm e)]
   exact hg3 m hm
 ·by_cases e:m=n
  ·subst e
   simp only[if_pos];unfold D8;rw[lA,GI];exact z3
  ·simp only[if_neg e]
   refine A8 (h.hi m hm) z4 (fun g hg hmm=>?_)
   rcases List.mem_cons.1 hmm with e2 |e2
   ·subst e2;exact A6 (h.hi m hm) hg1 (by decide) hg
   ·exact h.ap m n hm hn e g hg (by simpa using e2)
 ·have hlt:∀k,k<nN->∀g,(hv k).ownBlock=some g->g<w.heap.size:=fun k hk g hg=>CK (h.hi k hk) hg
  show(if m'=n then v' else hv m').ownBlock≠some g;have hg:(if m=n then v' else hv m).ownBlock=some g:=hg
  by_cases e:m=n
  ·rw[if_pos e]at hg
   rw[if_neg (by omega)]
   rcases hfr g hg with h1 |h1
   ·exact h.ap n m' hn hm' (by omega) g h1
   ·intro h2;have:=hlt m' hm' g h2;omega
  ·rw[if_neg e]at hg
   by_cases e2:m'=n
   ·rw[if_pos e2]
    intro h2
    rcases hfr g h2 with h1 |h1
    ·exact h.ap m n hm hn e g hg h1
    ·have:=hlt m hm g hg;omega
   ·rw[if_neg e2]
    exact h.ap m m' hm hm' hne g hg
end
end
section
attribute [local go_sem] Oper.semAt_some
def BD (l:List (Nat × List Pt)):List (Option Pt) × (Nat->List Nat):=l.foldl D1 ([],fun _=>[])
theorem SS (l:List (Nat × List Pt)) (r:Nat × List Pt):BD (l++ [r])=D1 (BD l) r:=by unfold BD;rw[List.foldl_append];rfl
theorem SZ:∀(l:List (Nat × List Pt)) (s:List (Option Pt) × (Nat->List Nat)),(∀r∈l,r.2.length<=8)->(l.foldl D1 s).1.length<=s.1.length+9*l.length/\∀n,((l.foldl D1 s).2 n).length<=(s.2 n).length+l.length
 | [],s,_=>⟨by simp,fun n=>by simp⟩
 |r::l,s,h=>by
  obtain⟨h1,h2⟩:=SZ l (D1 s r) (fun x hx=>h x (List.mem_cons_of_mem _ hx));have h3:=h r (List.mem_cons_self ..);rw[List.foldl_cons];refine⟨?_,fun n=>?_⟩
  ·have e:(D1 s r).1.length=s.1.length+r.2.length+1:=by simp[D1];omega
   simp only[lC];omega
  ·have e:((D1 s r).2 n).length<=(s.2 n).length+1:=by
    simp only[D1];split
    ·simp
    ·omega
   have:=h2 n;simp only[lC];omega
theorem A1.over {a b c:World}{S S':List Nat} (h:A1 a b S) (k:A1 b c S') (hS:∀q∈S',q∈S\/a.heap.size<=q):A1 a c S:=
 ⟨k.os.trans h.os,k.tape.trans h.tape,k.output.trans h.output,lT_ h.size k.size,fun q hq hm=>(k.block q (lL hq h.size) (fun h1=>by
  rcases hS q h1 with e |e
  ·exact hm e
  ·omega)).trans (h.block q hq hm)⟩
theorem QH (l:List (Nat × List Pt)) (h:∀r∈l,r.2.length<=8):(BD l).1.length<=9*l.length/\∀n,((BD l).2 n).length<=l.length:=by
 obtain⟨h1,h2⟩:=SZ l ([],fun _=>[]) h;unfold BD;exact⟨by simpa using h1,fun n=>by simpa using h2 n⟩
theorem bE {T:Tab}{w:World} (hI:T.In w) {wb:Nat}{rv vd:Value} (hwb:w.heap[wb]?=some (.cells #[ac T.tb,rv,vd,.slice none 0 0,.slice none 0 0,.slice none 0 0] 168 (0,0))) (hBw:T.Bd wb):
  Calls Tryz.prog 78 #[ac wb] w fun e w'=>e=.returned (.tuple #[])/\∃gh vT hv,GQ w' w.heap.size wb gh (ac T.tb) rv vd T.N.nN vT hv (BD T.N.rules).1 (BD T.N.rules).2/\A1 w w' [wb]:=by
 obtain⟨iT,hiT,hzT0,hzT1,hzT2⟩:=info_parts Tryz.infoB205;obtain⟨iI,hiI,hzI0,hzI1,hzI2⟩:=info_parts Tryz.infoX3;obtain⟨iS,hiS,hzS0,hzS1,hzS2⟩:=info_parts Tryz.infoX22;have hwl:wb<w.heap.size:=lt_of_block hwb;obtain⟨d0,d1,_⟩:=hI.tv.heads;have hBd:=hI.bd;have htl:T.tb<w.heap.size:=hBd.tb;have hn20:=hI.fc.gr.leN;have hr60:=hI.fc.gr.leR;have HIn:Hid (T.In w):=hid hI;obtain⟨nN,hnN⟩:=qF (T.N.nN);have HNN:=hid hnN;rw[<-hnN]at d1 hn20 ⊢;clear hI hnN;refine(callsIn_wide (n:=4)).1 ?_;refine callsIn_of_wp_marks Tryz.func78 rfl trivial ?_ rfl;simp only[Tryz.ntmps78,List.size_toArray,lC,List.length_nil,Nat.reduceAdd,Nat.reduceSub,Array.replicate_succ,Array.replicate_zero,List.push_toArray,List.append_toArray,List.nil_append,List.cons_append];have bx:=World.alloc_heap_new w (.cells #[ac wb] 130);obtain⟨w1,hw1⟩:=qE (w.alloc (.cells #[ac wb] 130));have hk1:A1 w w1 []:=by rw[<-hw1];exact(A1.refl w []).alloc _
 have hs1:w.heap.size<w1.heap.size:=by rw[<-hw1,World.size_alloc];omega
 have HW1:=hid hw1;rw[hw1]at bx;clear hw1;have hwb1:=(hk1.block wb hwl (by simp)).trans hwb;have e0:w1.cell? (af wb 0)=some (ac T.tb):=(A0 hwb1).trans rfl;have e4:w1.cell? (af wb 4)=some (.slice none 0 0):=(A0 hwb1).trans rfl;have f4:w1.frozen? (af wb 4)=false:=A3 hwb1;have d1':=(hk1.cell (p:=(af T.tb 1)) (by exact htl) (by simp)).trans d1
 gi_wp2_with fail
 rw[HW1.out];refine K7 ((wpIn_wide (n:=4)).2 ?_);refine AE (fun w'=>w'.cell? (af w.heap.size 0)=some (ac wb)/\w'.cell? (af wb 0)=some (ac T.tb)/\w'.cell? (af T.tb 1)=some (ae T.gN nN T.capN)) hmx y1Z ⟨(A0 bx).trans rfl,e0,d1'⟩ (fun hH=>?_);simp only[AC,BM,AO];refine tB 0 hH ?_;refine tB 1 hH ?_;refine tB 2 hH ?_;refine tB 3 hH ?_;refine tB 4 hH ?_;refine tB 5 hH ?_;refine tB 6 hH ?_;refine tB 7 hH ?_;refine tB 8 hH ?_;refine tB 9 hH ?_;refine tB 10 hH ?_;refine tL ?_;refine tS 11 fun K hK=>?_
 refine tM ?_;rw[if_pos (by rfl)];refine G7 _ (.tmp 16) (.tmp 16) 44 rfl 22 iS (.slice none 0 0) Tryz.underlying44 hiS hzS0 nN rfl rfl (by rw[hzS2];omega) (by omega) ?_;rw[hzS1];refine hK.out _ _ ?_ fun hH=>?_
 ·exact⟨A2 _ hH.1,A2 _ hH.2.1,A2 _ hH.2.2⟩
 clear hK K;refine tL ?_;refine tB 12 hH ?_;refine tB 13 hH ?_;refine tB 14 hH ?_;refine tL ?_;refine wpAnyH_done y1Z ?_ _;clear hH;have hmk:w1.drew.alloc (.cells (madeCells (Value.slice none 0 0).cells (nN*1)) 22)=(w1.alloc (.cells (madeCells #[.slice none 0 0] nN) 22)).drew:=by rw[Nat.mul_one];rfl
 rw[hmk];clear hmk;obtain⟨W2,hW2⟩:=qE ((w1.alloc (.cells (madeCells #[.slice none 0 0] nN) 22)).drew);have hk2:A1 w1 W2 []:=by rw[<-hW2];exact((A1.refl w1 []).alloc _).drew
 have hgh2:W2.heap[w1.heap.size]?=some (.cells (madeCells #[.slice none 0 0] nN) 22 (0,0)):=by rw[<-hW2];exact World.alloc_heap_new w1 _
 have hs2:w1.heap.size<W2.heap.size:=lt_of_block hgh2;rw[hW2];have hwb2:=(hk2.block wb (by omega) (by simp)).trans hwb1;have e4':W2.cell? (af wb 4)=some (.slice none 0 0):=(A0 hwb2).trans rfl;have f4':W2.frozen? (af wb 4)=false:=A3 hwb2;have bx2:=(hk2.block w.heap.size hs1 (by simp)).trans bx;have HX:=hid (And.intro (hk1.trans hk2) (And.intro hwb2 hgh2));clear hW2 hk2 hgh2 hwb2 e0 e4 f4 d1' hk1 hwb1;show wpList _ _ _ _ _ _;go_wp2;obtain⟨W3,hW3⟩:=qE (W2.setCell (af wb 4) (ae w1.heap.size nN nN));have hk3:A1 W2 W3 [wb]:=by rw[<-hW3];exact(A1.refl W2 [wb]).setCell (by simp) _
 have hb3:W3.heap[wb]?=some (.cells #[ac T.tb,rv,vd,.slice none 0 0,ae w1.heap.size nN nN,.slice none 0 0] 168 (0,0)):=by rw[<-hW3];exact A5 (j:=4) HX.out.2.1 _
 rw[hW3];clear hW3;refine F3 (Q:=fun _ _ _=>False) ?_;have hkw3:A1 w W3 [wb]:=(HX.out.1.mono (fun q h=>by cases h)).trans hk3;have hI3:T.In W3:=HIn.out.below (B:=wb) hBw (hkw3.below (by omega) (fun q hq=>by rw[mS.1 hq];exact lR_ _));have HC3:Hid (GQ W3 w.heap.size wb w1.heap.size (ac T.tb) rv vd nN (.slice none 0 0) (fun _=>.slice none 0 0) (BD []).1 (BD []).2):=hid
  ⟨hb3,World.ownsRow_nil _ _ _ _,⟨_,(hk3.block _ hs2 y2Z).trans HX.out.2.2,by simp[size_madeCells],fun n hn=>by simp[madeCells,hn,Nat.mod_one]⟩,fun n hn=>World.ownsRow_nil _ _ _ _,fun n m _ _ _ g hg=>by simp[Value.ownBlock]at hg,by omega,hwl⟩
 have bx3':W3.heap[w.heap.size]?=some (.cells #[ac wb] 130 (0,0)):=(hk3.block w.heap.size (by omega) y2Z).trans bx2;have bx3:W3.cell? (af w.heap.size 0)=some (ac wb):=(A0 bx3').trans rfl;have e03:W3.cell? (af wb 0)=some (ac T.tb):=(A0 hb3).trans rfl;obtain⟨g0,g1,_⟩:=hI3.tv.heads;rw[<-HNN.out]at g1;have hs3:w1.heap.size<W3.heap.size:=by have:=hk3.size;omega
 have HI3:=hid hI3;have HKW3:=hid hkw3;clear hI3 hkw3 hk3 hb3
 gi_wp2_with (refine⟨trivial,?_⟩;gi_at_call 44;refine(TT Fence.wide 3 trivial rfl _ _ _ _ _ _ _).mono ?_;rintro e W4' ⟨rfl,rfl⟩)
 have hbox:=BG W3 #[.slice T.adT T.N.nT T.capT,ae T.gN nN T.capN] 69 1;obtain⟨W4,hW4⟩:=qE (W3.alloc (.cells #[.slice T.adT T.N.nT T.capT,ae T.gN nN T.capN] 69));have hk4:A1 W3 W4 []:=by rw[<-hW4];exact(A1.refl W3 []).alloc _
 have hs4:W3.heap.size<W4.heap.size:=by rw[<-hW4,World.size_alloc];omega
 rw[hW4]at hbox ⊢;have bx4:=(hk4.block w.heap.size (by omega) (by simp)).trans bx3';have HC4:=hid (HC3.out.keeps hk4 (fun k h=>by cases h));have HKW4:Hid (A1 w W4 [wb]):=hid (HKW3.out.trans (hk4.mono (fun q h=>by cases h)));clear hW4 bx3 e03 g0 g1;have hbox:W4.cell? (af W3.heap.size 1)=some (ae T.gN T.N.nN T.capN):=by rw[<-HNN.out];exact hbox.trans rfl
 refine wpIn_rangeFunc_ownG (F:=Fence.wide) rfl (by omega) (gf:=76) (lb:= #[ac W3.heap.size]) rfl trivial (enters_of Tryz.func76 y1Z rfl)
  (O2 Fence.wide 3 trivial rfl (by omega) W3.heap.size T.n0 T.N T.tws T.pg T.adT T.capT T.gN T.capN W3 W4 HI3.out.fc.gr (hk4.below HI3.out.fc.ln (fun q h=>by cases h)) HI3.out.fc.ln (by omega) hbox) belowK_t (belowK_b (by have:=HI3.out.fc.ln;omega)) (Below.refl _ _) (fun _=>rfl)
  (fun(pre:List (RI T.N W3 T.n0)) W=>∃vT hv,GQ W w.heap.size wb w1.heap.size (ac T.tb) rv vd nN vT hv (BD (pre.map fun x=>x.1.1)).1 (BD (pre.map fun x=>x.1.1)).2/\A1 w W [wb]/\W.heap[w.heap.size]?=some (.cells #[ac wb] 130 (0,0))/\W4.heap.size<=W.heap.size/\Below T.n0 W3 W) (fun _ _ _=>False)
  ?own (fun _ _ _ _ _ hs _ _=>hs) ⟨.slice none 0 0,fun _=>.slice none 0 0,HC4.out,HKW4.out,bx4,lR_ _,hk4.below HI3.out.fc.ln (fun q h=>by cases h)⟩
  (fun x=>{tmps:= #[ac wb,ac w.heap.size,ab (x.1.1.1:Int),x.1.2,undef,undef,ac wb,ac wb,ac wb,ac wb,ac T.tb,ac T.tb,ac T.tb,ac T.tb,.pointer (some (af T.tb 1)),ae T.gN nN T.capN,ab nN,ae w1.drew.heap.size nN nN,ac wb,.pointer (some (af wb 4)),ac wb,ac wb,ac wb,ac T.tb,ac T.tb,ac T.tb,ac T.tb,.agg #[.slice T.adT T.N.nT T.capT,ae T.gN nN T.capN],.func (.func 76) #[] #[ac W3.heap.size],ab (x.1.1.1:Int),x.1.2,undef,undef,undef,undef,undef,undef,undef,undef,undef,undef,undef,undef,undef,undef,undef,undef,undef,undef,undef,undef,undef,undef,undef,undef,undef,undef,undef,undef,undef,undef,undef,undef,undef,undef,undef,undef,undef,undef,undef,undef,undef,undef,undef,undef,undef,undef,undef,undef],defers:=[]}) ?assign ?body ?done ?stop
 case own=>
  rintro pre A C row ⟨vT,hv,h1,h2,h3,h4,h5⟩ hg hr;have hk:A1 A C row.toList:=(A1.refl A row.toList).grown hg (fun q e=>.inl y27Z);refine⟨vT,hv,h1.step hg (fun r e=>(hr r e).2),h2.grown hg (fun r e=>.inr (by have:=(hr r e).1;omega)),(hk.block w.heap.size (lt_of_block h3) (fun hm=>by have:=(hr _ y59Z).1;omega)).trans h3,lT_ h4 hg.size,h5.grown hg (by have:=HI3.out.fc.ln;omega) (fun q e=>by have:=(hr q e).1;have:=HI3.out.fc.ln;omega)⟩
 case assign=>
  intro l x W' K hK;simp only[WB]
  gi_wp2
  exact hK
 case body=>
  rintro l pre ⟨⟨⟨n,ps⟩,pv⟩,hx⟩ W ⟨vT,hv,h1,h2,h3,h4,h5⟩ hlt;have hxr:(n,ps)∈T.N.rules:=hx.1;have hnN:n<nN:=by rw[HNN.out];exact HI3.out.fc.gr.ok.lt _ hxr
  have hp8:ps.length<=8:=HI3.out.fc.gr.ok.parts _ hxr;have hpW:C0 W T.n0 pv ps:=hx.2.below h5;have hsm:=QH (pre.map fun x=>x.1.1) (fun r hr=>by
   obtain⟨y,_,rfl⟩:=List.mem_map.1 hr;exact HI3.out.fc.gr.ok.parts _ y.2.1)
  rw[lM]at hsm;have hT:BD ((pre++ [(⟨((n,ps),pv),hx⟩:RI T.N W3 T.n0)]).map fun x=>x.1.1)=D1 (BD (pre.map fun x=>x.1.1)) (n,ps):=by
   rw[List.map_append,List.map_singleton,SS]
  obtain⟨⟨tls,hds⟩,hth⟩:∃z,BD (pre.map fun x=>x.1.1)=z:=⟨_,rfl⟩;rw[hth]at hT h1 hsm;simp only at h1 hsm hlt ⊢;have HCT:=hid hT;obtain⟨ad,cap,rfl,hcap,hpc⟩:=hpW;obtain⟨kT,hkT⟩:=qE (tls.length);obtain⟨kH,hkH⟩:=qE ((hds n).length);have hkT':kT<=540:=by omega
  have hkH':kH<=60:=by have:=hsm.2 n;omega
  obtain⟨adT,capT,rfl,hcT⟩:∃ad cap,vT=.slice ad kT cap/\kT<=cap:=by rw[<-hkT];exact DE h1.tl
  have hrow:W.ownsRow w.heap.size 3 1 (hv n) kH (D9 (hds n)):=by rw[<-hkH];exact h1.hi n hnN
  obtain⟨vH,hvH⟩:=qE (hv n);have cB:W.cell? (af w.heap.size 0)=some (ac wb):=(A0 h3).trans rfl;have c3:W.cell? (af wb 3)=some (.slice adT kT capT):=(A0 h1.blk).trans rfl;have c4:W.cell? (af wb 4)=some (ae w1.heap.size nN nN):=(A0 h1.blk).trans rfl;have cn:W.cell? (af w1.heap.size n)=some vH:=by
   obtain⟨cs,hc1,hc2,hc3⟩:=h1.hb;rw[<-hvH];exact(A0 hc1).trans (hc3 n hnN)
  obtain⟨csg,hcg,_,_⟩:=h1.hb;rw[hvH]at hrow;have ogB:some w.heap.size≠vH.ownBlock:=fun e=>A6 hrow h3 (by decide) e.symm
  have ogG:some w1.heap.size≠vH.ownBlock:=fun e=>A6 hrow hcg (by decide) e.symm
  have ogW:some wb≠vH.ownBlock:=fun e=>by have:=(hrow.lt wb e.symm).1;omega
  have hlG:w1.heap.size<W.heap.size:=lt_of_block hcg;have HPc:=hid hpc;have HRow:=hid hrow;have HC:=hid h1;have HK:=hid h2;have HB:=hid h3;have HBl:=hid h5;have HLn:=hid (And.intro hkT (And.intro hkH hvH));have hni:((n:Int)< (nN:Int)):=by omega
  clear hxr hpc hsm hT hth hkT hkH hvH hrow h1 h2 h3 h5 hcg
  gi_wp2
  refine C3 (fun w'=>w'.cell? (af w.heap.size 0)=some (ac wb)/\w'.cell? (af wb 3)=some (.slice adT kT capT)/\w'.cell? (af wb 4)=some (ae w1.heap.size nN nN)/\w'.cell? (af w1.heap.size n)=some vH) hmx y1Z y9Z y1Z ⟨cB,c3,c4,cn⟩ (fun hH=>?_);simp only[AC,BM,AO];refine tB 0 hH ?_;refine tB 1 hH ?_;refine tB 2 hH ?_;refine tB 3 hH ?_;refine tB 4 hH ?_;refine tB 5 hH ?_;refine tB 6 hH ?_;refine tB 7 hH ?_;refine tB 8 hH ?_;refine tB 9 hH ?_;refine tB 10 hH ?_;refine tB 11 hH ?_;refine tB 12 hH ?_;refine tB 13 hH ?_;refine tB 14 hH ?_;refine tB 15 hH ?_;refine tB 16 hH ?_;refine tL ?_;refine tS 17 fun K hK=>?_
  refine tM ?_;go_simp;refine hK.out _ _ ?_ fun hH=>?_
  ·exact⟨A2 _ hH.1,A2 _ hH.2.1,A2 _ hH.2.2.1,A2 _ hH.2.2.2⟩
  clear hK K;refine tL ?_;refine tS 18 fun K hK=>?_
  refine tM ?_;rw[if_pos (by rfl)];refine wp_append_lies _ (.tmp 42) (.tmp 48) 22 rfl w.heap.size 3 iI (ab 0) 1 8 Tryz.underlying22 hiI hzI0 hzI1 hzI2 rfl (by decide) vH _ _ rfl (HRow.out.alloc _) (af W.heap.size 0) 1 1 [ab kT] rfl rfl (World.news_of_block (fr:=(0,0)) (heap_alloc_new W _)) y4Z (by omega) y3Z (by omega) y2Z _ rfl ?_;intro g2 cap2 w7 hown hgrow hat hlt2;refine hK.out _ _ ?_ fun hH=>?_
  ·exact⟨(hgrow.cell_far _ y2Z (by exact ogB)).trans hH.1,(hgrow.cell_far _ y2Z y68Z).trans hH.2.1,(hgrow.cell_far _ y2Z y68Z).trans hH.2.2.1,(hgrow.cell_far _ y2Z (by exact ogG)).trans hH.2.2.2⟩
  clear hK K;refine tL ?_;refine tB 19 hH ?_;refine tB 20 hH ?_;refine tL ?_;refine wpAnyH_done y1Z ?_ _;clear hH;obtain⟨z1,z2,z3⟩:=HC.out.head (x:=kT) hnN (Wa:=(W.alloc (.cells #[ab kT] 3)).drew) ((A1.refl W []).alloc _).drew (by rw[HLn.out.2.2];exact hgrow) (by rw[HLn.out.2.1];exact hown) (fun g hg=>by
   obtain rfl:g2=g:=by simpa[Value.ownBlock] using hg
   rcases hat with h4 |h4
   ·exact .inl (by rw[HLn.out.2.2];exact h4)
   ·exact .inr y70Z)
  obtain⟨cs1,hc1,hc2⟩:=z1;have zc:w7.cell? (af w1.heap.size n)=some (hv n):=(A0 hc1).trans hc2;have zf:=A3 (j:=n) hc1;have HZ:=hid (And.intro z2 z3);clear z2 z3 hc1 hc2 hown hgrow hat hlt2 cB c3 c4 cn;show wpList _ _ _ _ _ _;go_wp2;obtain⟨W5,hW5⟩:=qE (w7.setCell (af w1.heap.size n) (ae g2 (kH+1) cap2));rw[hW5]at HZ ⊢;clear hW5 zc zf;obtain⟨hv',hhv'⟩:=qE ((fun m=>if m=n then ae g2 (kH+1) cap2 else hv m));obtain⟨hds',hhds'⟩:=qE ((fun m=>if m=n then hds m++ [kT]else hds m));rw[hhv',hhds']at HZ;have HC5:=hid HZ.out.1;have HK5:=hid HZ.out.2;have HHd':=hid hhds';have hS5:∀q∈w1.heap.size::(hv n).ownBlock.toList,w.heap.size<q:=fun q hq=>by
   rcases List.mem_cons.1 hq with e |e
   ·omega
   ·have e:(hv n).ownBlock=some q:=by simpa using e
    have e1:=((HC.out.hi n hnN).lt q e).1;have e2:w.heap.size≠q:=fun e3=>ogB (by rw[e3,<-HLn.out.2.2,e])
    omega
  have HB5:Hid (W5.heap[w.heap.size]?=some (.cells #[ac wb] 130 (0,0))):=hid ((HK5.out.block w.heap.size (by omega) (fun hm=>by have:=hS5 _ hm;omega)).trans HB.out);have hs5:=HK5.out.size;have HBel5:Hid (Below T.n0 W W5):=hid (HK5.out.below y73Z (fun q hq=>by have:=hS5 q hq;have:=hBd.n0;omega));clear hhv' hhds' HZ
  gi_wp2
  gi_loopw [53] (fun z wr=>∃(i:Nat) (vT':Value),i<=ps.length/\z=ab i/\Hid (GQ wr w.heap.size wb w1.heap.size (ac T.tb) rv vd nN vT' hv' (tls++(ps.take i).map some) hds')/\Hid (A1 W5 wr (wb::(Value.slice adT kT capT).ownBlock.toList))/\Hid (BH W5.heap.size (.slice adT kT capT) vT')) (fun z _=>ps.length - (intOf z).toNat)
  case atStart=>exact⟨0,_,Nat.zero_le _,rfl,hid (by simpa using HC5.out),hid (A1.refl _ _),hid (BH.refl _ _)⟩
  case round=>
   obtain⟨i,vT',hi,rfl,hcv,hkw,hfr⟩:=hrel
   by_cases hlt2:i<ps.length
   ·obtain⟨p,hp⟩:∃p,ps[i]?=some p:=⟨_,gE hlt2⟩
    obtain⟨g,off,rfl,hgn,hgc⟩:=HPc.out (by omega);have hbr:Below T.n0 W wr:=HBel5.out.trans (hkw.out.below y73Z (fun q hq=>by
     rcases List.mem_cons.1 hq with e |e
     ·rw[e];exact hBw.n0
     ·have:=(HC.out.tl.lt q y7Z).1;have:=hBd.n0;omega))
    obtain⟨q1,q2⟩:=hgc i p hp;have cp0:=(hbr.cell (p:=(af g (off+i*2))) (by exact hgn)).trans q1;have cp1:=(hbr.cell (p:=(af g (off+i*2+1))) (by exact hgn)).trans q2;have HP:=hid hp;have HTC:Hid (TC (some p)=[.bool false,.bool (AQ p),ab (AP p)]):=hid rfl;obtain⟨bp,hbp⟩:=qE (AQ p);obtain⟨np,hnp⟩:=qE (AP p);rw[hbp,hnp]at HTC;rw[hbp]at cp0;rw[hnp]at cp1;clear hbr q1 q2 hgc hp hbp hnp
    gi_wp2
    obtain⟨w8,hw8⟩:=qE (wr.alloc (.cells #[.bool bp,ab np] 105));have hk8:A1 wr w8 []:=by rw[<-hw8];exact(A1.refl wr []).alloc _
    have hp8':w8.heap[wr.heap.size]?=some (.cells #[.bool bp,ab np] 105 (0,0)):=by rw[<-hw8];exact World.alloc_heap_new wr _
    have hz8:wr.heap.size<w8.heap.size:=lt_of_block hp8';rw[hw8];have HC8:=hid (hcv.out.keeps hk8 (fun k h=>by cases h));have HK8:Hid (A1 W5 w8 (wb::(Value.slice adT kT capT).ownBlock.toList)):=hid (hkw.out.trans (hk8.mono (fun q h=>by cases h)));have ogP8:some wr.heap.size≠vT'.ownBlock:=fun e=>by have:=CK hcv.out.tl e.symm;omega
    have cq0:=(A0 (j:=0) hp8').trans rfl;have cq1:=(A0 (j:=1) hp8').trans rfl;obtain⟨kk,hkk⟩:=qE ((tls++(ps.take i).map some).length);have hkk5:kk<=548:=by rw[<-hkk,lA,lM,List.length_take,HLn.out.1];omega
    have hrw8:w8.ownsRow w.heap.size 205 3 vT' kk (FN (tls++(ps.take i).map some)):=by rw[<-hkk];exact HC8.out.tl
    have hb8:w8.heap[w.heap.size]?=some (.cells #[ac wb] 130 (0,0)):=(HK8.out.block w.heap.size (by omega) (fun hm=>by
     rcases List.mem_cons.1 hm with e |e
     ·omega
     ·exact A6 HC5.out.tl HB5.out (by decide) y7Z)).trans HB5.out
    have cB8:w8.cell? (af w.heap.size 0)=some (ac wb):=(A0 hb8).trans rfl;have c38:w8.cell? (af wb 3)=some vT':=(A0 HC8.out.blk).trans rfl;have ogB8:some w.heap.size≠vT'.ownBlock:=fun e=>A6 hrw8 hb8 (by decide) e.symm
    have ogW8:some wb≠vT'.ownBlock:=fun e=>by have:=(hrw8.lt wb e.symm).1;omega
    have HRow8:=hid hrw8;have HKk:=hid hkk;have hs8:W5.heap.size<=w8.heap.size:=HK8.out.size;have hzr:W5.heap.size<=wr.heap.size:=hkw.out.size;have hwr:wb<wr.heap.size:=by omega
    clear hw8 hk8 hp8' hkk hrw8 hb8 hcv hkw cp0 cp1;refine C3 (fun w'=>w'.cell? (af w.heap.size 0)=some (ac wb)/\w'.cell? (af wb 3)=some vT'/\w'.cell? (af wr.heap.size 0)=some (.bool bp)/\w'.cell? (af wr.heap.size 1)=some (ab np)) hmx y1Z y9Z y1Z ⟨cB8,c38,cq0,cq1⟩ (fun hH=>?_);simp only[AC,BM,AO];refine tB 0 hH ?_;refine tB 1 hH ?_;refine tB 2 hH ?_;refine tB 3 hH ?_;refine tB 4 hH ?_;refine tB 5 hH ?_;refine tB 6 hH ?_;refine tL ?_;refine tS 7 fun K hK=>?_
    refine tM ?_;go_simp;refine hK.out _ _ ?_ fun hH=>?_
    ·exact⟨A2 _ hH.1,A2 _ hH.2.1,A2 _ hH.2.2.1,A2 _ hH.2.2.2⟩
    clear hK K;refine tL ?_;refine tS 8 fun K hK=>?_
    refine tM ?_;rw[if_pos (by rfl)];refine wp_append_lies _ (.tmp 61) (.tmp 64) 165 rfl w.heap.size 205 iT (.agg #[.bool false,.bool false,ab 0]) 3 24 Tryz.underlying165 hiT hzT0 hzT1 hzT2 rfl (by decide) vT' _ _ rfl (HRow8.out.alloc _) (af w8.heap.size 0) 1 1 [.bool false,.bool bp,ab np] rfl rfl (World.news_of_block (fr:=(0,0)) (heap_alloc_new w8 _)) y4Z (by omega) y3Z (by omega) y2Z _ rfl ?_;intro g3 cap3 w9 hown hgrow hat hlt3;refine hK.out _ _ ?_ fun hH=>?_
    ·exact⟨(hgrow.cell_far _ y2Z (by exact ogB8)).trans hH.1,(hgrow.cell_far _ y2Z (by exact ogW8)).trans hH.2.1,(hgrow.cell_far _ y2Z (by exact ogP8)).trans hH.2.2.1,(hgrow.cell_far _ y2Z (by exact ogP8)).trans hH.2.2.2⟩
    clear hK K;refine tL ?_;refine tB 9 hH ?_;refine tB 10 hH ?_;refine tB 11 hH ?_;refine tL ?_;refine wpAnyH_done y1Z ?_ _;clear hH;obtain⟨z1,z2,z3⟩:=HC8.out.tail (o:=some p) (Wa:=(w8.alloc (.cells #[.bool false,.bool bp,ab np] 205)).drew) ((A1.refl w8 []).alloc _).drew hgrow (by rw[HKk.out,HTC.out];exact hown);have zc:w9.cell? (af wb 3)=some vT':=(A0 z1).trans rfl;have zf:=A3 (j:=3) z1;have HZ2:=hid z2;have HZ3:=hid z3;have HFr:Hid (BH w8.heap.size vT' (ae g3 (kk+1) cap3)):=hid (fun g hg=>by
     obtain rfl:g3=g:=by simpa[Value.ownBlock] using hg
     rcases hat with h4 |h4
     ·exact .inl h4
     ·exact .inr y70Z)
    clear z1 z2 z3 hown hgrow hat hlt3 cB8 c38 cq0 cq1;show wpList _ _ _ _ _ _;go_wp2
    gi_wp2
    go_roundw
    case rel=>exact⟨i+1,_,by omega,by go_num,hid (by rw[List.take_add_one,HP.out,Option.toList_some,List.map_append,<-aA];exact HZ2.out),hid (HK8.out.fresh HZ3.out hfr.out (lR_ _)),hid (hfr.out.trans HFr.out hs8)⟩
    case measure=>simp[intOf];omega
   ·have hie:i=ps.length:=by omega
    subst hie;have HC8:=hid hcv.out;have HK8:=hid hkw.out;obtain⟨i,hi'⟩:=qF (ps.length);rw[<-hi']at HC8;have HIe:=hid hi';obtain⟨kk,hkk⟩:=qE ((tls++(ps.take i).map some).length);have hkk5:kk<=548:=by rw[<-hkk,lA,lM,List.length_take,HLn.out.1];omega
    have hrw8:wr.ownsRow w.heap.size 205 3 vT' kk (FN (tls++(ps.take i).map some)):=by rw[<-hkk];exact HC8.out.tl
    have hb8:wr.heap[w.heap.size]?=some (.cells #[ac wb] 130 (0,0)):=(HK8.out.block w.heap.size (by omega) (fun hm=>by
     rcases List.mem_cons.1 hm with e |e
     ·omega
     ·exact A6 HC5.out.tl HB5.out (by decide) y7Z)).trans HB5.out
    have cB8:wr.cell? (af w.heap.size 0)=some (ac wb):=(A0 hb8).trans rfl;have c38:wr.cell? (af wb 3)=some vT':=(A0 HC8.out.blk).trans rfl;have ogB8:some w.heap.size≠vT'.ownBlock:=fun e=>A6 hrw8 hb8 (by decide) e.symm
    have ogW8:some wb≠vT'.ownBlock:=fun e=>by have:=(hrw8.lt wb e.symm).1;omega
    have HRow8:=hid hrw8;have HKk:=hid hkk;have hs8:W5.heap.size<=wr.heap.size:=HK8.out.size;have HTC:Hid (TC none=[.bool true,.bool false,ab 0]):=hid rfl;clear hkk hrw8 hb8 hcv hkw hi'
    gi_wp2
    refine C3 (fun w'=>w'.cell? (af w.heap.size 0)=some (ac wb)/\w'.cell? (af wb 3)=some vT') hmx y1Z y9Z y1Z ⟨cB8,c38⟩ (fun hH=>?_);simp only[AC,BM,AO];refine tB 0 hH ?_;refine tB 1 hH ?_;refine tB 2 hH ?_;refine tB 3 hH ?_;refine tB 4 hH ?_;refine tB 5 hH ?_;refine tL ?_;refine tS 6 fun K hK=>?_
    refine tM ?_;go_simp;refine hK.out _ _ ?_ fun hH=>?_
    ·exact⟨A2 _ hH.1,A2 _ hH.2⟩
    clear hK K;refine tL ?_;refine tS 7 fun K hK=>?_
    refine tM ?_;rw[if_pos (by rfl)];refine wp_append_lies _ (.tmp 73) (.tmp 75) 165 rfl w.heap.size 205 iT (.agg #[.bool false,.bool false,ab 0]) 3 24 Tryz.underlying165 hiT hzT0 hzT1 hzT2 rfl (by decide) vT' _ _ rfl (HRow8.out.alloc _) (af wr.heap.size 0) 1 1 [.bool true,.bool false,ab 0] rfl rfl (World.news_of_block (fr:=(0,0)) (heap_alloc_new wr _)) y4Z (by omega) y3Z (by omega) y2Z _ rfl ?_;intro g3 cap3 w9 hown hgrow hat hlt3;refine hK.out _ _ ?_ fun hH=>?_
    ·exact⟨(hgrow.cell_far _ y2Z (by exact ogB8)).trans hH.1,(hgrow.cell_far _ y2Z (by exact ogW8)).trans hH.2⟩
    clear hK K;refine tL ?_;refine tB 8 hH ?_;refine tB 9 hH ?_;refine tB 10 hH ?_;refine tL ?_;refine wpAnyH_done y1Z ?_ _;clear hH;obtain⟨z1,z2,z3⟩:=HC8.out.tail (o:=none) (Wa:=(wr.alloc (.cells #[.bool true,.bool false,ab 0] 205)).drew) ((A1.refl wr []).alloc _).drew hgrow (by rw[HKk.out,HTC.out];exact hown);have zc:w9.cell? (af wb 3)=some vT':=(A0 z1).trans rfl;have zf:=A3 (j:=3) z1;have HZ2:=hid z2;have HZ3:=hid z3;clear z1 z2 z3 hown hgrow hat hlt3 cB8 c38;show wpList _ _ _ _ _ _;go_wp2;have hKe:=HK8.out.fresh HZ3.out hfr.out (lR_ _);have hS6:∀q∈wb::(Value.slice adT kT capT).ownBlock.toList,q=wb\/w.heap.size<q:=fun q hq=>by
     rcases List.mem_cons.1 hq with e |e
     ·exact .inl e
     ·have e:(Value.slice adT kT capT).ownBlock=some q:=by simpa using e
      have e1:=(HC5.out.tl.lt q e).1;have e2:q≠w.heap.size:=fun e3=>A6 HC5.out.tl HB5.out (by decide) (by rw[e,e3])
      exact .inr (by omega)
    refine⟨(G5 HK5.out (fun q hq=>HC.out.kinds ?_)).trans (G5 hKe (fun q hq=>HC5.out.kinds ?_)),HBel5.out.trans (hKe.below y73Z (fun q hq=>?_)),?_⟩
    ·rcases List.mem_cons.1 hq with e |e
     ·exact .inr (.inl e)
     ·exact .inr (.inr (.inr ⟨n,hnN,by simpa using e⟩))
    ·rcases List.mem_cons.1 hq with e |e
     ·exact .inl e
     ·exact .inr (.inr (.inl y7Z))
    ·rcases hS6 q hq with e |e
     ·rw[e];exact hBw.n0
     ·have:=hBd.n0;omega
    ·dsimp only
     rw[HCT.out];refine⟨ae g3 (kk+1) cap3,hv',?_,(HK.out.over HK5.out (fun q hq=>.inr (by have:=hS5 q hq;omega))).over hKe (fun q hq=>?_),(hKe.block w.heap.size (by omega) (fun hm=>by rcases hS6 _ hm with e |e <;> omega)).trans HB5.out,?_,HBl.out.trans (HBel5.out.trans (hKe.below y73Z (fun q hq=>?_)))⟩
     ·have h9:=HZ2.out
      rw[HIe.out,List.take_length]at h9;have e9:hds'=(D1 (tls,hds) (n,ps)).2:=by rw[<-HHd'.out,<-HLn.out.1];rfl
      rw[e9]at h9;exact h9
     ·rcases hS6 q hq with e |e
      ·exact .inl (by simp[e])
      ·exact .inr (by omega)
     ·have:=hKe.size;(try simp only[af]at this ⊢);omega
     ·rcases hS6 q hq with e |e
      ·rw[e];exact hBw.n0
      ·have:=hBd.n0;omega
 case done=>
  rintro D ys W hD hys ⟨vT,hv,h1,h2,h3,h4,h5⟩ hK;rw[hys]at h1;have HC:=hid h1;have HK:=hid h2;have HD:=hid hK;clear h1 h2 h3 h5 hys hK
  gi_wp2
  refine⟨by simp,.inl ⟨_,_,rfl,run_takeDeferred HD.out,?_⟩⟩;exact⟨_,results_none rfl _ _ _,rfl,w1.heap.size,vT,hv,HC.out.step (grownBy_putObj' _ D (.deferred none)) (fun r e=>by cases e;exact⟨_,HD.out,rfl⟩),HK.out.grown (grownBy_putObj' _ D (.deferred none)) (fun k e=>by cases e;exact .inr (by omega))⟩
 case stop=>
  rintro D c pre W' _ _ h _;exact h.elim
end
theorem V7 {b:List (Option Pt)}:∀{a:List (Option Pt)}{l:List Pt},tlF a=some l->tlF (a++b)=some l
 | [],l,h=>by cases h
 |none::a,l,h=>h
 |some p::a,l,h=>by
  simp only[tlF]at h;cases h1:tlF a with
  |none=>rw[h1]at h;cases h
  |some l'=>
   rw[h1]at h;show(tlF (a++b)).map (p:: ·)=some l;rw[V7 h1];exact h
theorem ZP:∀(ps:List Pt),tlF (ps.map some++ [none])=some ps
 | []=>rfl
 |p::ps=>by
  show(tlF (ps.map some++ [none])).map (p:: ·)=some (p::ps);rw[ZP ps];rfl
theorem QF {a b:List (Option Pt)}{q:Nat}{l:List Pt} (h:BK a q=some l):BK (a++b) q=some l:=by
 have hq:q<a.length:=by
  rcases Nat.lt_or_ge q a.length with h1 |h1
  ·exact h1
  ·unfold BK at h
   rw[List.drop_of_length_le h1]at h;cases h
 unfold BK at h ⊢;rw[List.drop_append_of_le_length (Nat.le_of_lt hq)];exact V7 h
theorem P3 {a:List (Option Pt)} (ps:List Pt) {k:Nat} (hk:k<=ps.length):BK (a++ps.map some++ [none]) (a.length+k)=some (ps.drop k):=by
 unfold BK;have h1:(a++ps.map some++ [none]).drop (a.length+k)=(ps.drop k).map some++ [none]:=by
  rw[aA,<-List.drop_drop,List.drop_left,List.drop_append_of_le_length (by simpa using hk),<-List.map_drop]
 rw[h1];exact ZP _
structure TX (l:List (Nat × List Pt)) (s:List (Option Pt) × (Nat->List Nat)):Prop where
 ok:PH s.1
 old:∀n q,q∈s.2 n->∃rhs,BK s.1 q=some rhs/\(n,rhs)∈l
 new:∀n rhs,(n,rhs)∈l->∃q,q∈s.2 n/\BK s.1 q=some rhs
 pt:∀(q:Nat) (p:Pt),s.1[q]?=some (some p)->∃r∈l,p∈r.2
theorem TX.step {l:List (Nat × List Pt)}{s:List (Option Pt) × (Nat->List Nat)} (h:TX l s) (r:Nat × List Pt):TX (l++ [r]) (D1 s r) where
 ok:=fun q hq=>by
  have e:(D1 s r).1.length=s.1.length+(r.2.length+1):=by simp[D1]
  rcases Nat.lt_or_ge q s.1.length with h1 |h1
  ·obtain⟨l',h2⟩:=h.ok q h1
   refine⟨l',?_⟩;unfold D1;rw[aA];exact QF h2
  ·refine⟨r.2.drop (q - s.1.length),?_⟩
   have:=P3 (a:=s.1) r.2 (k:=q - s.1.length) (by omega);rw[show s.1.length+(q - s.1.length)=q by omega]at this;exact this
 old:=fun n q hq=>by
  have hold:q∈s.2 n->∃rhs,BK (D1 s r).1 q=some rhs/\(n,rhs)∈l++ [r]:=fun h1=>by
   obtain⟨rhs,h2,h3⟩:=h.old n q h1;refine⟨rhs,?_,List.mem_append_left _ h3⟩;unfold D1;rw[aA];exact QF h2
  simp only[D1]at hq;split at hq
  ·rename_i e
   rcases List.mem_append.1 hq with h1 |h1
   ·exact hold h1
   ·have h1:=mS.1 h1
    refine⟨r.2,?_,List.mem_append_right _ (by rw[e];exact mS.2 rfl)⟩;have:=P3 (a:=s.1) r.2 (k:=0) (Nat.zero_le _);rw[h1];exact this
  ·exact hold hq
 new:=fun n rhs hr=>by
  rcases List.mem_append.1 hr with h1 |h1
  ·obtain⟨q,h2,h3⟩:=h.new n rhs h1
   refine⟨q,?_,?_⟩
   ·simp only[D1]
    split
    ·exact List.mem_append_left _ h2
    ·exact h2
   ·unfold D1
    rw[aA];exact QF h3
  ·have h1:=mS.1 h1
   subst h1;refine⟨s.1.length,?_,?_⟩
   ·simp[D1]
   ·have:=P3 (a:=s.1) rhs (k:=0) (Nat.zero_le _)
    simpa[D1] using this
 pt:=fun q p hq=>by
  simp only[D1]at hq;rw[aA]at hq
  rcases Nat.lt_or_ge q s.1.length with h1 |h1
  ·rw[aL h1]at hq
   obtain⟨r',h2,h3⟩:=h.pt q p hq;exact⟨r',List.mem_append_left _ h2,h3⟩
  ·rw[aR_ h1]at hq
   have h2:=mG hq
   rcases List.mem_append.1 h2 with h3 |h3
   ·obtain⟨p',h4,h5⟩:=List.mem_map.1 h3
    injection h5 with h5
    subst h5;exact⟨r,List.mem_append_right _ (mS.2 rfl),h4⟩
   ·have h3:=mS.1 h3
    cases h3
theorem P6 (l:List (Nat × List Pt)):TX l (BD l):=by
 have h:∀(l l0:List (Nat × List Pt)) (s:List (Option Pt) × (Nat->List Nat)),TX l0 s->TX (l0++l) (l.foldl D1 s):=by
  intro l
  induction l with
  |nil=>intro l0 s hs;rw[List.append_nil];exact hs
  |cons r l ih=>
   intro l0 s hs;have:=ih (l0++ [r]) _ (hs.step r);rw[aA]at this;exact this
 have h0:TX [] (([],fun _=>[]):List (Option Pt) × (Nat->List Nat)):=⟨fun q hq=>absurd hq (by simp),fun n q hq=>absurd hq (by simp),fun n rhs hr=>absurd hr (by simp),fun q p hq=>absurd hq (by simp)⟩;exact h l [] _ h0
theorem fX {tls:List (Option Pt)}{q:Nat}{l:List Pt} (h:BK tls q=some l):q<tls.length:=by
 rcases Nat.lt_or_ge q tls.length with h1 |h1
 ·exact h1
 ·unfold BK at h
  rw[List.drop_of_length_le h1]at h;cases h
def M6 (nN:Nat) (hds:Nat->List Nat):List (List Nat):=(List.range nN).map hds
theorem fT {nN n:Nat} (hn:n<nN) (hds:Nat->List Nat):(M6 nN hds)[n]?=some (hds n):=by
 unfold M6;rw[gM,List.getElem?_range hn];rfl
theorem bG (nN:Nat) (hds:Nat->List Nat):(M6 nN hds).length=nN:=by unfold M6;simp
theorem U1 {nN n:Nat}{hds:Nat->List Nat}{l:List Nat} (h:(M6 nN hds)[n]?=some l):n<nN/\l=hds n:=by
 have h1:n<nN:=by have:=(gS_.1 h).1;rwa [bG]at this
 rw[fT h1]at h;injection h with h
 exact⟨h1,h.symm⟩
theorem sZ {N:NG} (hN:N.Ok):Tls N (BK (BD N.rules).1) (FI (M6 N.nN (BD N.rules).2)):=by
 have hI:=P6 N.rules;refine⟨fun q p ps h=>?_,fun n rhs hr=>?_,fun n q h=>?_⟩
 ·rcases RW hI.ok h with⟨h1,_⟩ | ⟨p',ps',h1,h2⟩
  ·cases h1
  ·obtain⟨_,ps2,h3,h4⟩:=MR hI.ok h2
   rw[h]at h4;injection h4 with h4
   injection h4 with _ h5
   rw[h5];exact h3
 ·obtain⟨q,h1,h2⟩:=hI.new n rhs hr
  exact⟨q,⟨_,fT (hN.lt _ hr) _,h1⟩,h2⟩
 ·obtain⟨l,h1,h2⟩:=h
  obtain⟨_,rfl⟩:=U1 h1;exact hI.old n q h2
end Go.Proofs.YtjjggdcnpndgjabGreatDoor
