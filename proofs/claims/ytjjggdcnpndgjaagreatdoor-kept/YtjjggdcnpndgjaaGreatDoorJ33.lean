import Derived.Test.YtjjggdcnpndgjaaGreatDoorJ32
set_option linter.unusedSimpArgs false
set_option maxHeartbeats 8000000
set_option maxRecDepth 100000
namespace Go.Proofs.YtjjggdcnpndgjaaGreatDoor
open Go.RowKit Go.Shelf
section
attribute [local go_sem] Oper.semAt_some
def BE (l:List (Nat × List Pt)):List (Option Pt) × (Nat->List Nat):=l.foldl D4 ([],fun _=>[])
theorem SN (l:List (Nat × List Pt)) (r:Nat × List Pt):BE (l++ [r])=D4 (BE l) r:=by unfold BE;rw[List.foldl_append];rfl
theorem T4:∀(l:List (Nat × List Pt)) (s:List (Option Pt) × (Nat->List Nat)),(∀r∈l,r.2.length<=8)->(l.foldl D4 s).1.length<=s.1.length+9*l.length/\∀n,((l.foldl D4 s).2 n).length<=(s.2 n).length+l.length
 | [],s,_=>⟨by simp,fun n=>by simp⟩
 |r::l,s,h=>by
  obtain⟨h1,h2⟩:=T4 l (D4 s r) (fun x hx=>h x (List.mem_cons_of_mem _ hx));have h3:=h r (List.mem_cons_self ..);rw[List.foldl_cons];refine⟨?_,fun n=>?_⟩
  ·have e:(D4 s r).1.length=s.1.length+r.2.length+1:=by simp[D4];omega
   simp only[lC];omega
  ·have e:((D4 s r).2 n).length<=(s.2 n).length+1:=by
    simp only[D4];split
    ·simp
    ·omega
   have:=h2 n;simp only[lC];omega
theorem A1.over {a b c:World}{S S':List Nat} (h:A1 a b S) (k:A1 b c S') (hS:∀q∈S',q∈S\/a.heap.size<=q):A1 a c S:=
 ⟨k.os.trans h.os,k.tape.trans h.tape,k.output.trans h.output,lT_ h.size k.size,fun q hq hm=>(k.block q (lL hq h.size) (fun h1=>by
  rcases hS q h1 with e |e
  ·exact hm e
  ·omega)).trans (h.block q hq hm)⟩
theorem QZ (l:List (Nat × List Pt)) (h:∀r∈l,r.2.length<=8):(BE l).1.length<=9*l.length/\∀n,((BE l).2 n).length<=l.length:=by
 obtain⟨h1,h2⟩:=T4 l ([],fun _=>[]) h;unfold BE;exact⟨by simpa using h1,fun n=>by simpa using h2 n⟩
theorem aD {T:Tab}{w:World} (hI:T.In w) {wb:Nat}{rv vd:Value} (hwb:w.heap[wb]?=some (.cells #[ac T.tb,rv,vd,.slice none 0 0,.slice none 0 0,.slice none 0 0] 306 (0,0))) (hBw:T.Bd wb):
  Calls Tryz.prog 188 #[ac wb] w fun e w'=>e=.returned (.tuple #[])/\∃gh vT hv,GV w' w.heap.size wb gh (ac T.tb) rv vd T.N.nN vT hv (BE T.N.rules).1 (BE T.N.rules).2/\A1 w w' [wb]:=by
 obtain⟨iT,hiT,hzT0,hzT1,hzT2⟩:=info_parts Tryz.infoB346;obtain⟨iI,hiI,hzI0,hzI1,hzI2⟩:=info_parts Tryz.infoX3;obtain⟨iS,hiS,hzS0,hzS1,hzS2⟩:=info_parts Tryz.infoX45;have hwl:wb<w.heap.size:=lt_of_block hwb;obtain⟨d0,d1,_⟩:=hI.tv.heads;have hBd:=hI.bd;have htl:T.tb<w.heap.size:=hBd.tb;have hn20:=hI.fc.gr.leN;have hr60:=hI.fc.gr.leR;have HIn:Hid (T.In w):=hid hI;obtain⟨nN,hnN⟩:=qF (T.N.nN);have HNN:=hid hnN;rw[<-hnN]at d1 hn20 ⊢;clear hI hnN;refine(callsIn_wide (n:=4)).1 ?_;refine callsIn_of_wp_marks Tryz.func188 rfl trivial ?_ rfl;simp only[Tryz.ntmps188,List.size_toArray,lC,List.length_nil,Nat.reduceAdd,Nat.reduceSub,Array.replicate_succ,Array.replicate_zero,List.push_toArray,List.append_toArray,List.nil_append,List.cons_append];have bx:=World.alloc_heap_new w (.cells #[ac wb] 270);obtain⟨w1,hw1⟩:=qE (w.alloc (.cells #[ac wb] 270));have hk1:A1 w w1 []:=by rw[<-hw1];exact(A1.refl w []).alloc _
 have hs1:w.heap.size<w1.heap.size:=by rw[<-hw1,World.size_alloc];omega
 have HW1:=hid hw1;rw[hw1]at bx;clear hw1;have hwb1:=(hk1.block wb hwl (by simp)).trans hwb;have e0:w1.cell? (af wb 0)=some (ac T.tb):=(A0 hwb1).trans rfl;have e4:w1.cell? (af wb 4)=some (.slice none 0 0):=(A0 hwb1).trans rfl;have f4:w1.frozen? (af wb 4)=false:=A3 hwb1;have d1':=(hk1.cell (p:=(af T.tb 1)) (by exact htl) (by simp)).trans d1
 gi_wp2_with fail
 rw[HW1.out];refine KB ((wpIn_wide (n:=4)).2 ?_);refine AC (fun w'=>w'.cell? (af w.heap.size 0)=some (ac wb)/\w'.cell? (af wb 0)=some (ac T.tb)/\w'.cell? (af T.tb 1)=some (ae T.gN nN T.capN)) hmx y1Z ⟨(A0 bx).trans rfl,e0,d1'⟩ (fun hH=>?_);simp only[AA,BN,AO];refine tB 0 hH ?_;refine tB 1 hH ?_;refine tB 2 hH ?_;refine tB 3 hH ?_;refine tB 4 hH ?_;refine tB 5 hH ?_;refine tB 6 hH ?_;refine tB 7 hH ?_;refine tB 8 hH ?_;refine tB 9 hH ?_;refine tB 10 hH ?_;refine tL ?_;refine tS 11 fun K hK=>?_
 refine tM ?_;rw[if_pos (by rfl)];refine GB _ (.tmp 16) (.tmp 16) 60 rfl 45 iS (.slice none 0 0) Tryz.underlying60 hiS hzS0 nN rfl rfl (by rw[hzS2];omega) (by omega) ?_;rw[hzS1];refine hK.out _ _ ?_ fun hH=>?_
 ·exact⟨A2 _ hH.1,A2 _ hH.2.1,A2 _ hH.2.2⟩
 clear hK K;refine tL ?_;refine tB 12 hH ?_;refine tB 13 hH ?_;refine tB 14 hH ?_;refine tL ?_;refine wpAnyH_done y1Z ?_ _;clear hH;have hmk:w1.drew.alloc (.cells (madeCells (Value.slice none 0 0).cells (nN*1)) 45)=(w1.alloc (.cells (madeCells #[.slice none 0 0] nN) 45)).drew:=by rw[Nat.mul_one];rfl
 rw[hmk];clear hmk;obtain⟨W2,hW2⟩:=qE ((w1.alloc (.cells (madeCells #[.slice none 0 0] nN) 45)).drew);have hk2:A1 w1 W2 []:=by rw[<-hW2];exact((A1.refl w1 []).alloc _).drew
 have hgh2:W2.heap[w1.heap.size]?=some (.cells (madeCells #[.slice none 0 0] nN) 45 (0,0)):=by rw[<-hW2];exact World.alloc_heap_new w1 _
 have hs2:w1.heap.size<W2.heap.size:=lt_of_block hgh2;rw[hW2];have hwb2:=(hk2.block wb (by omega) (by simp)).trans hwb1;have e4':W2.cell? (af wb 4)=some (.slice none 0 0):=(A0 hwb2).trans rfl;have f4':W2.frozen? (af wb 4)=false:=A3 hwb2;have bx2:=(hk2.block w.heap.size hs1 (by simp)).trans bx;have HX:=hid (And.intro (hk1.trans hk2) (And.intro hwb2 hgh2));clear hW2 hk2 hgh2 hwb2 e0 e4 f4 d1' hk1 hwb1;show wpList _ _ _ _ _ _;go_wp2;obtain⟨W3,hW3⟩:=qE (W2.setCell (af wb 4) (ae w1.heap.size nN nN));have hk3:A1 W2 W3 [wb]:=by rw[<-hW3];exact(A1.refl W2 [wb]).setCell (by simp) _
 have hb3:W3.heap[wb]?=some (.cells #[ac T.tb,rv,vd,.slice none 0 0,ae w1.heap.size nN nN,.slice none 0 0] 306 (0,0)):=by rw[<-hW3];exact A5 (j:=4) HX.out.2.1 _
 rw[hW3];clear hW3;refine FB (Q:=fun _ _ _=>False) ?_;have hkw3:A1 w W3 [wb]:=(HX.out.1.mono (fun q h=>by cases h)).trans hk3;have hI3:T.In W3:=HIn.out.below (B:=wb) hBw (hkw3.below (by omega) (fun q hq=>by rw[mS.1 hq];exact lR_ _));have HC3:Hid (GV W3 w.heap.size wb w1.heap.size (ac T.tb) rv vd nN (.slice none 0 0) (fun _=>.slice none 0 0) (BE []).1 (BE []).2):=hid
  ⟨hb3,World.ownsRow_nil _ _ _ _,⟨_,(hk3.block _ hs2 y2Z).trans HX.out.2.2,by simp[size_madeCells],fun n hn=>by simp[madeCells,hn,Nat.mod_one]⟩,fun n hn=>World.ownsRow_nil _ _ _ _,fun n m _ _ _ g hg=>by simp[Value.ownBlock]at hg,by omega,hwl⟩
 have bx3':W3.heap[w.heap.size]?=some (.cells #[ac wb] 270 (0,0)):=(hk3.block w.heap.size (by omega) y2Z).trans bx2;have bx3:W3.cell? (af w.heap.size 0)=some (ac wb):=(A0 bx3').trans rfl;have e03:W3.cell? (af wb 0)=some (ac T.tb):=(A0 hb3).trans rfl;obtain⟨g0,g1,_⟩:=hI3.tv.heads;rw[<-HNN.out]at g1;have hs3:w1.heap.size<W3.heap.size:=by have:=hk3.size;omega
 have HI3:=hid hI3;have HKW3:=hid hkw3;clear hI3 hkw3 hk3 hb3
 gi_wp2_with (refine⟨trivial,?_⟩;gi_at_call 130;refine(TQ Fence.wide 3 trivial rfl _ _ _ _ _ _ _).mono ?_;rintro e W4' ⟨rfl,rfl⟩)
 have hbox:=BH W3 #[.slice T.adT T.N.nT T.capT,ae T.gN nN T.capN] 135 1;obtain⟨W4,hW4⟩:=qE (W3.alloc (.cells #[.slice T.adT T.N.nT T.capT,ae T.gN nN T.capN] 135));have hk4:A1 W3 W4 []:=by rw[<-hW4];exact(A1.refl W3 []).alloc _
 have hs4:W3.heap.size<W4.heap.size:=by rw[<-hW4,World.size_alloc];omega
 rw[hW4]at hbox ⊢;have bx4:=(hk4.block w.heap.size (by omega) (by simp)).trans bx3';have HC4:=hid (HC3.out.keeps hk4 (fun k h=>by cases h));have HKW4:Hid (A1 w W4 [wb]):=hid (HKW3.out.trans (hk4.mono (fun q h=>by cases h)));clear hW4 bx3 e03 g0 g1;have hbox:W4.cell? (af W3.heap.size 1)=some (ae T.gN T.N.nN T.capN):=by rw[<-HNN.out];exact hbox.trans rfl
 refine wpIn_rangeFunc_ownG (F:=Fence.wide) rfl (by omega) (gf:=183) (lb:= #[ac W3.heap.size]) rfl trivial (enters_of Tryz.func183 y1Z rfl)
  (O9 Fence.wide 3 trivial rfl (by omega) W3.heap.size T.n0 T.N T.tws T.pg T.adT T.capT T.gN T.capN W3 W4 HI3.out.fc.gr (hk4.below HI3.out.fc.ln (fun q h=>by cases h)) HI3.out.fc.ln (by omega) hbox) belowK_t (belowK_b (by have:=HI3.out.fc.ln;omega)) (Below.refl _ _) (fun _=>rfl)
  (fun(pre:List (RI T.N W3 T.n0)) W=>∃vT hv,GV W w.heap.size wb w1.heap.size (ac T.tb) rv vd nN vT hv (BE (pre.map fun x=>x.1.1)).1 (BE (pre.map fun x=>x.1.1)).2/\A1 w W [wb]/\W.heap[w.heap.size]?=some (.cells #[ac wb] 270 (0,0))/\W4.heap.size<=W.heap.size/\Below T.n0 W3 W) (fun _ _ _=>False)
  ?own (fun _ _ _ _ _ hs _ _=>hs) ⟨.slice none 0 0,fun _=>.slice none 0 0,HC4.out,HKW4.out,bx4,lR_ _,hk4.below HI3.out.fc.ln (fun q h=>by cases h)⟩
  (fun x=>{tmps:= #[ac wb,ac w.heap.size,ab (x.1.1.1:Int),x.1.2,undef,undef,ac wb,ac wb,ac wb,ac wb,ac T.tb,ac T.tb,ac T.tb,ac T.tb,.pointer (some (af T.tb 1)),ae T.gN nN T.capN,ab nN,ae w1.drew.heap.size nN nN,ac wb,.pointer (some (af wb 4)),ac wb,ac wb,ac wb,ac T.tb,ac T.tb,ac T.tb,ac T.tb,.agg #[.slice T.adT T.N.nT T.capT,ae T.gN nN T.capN],.func (.func 183) #[] #[ac W3.heap.size],ab (x.1.1.1:Int),x.1.2,undef,undef,undef,undef,undef,undef,undef,undef,undef,undef,undef,undef,undef,undef,undef,undef,undef,undef,undef,undef,undef,undef,undef,undef,undef,undef,undef,undef,undef,undef,undef,undef,undef,undef,undef,undef,undef,undef,undef,undef,undef,undef,undef,undef,undef,undef,undef,undef],defers:=[]}) ?assign ?body ?done ?stop
 case own=>
  rintro pre A C row ⟨vT,hv,h1,h2,h3,h4,h5⟩ hg hr;have hk:A1 A C row.toList:=(A1.refl A row.toList).grown hg (fun q e=>.inl y26Z);refine⟨vT,hv,h1.step hg (fun r e=>(hr r e).2),h2.grown hg (fun r e=>.inr (by have:=(hr r e).1;omega)),(hk.block w.heap.size (lt_of_block h3) (fun hm=>by have:=(hr _ y69Z).1;omega)).trans h3,lT_ h4 hg.size,h5.grown hg (by have:=HI3.out.fc.ln;omega) (fun q e=>by have:=(hr q e).1;have:=HI3.out.fc.ln;omega)⟩
 case assign=>
  intro l x W' K hK;simp only[WU]
  gi_wp2
  exact hK
 case body=>
  rintro l pre ⟨⟨⟨n,ps⟩,pv⟩,hx⟩ W ⟨vT,hv,h1,h2,h3,h4,h5⟩ hlt;have hxr:(n,ps)∈T.N.rules:=hx.1;have hnN:n<nN:=by rw[HNN.out];exact HI3.out.fc.gr.ok.lt _ hxr
  have hp8:ps.length<=8:=HI3.out.fc.gr.ok.parts _ hxr;have hpW:CK W T.n0 pv ps:=hx.2.below h5;have hsm:=QZ (pre.map fun x=>x.1.1) (fun r hr=>by
   obtain⟨y,_,rfl⟩:=List.mem_map.1 hr;exact HI3.out.fc.gr.ok.parts _ y.2.1)
  rw[lM]at hsm;have hT:BE ((pre++ [(⟨((n,ps),pv),hx⟩:RI T.N W3 T.n0)]).map fun x=>x.1.1)=D4 (BE (pre.map fun x=>x.1.1)) (n,ps):=by
   rw[List.map_append,List.map_singleton,SN]
  obtain⟨⟨tls,hds⟩,hth⟩:∃z,BE (pre.map fun x=>x.1.1)=z:=⟨_,rfl⟩;rw[hth]at hT h1 hsm;simp only at h1 hsm hlt ⊢;have HCT:=hid hT;obtain⟨ad,cap,rfl,hcap,hpc⟩:=hpW;obtain⟨kT,hkT⟩:=qE (tls.length);obtain⟨kH,hkH⟩:=qE ((hds n).length);have hkT':kT<=540:=by omega
  have hkH':kH<=60:=by have:=hsm.2 n;omega
  obtain⟨adT,capT,rfl,hcT⟩:∃ad cap,vT=.slice ad kT cap/\kT<=cap:=by rw[<-hkT];exact EB h1.tl
  have hrow:W.ownsRow w.heap.size 3 1 (hv n) kH (DE (hds n)):=by rw[<-hkH];exact h1.hi n hnN
  obtain⟨vH,hvH⟩:=qE (hv n);have cB:W.cell? (af w.heap.size 0)=some (ac wb):=(A0 h3).trans rfl;have c3:W.cell? (af wb 3)=some (.slice adT kT capT):=(A0 h1.blk).trans rfl;have c4:W.cell? (af wb 4)=some (ae w1.heap.size nN nN):=(A0 h1.blk).trans rfl;have cn:W.cell? (af w1.heap.size n)=some vH:=by
   obtain⟨cs,hc1,hc2,hc3⟩:=h1.hb;rw[<-hvH];exact(A0 hc1).trans (hc3 n hnN)
  obtain⟨csg,hcg,_,_⟩:=h1.hb;rw[hvH]at hrow;have ogB:some w.heap.size≠vH.ownBlock:=fun e=>A6 hrow h3 (by decide) e.symm
  have ogG:some w1.heap.size≠vH.ownBlock:=fun e=>A6 hrow hcg (by decide) e.symm
  have ogW:some wb≠vH.ownBlock:=fun e=>by have:=(hrow.lt wb e.symm).1;omega
  have hlG:w1.heap.size<W.heap.size:=lt_of_block hcg;have HPc:=hid hpc;have HRow:=hid hrow;have HC:=hid h1;have HK:=hid h2;have HB:=hid h3;have HBl:=hid h5;have HLn:=hid (And.intro hkT (And.intro hkH hvH));have hni:((n:Int)< (nN:Int)):=by omega
  clear hxr hpc hsm hT hth hkT hkH hvH hrow h1 h2 h3 h5 hcg
  gi_wp2
  refine CV (fun w'=>w'.cell? (af w.heap.size 0)=some (ac wb)/\w'.cell? (af wb 3)=some (.slice adT kT capT)/\w'.cell? (af wb 4)=some (ae w1.heap.size nN nN)/\w'.cell? (af w1.heap.size n)=some vH) hmx y1Z y9Z y1Z ⟨cB,c3,c4,cn⟩ (fun hH=>?_);simp only[AA,BN,AO];refine tB 0 hH ?_;refine tB 1 hH ?_;refine tB 2 hH ?_;refine tB 3 hH ?_;refine tB 4 hH ?_;refine tB 5 hH ?_;refine tB 6 hH ?_;refine tB 7 hH ?_;refine tB 8 hH ?_;refine tB 9 hH ?_;refine tB 10 hH ?_;refine tB 11 hH ?_;refine tB 12 hH ?_;refine tB 13 hH ?_;refine tB 14 hH ?_;refine tB 15 hH ?_;refine tB 16 hH ?_;refine tL ?_;refine tS 17 fun K hK=>?_
  refine tM ?_;go_simp;refine hK.out _ _ ?_ fun hH=>?_
  ·exact⟨A2 _ hH.1,A2 _ hH.2.1,A2 _ hH.2.2.1,A2 _ hH.2.2.2⟩
  clear hK K;refine tL ?_;refine tS 18 fun K hK=>?_
  refine tM ?_;rw[if_pos (by rfl)];refine wp_append_lies _ (.tmp 42) (.tmp 48) 45 rfl w.heap.size 3 iI (ab 0) 1 8 Tryz.underlying45 hiI hzI0 hzI1 hzI2 rfl (by decide) vH _ _ rfl (HRow.out.alloc _) (af W.heap.size 0) 1 1 [ab kT] rfl rfl (World.news_of_block (fr:=(0,0)) (heap_alloc_new W _)) y4Z (by omega) y3Z (by omega) y2Z _ rfl ?_;intro g2 cap2 w7 hown hgrow hat hlt2;refine hK.out _ _ ?_ fun hH=>?_
  ·exact⟨(hgrow.cell_far _ y2Z (by exact ogB)).trans hH.1,(hgrow.cell_far _ y2Z y64Z).trans hH.2.1,(hgrow.cell_far _ y2Z y64Z).trans hH.2.2.1,(hgrow.cell_far _ y2Z (by exact ogG)).trans hH.2.2.2⟩
  clear hK K;refine tL ?_;refine tB 19 hH ?_;refine tB 20 hH ?_;refine tL ?_;refine wpAnyH_done y1Z ?_ _;clear hH;obtain⟨z1,z2,z3⟩:=HC.out.head (x:=kT) hnN (Wa:=(W.alloc (.cells #[ab kT] 3)).drew) ((A1.refl W []).alloc _).drew (by rw[HLn.out.2.2];exact hgrow) (by rw[HLn.out.2.1];exact hown) (fun g hg=>by
   obtain rfl:g2=g:=by simpa[Value.ownBlock] using hg
   rcases hat with h4 |h4
   ·exact .inl (by rw[HLn.out.2.2];exact h4)
   ·exact .inr y66Z)
  obtain⟨cs1,hc1,hc2⟩:=z1;have zc:w7.cell? (af w1.heap.size n)=some (hv n):=(A0 hc1).trans hc2;have zf:=A3 (j:=n) hc1;have HZ:=hid (And.intro z2 z3);clear z2 z3 hc1 hc2 hown hgrow hat hlt2 cB c3 c4 cn;show wpList _ _ _ _ _ _;go_wp2;obtain⟨W5,hW5⟩:=qE (w7.setCell (af w1.heap.size n) (ae g2 (kH+1) cap2));rw[hW5]at HZ ⊢;clear hW5 zc zf;obtain⟨hv',hhv'⟩:=qE ((fun m=>if m=n then ae g2 (kH+1) cap2 else hv m));obtain⟨hds',hhds'⟩:=qE ((fun m=>if m=n then hds m++ [kT]else hds m));rw[hhv',hhds']at HZ;have HC5:=hid HZ.out.1;have HK5:=hid HZ.out.2;have HHd':=hid hhds';have hS5:∀q∈w1.heap.size::(hv n).ownBlock.toList,w.heap.size<q:=fun q hq=>by
   rcases List.mem_cons.1 hq with e |e
   ·omega
   ·have e:(hv n).ownBlock=some q:=by simpa using e
    have e1:=((HC.out.hi n hnN).lt q e).1;have e2:w.heap.size≠q:=fun e3=>ogB (by rw[e3,<-HLn.out.2.2,e])
    omega
  have HB5:Hid (W5.heap[w.heap.size]?=some (.cells #[ac wb] 270 (0,0))):=hid ((HK5.out.block w.heap.size (by omega) (fun hm=>by have:=hS5 _ hm;omega)).trans HB.out);have hs5:=HK5.out.size;have HBel5:Hid (Below T.n0 W W5):=hid (HK5.out.below y70Z (fun q hq=>by have:=hS5 q hq;have:=hBd.n0;omega));clear hhv' hhds' HZ
  gi_wp2
  gi_loopw [53] (fun z wr=>∃(i:Nat) (vT':Value),i<=ps.length/\z=ab i/\Hid (GV wr w.heap.size wb w1.heap.size (ac T.tb) rv vd nN vT' hv' (tls++(ps.take i).map some) hds')/\Hid (A1 W5 wr (wb::(Value.slice adT kT capT).ownBlock.toList))/\Hid (BI W5.heap.size (.slice adT kT capT) vT')) (fun z _=>ps.length - (intOf z).toNat)
  case atStart=>exact⟨0,_,Nat.zero_le _,rfl,hid (by simpa using HC5.out),hid (A1.refl _ _),hid (BI.refl _ _)⟩
  case round=>
   obtain⟨i,vT',hi,rfl,hcv,hkw,hfr⟩:=hrel
   by_cases hlt2:i<ps.length
   ·obtain⟨p,hp⟩:∃p,ps[i]?=some p:=⟨_,gE hlt2⟩
    obtain⟨g,off,rfl,hgn,hgc⟩:=HPc.out (by omega);have hbr:Below T.n0 W wr:=HBel5.out.trans (hkw.out.below y70Z (fun q hq=>by
     rcases List.mem_cons.1 hq with e |e
     ·rw[e];exact hBw.n0
     ·have:=(HC.out.tl.lt q y5Z).1;have:=hBd.n0;omega))
    obtain⟨q1,q2⟩:=hgc i p hp;have cp0:=(hbr.cell (p:=(af g (off+i*2))) (by exact hgn)).trans q1;have cp1:=(hbr.cell (p:=(af g (off+i*2+1))) (by exact hgn)).trans q2;have HP:=hid hp;have HTC:Hid (TC (some p)=[.bool false,.bool (AQ p),ab (AP p)]):=hid rfl;obtain⟨bp,hbp⟩:=qE (AQ p);obtain⟨np,hnp⟩:=qE (AP p);rw[hbp,hnp]at HTC;rw[hbp]at cp0;rw[hnp]at cp1;clear hbr q1 q2 hgc hp hbp hnp
    gi_wp2
    obtain⟨w8,hw8⟩:=qE (wr.alloc (.cells #[.bool bp,ab np] 235));have hk8:A1 wr w8 []:=by rw[<-hw8];exact(A1.refl wr []).alloc _
    have hp8':w8.heap[wr.heap.size]?=some (.cells #[.bool bp,ab np] 235 (0,0)):=by rw[<-hw8];exact World.alloc_heap_new wr _
    have hz8:wr.heap.size<w8.heap.size:=lt_of_block hp8';rw[hw8];have HC8:=hid (hcv.out.keeps hk8 (fun k h=>by cases h));have HK8:Hid (A1 W5 w8 (wb::(Value.slice adT kT capT).ownBlock.toList)):=hid (hkw.out.trans (hk8.mono (fun q h=>by cases h)));have ogP8:some wr.heap.size≠vT'.ownBlock:=fun e=>by have:=CY hcv.out.tl e.symm;omega
    have cq0:=(A0 (j:=0) hp8').trans rfl;have cq1:=(A0 (j:=1) hp8').trans rfl;obtain⟨kk,hkk⟩:=qE ((tls++(ps.take i).map some).length);have hkk5:kk<=548:=by rw[<-hkk,lA,lM,List.length_take,HLn.out.1];omega
    have hrw8:w8.ownsRow w.heap.size 346 3 vT' kk (FR (tls++(ps.take i).map some)):=by rw[<-hkk];exact HC8.out.tl
    have hb8:w8.heap[w.heap.size]?=some (.cells #[ac wb] 270 (0,0)):=(HK8.out.block w.heap.size (by omega) (fun hm=>by
     rcases List.mem_cons.1 hm with e |e
     ·omega
     ·exact A6 HC5.out.tl HB5.out (by decide) y5Z)).trans HB5.out
    have cB8:w8.cell? (af w.heap.size 0)=some (ac wb):=(A0 hb8).trans rfl;have c38:w8.cell? (af wb 3)=some vT':=(A0 HC8.out.blk).trans rfl;have ogB8:some w.heap.size≠vT'.ownBlock:=fun e=>A6 hrw8 hb8 (by decide) e.symm
    have ogW8:some wb≠vT'.ownBlock:=fun e=>by have:=(hrw8.lt wb e.symm).1;omega
    have HRow8:=hid hrw8;have HKk:=hid hkk;have hs8:W5.heap.size<=w8.heap.size:=HK8.out.size;have hzr:W5.heap.size<=wr.heap.size:=hkw.out.size;have hwr:wb<wr.heap.size:=by omega
    clear hw8 hk8 hp8' hkk hrw8 hb8 hcv hkw cp0 cp1;refine CV (fun w'=>w'.cell? (af w.heap.size 0)=some (ac wb)/\w'.cell? (af wb 3)=some vT'/\w'.cell? (af wr.heap.size 0)=some (.bool bp)/\w'.cell? (af wr.heap.size 1)=some (ab np)) hmx y1Z y9Z y1Z ⟨cB8,c38,cq0,cq1⟩ (fun hH=>?_);simp only[AA,BN,AO];refine tB 0 hH ?_;refine tB 1 hH ?_;refine tB 2 hH ?_;refine tB 3 hH ?_;refine tB 4 hH ?_;refine tB 5 hH ?_;refine tB 6 hH ?_;refine tL ?_;refine tS 7 fun K hK=>?_
    refine tM ?_;go_simp;refine hK.out _ _ ?_ fun hH=>?_
    ·exact⟨A2 _ hH.1,A2 _ hH.2.1,A2 _ hH.2.2.1,A2 _ hH.2.2.2⟩
    clear hK K;refine tL ?_;refine tS 8 fun K hK=>?_
    refine tM ?_;rw[if_pos (by rfl)];refine wp_append_lies _ (.tmp 61) (.tmp 64) 303 rfl w.heap.size 346 iT (.agg #[.bool false,.bool false,ab 0]) 3 24 Tryz.underlying303 hiT hzT0 hzT1 hzT2 rfl (by decide) vT' _ _ rfl (HRow8.out.alloc _) (af w8.heap.size 0) 1 1 [.bool false,.bool bp,ab np] rfl rfl (World.news_of_block (fr:=(0,0)) (heap_alloc_new w8 _)) y4Z (by omega) y3Z (by omega) y2Z _ rfl ?_;intro g3 cap3 w9 hown hgrow hat hlt3;refine hK.out _ _ ?_ fun hH=>?_
    ·exact⟨(hgrow.cell_far _ y2Z (by exact ogB8)).trans hH.1,(hgrow.cell_far _ y2Z (by exact ogW8)).trans hH.2.1,(hgrow.cell_far _ y2Z (by exact ogP8)).trans hH.2.2.1,(hgrow.cell_far _ y2Z (by exact ogP8)).trans hH.2.2.2⟩
    clear hK K;refine tL ?_;refine tB 9 hH ?_;refine tB 10 hH ?_;refine tB 11 hH ?_;refine tL ?_;refine wpAnyH_done y1Z ?_ _;clear hH;obtain⟨z1,z2,z3⟩:=HC8.out.tail (o:=some p) (Wa:=(w8.alloc (.cells #[.bool false,.bool bp,ab np] 346)).drew) ((A1.refl w8 []).alloc _).drew hgrow (by rw[HKk.out,HTC.out];exact hown);have zc:w9.cell? (af wb 3)=some vT':=(A0 z1).trans rfl;have zf:=A3 (j:=3) z1;have HZ2:=hid z2;have HZ3:=hid z3;have HFr:Hid (BI w8.heap.size vT' (ae g3 (kk+1) cap3)):=hid (fun g hg=>by
     obtain rfl:g3=g:=by simpa[Value.ownBlock] using hg
     rcases hat with h4 |h4
     ·exact .inl h4
     ·exact .inr y66Z)
    clear z1 z2 z3 hown hgrow hat hlt3 cB8 c38 cq0 cq1;show wpList _ _ _ _ _ _;go_wp2
    gi_wp2
    go_roundw
    case rel=>exact⟨i+1,_,by omega,by go_num,hid (by rw[List.take_add_one,HP.out,Option.toList_some,List.map_append,<-aA];exact HZ2.out),hid (HK8.out.fresh HZ3.out hfr.out (lR_ _)),hid (hfr.out.trans HFr.out hs8)⟩
    case measure=>simp[intOf];omega
   ·have hie:i=ps.length:=by omega
    subst hie;have HC8:=hid hcv.out;have HK8:=hid hkw.out;obtain⟨i,hi'⟩:=qF (ps.length);rw[<-hi']at HC8;have HIe:=hid hi';obtain⟨kk,hkk⟩:=qE ((tls++(ps.take i).map some).length);have hkk5:kk<=548:=by rw[<-hkk,lA,lM,List.length_take,HLn.out.1];omega
    have hrw8:wr.ownsRow w.heap.size 346 3 vT' kk (FR (tls++(ps.take i).map some)):=by rw[<-hkk];exact HC8.out.tl
    have hb8:wr.heap[w.heap.size]?=some (.cells #[ac wb] 270 (0,0)):=(HK8.out.block w.heap.size (by omega) (fun hm=>by
     rcases List.mem_cons.1 hm with e |e
     ·omega
     ·exact A6 HC5.out.tl HB5.out (by decide) y5Z)).trans HB5.out
    have cB8:wr.cell? (af w.heap.size 0)=some (ac wb):=(A0 hb8).trans rfl;have c38:wr.cell? (af wb 3)=some vT':=(A0 HC8.out.blk).trans rfl;have ogB8:some w.heap.size≠vT'.ownBlock:=fun e=>A6 hrw8 hb8 (by decide) e.symm
    have ogW8:some wb≠vT'.ownBlock:=fun e=>by have:=(hrw8.lt wb e.symm).1;omega
    have HRow8:=hid hrw8;have HKk:=hid hkk;have hs8:W5.heap.size<=wr.heap.size:=HK8.out.size;have HTC:Hid (TC none=[.bool true,.bool false,ab 0]):=hid rfl;clear hkk hrw8 hb8 hcv hkw hi'
    gi_wp2
    refine CV (fun w'=>w'.cell? (af w.heap.size 0)=some (ac wb)/\w'.cell? (af wb 3)=some vT') hmx y1Z y9Z y1Z ⟨cB8,c38⟩ (fun hH=>?_);simp only[AA,BN,AO];refine tB 0 hH ?_;refine tB 1 hH ?_;refine tB 2 hH ?_;refine tB 3 hH ?_;refine tB 4 hH ?_;refine tB 5 hH ?_;refine tL ?_;refine tS 6 fun K hK=>?_
    refine tM ?_;go_simp;refine hK.out _ _ ?_ fun hH=>?_
    ·exact⟨A2 _ hH.1,A2 _ hH.2⟩
    clear hK K;refine tL ?_;refine tS 7 fun K hK=>?_
    refine tM ?_;rw[if_pos (by rfl)];refine wp_append_lies _ (.tmp 73) (.tmp 75) 303 rfl w.heap.size 346 iT (.agg #[.bool false,.bool false,ab 0]) 3 24 Tryz.underlying303 hiT hzT0 hzT1 hzT2 rfl (by decide) vT' _ _ rfl (HRow8.out.alloc _) (af wr.heap.size 0) 1 1 [.bool true,.bool false,ab 0] rfl rfl (World.news_of_block (fr:=(0,0)) (heap_alloc_new wr _)) y4Z (by omega) y3Z (by omega) y2Z _ rfl ?_;intro g3 cap3 w9 hown hgrow hat hlt3;refine hK.out _ _ ?_ fun hH=>?_
    ·exact⟨(hgrow.cell_far _ y2Z (by exact ogB8)).trans hH.1,(hgrow.cell_far _ y2Z (by exact ogW8)).trans hH.2⟩
    clear hK K;refine tL ?_;refine tB 8 hH ?_;refine tB 9 hH ?_;refine tB 10 hH ?_;refine tL ?_;refine wpAnyH_done y1Z ?_ _;clear hH;obtain⟨z1,z2,z3⟩:=HC8.out.tail (o:=none) (Wa:=(wr.alloc (.cells #[.bool true,.bool false,ab 0] 346)).drew) ((A1.refl wr []).alloc _).drew hgrow (by rw[HKk.out,HTC.out];exact hown);have zc:w9.cell? (af wb 3)=some vT':=(A0 z1).trans rfl;have zf:=A3 (j:=3) z1;have HZ2:=hid z2;have HZ3:=hid z3;clear z1 z2 z3 hown hgrow hat hlt3 cB8 c38;show wpList _ _ _ _ _ _;go_wp2;have hKe:=HK8.out.fresh HZ3.out hfr.out (lR_ _);have hS6:∀q∈wb::(Value.slice adT kT capT).ownBlock.toList,q=wb\/w.heap.size<q:=fun q hq=>by
     rcases List.mem_cons.1 hq with e |e
     ·exact .inl e
     ·have e:(Value.slice adT kT capT).ownBlock=some q:=by simpa using e
      have e1:=(HC5.out.tl.lt q e).1;have e2:q≠w.heap.size:=fun e3=>A6 HC5.out.tl HB5.out (by decide) (by rw[e,e3])
      exact .inr (by omega)
    refine⟨(G9 HK5.out (fun q hq=>HC.out.kinds ?_)).trans (G9 hKe (fun q hq=>HC5.out.kinds ?_)),HBel5.out.trans (hKe.below y70Z (fun q hq=>?_)),?_⟩
    ·rcases List.mem_cons.1 hq with e |e
     ·exact .inr (.inl e)
     ·exact .inr (.inr (.inr ⟨n,hnN,by simpa using e⟩))
    ·rcases List.mem_cons.1 hq with e |e
     ·exact .inl e
     ·exact .inr (.inr (.inl y5Z))
    ·rcases hS6 q hq with e |e
     ·rw[e];exact hBw.n0
     ·have:=hBd.n0;omega
    ·dsimp only
     rw[HCT.out];refine⟨ae g3 (kk+1) cap3,hv',?_,(HK.out.over HK5.out (fun q hq=>.inr (by have:=hS5 q hq;omega))).over hKe (fun q hq=>?_),(hKe.block w.heap.size (by omega) (fun hm=>by rcases hS6 _ hm with e |e <;> omega)).trans HB5.out,?_,HBl.out.trans (HBel5.out.trans (hKe.below y70Z (fun q hq=>?_)))⟩
     ·have h9:=HZ2.out
      rw[HIe.out,List.take_length]at h9;have e9:hds'=(D4 (tls,hds) (n,ps)).2:=by rw[<-HHd'.out,<-HLn.out.1];rfl
      rw[e9]at h9;exact h9
     ·rcases hS6 q hq with e |e
      ·exact .inl (by simp[e])
      ·exact .inr (by omega)
     ·have:=hKe.size;(try simp only[af]at this ⊢);omega
     ·rcases hS6 q hq with e |e
      ·rw[e];exact hBw.n0
      ·have:=hBd.n0;omega
 case done=>
  rintro D ys W hD hys ⟨vT,hv,h1,h2,h3,h4,h5⟩ hK;rw[hys]at h1;have HC:=hid h1;have HK:=hid h2;have HD:=hid hK;clear h1 h2 h3 h5 hys hK
  gi_wp2
  refine⟨by simp,.inl ⟨_,_,rfl,run_takeDeferred HD.out,?_⟩⟩;exact⟨_,results_none rfl _ _ _,rfl,w1.heap.size,vT,hv,HC.out.step (grownBy_putObj' _ D (.deferred none)) (fun r e=>by cases e;exact⟨_,HD.out,rfl⟩),HK.out.grown (grownBy_putObj' _ D (.deferred none)) (fun k e=>by cases e;exact .inr (by omega))⟩
 case stop=>
  rintro D c pre W' _ _ h _;exact h.elim
end
theorem UT {b:List (Option Pt)}:∀{a:List (Option Pt)}{l:List Pt},tlF a=some l->tlF (a++b)=some l
 | [],l,h=>by cases h
 |none::a,l,h=>h
 |some p::a,l,h=>by
  simp only[tlF]at h;cases h1:tlF a with
  |none=>rw[h1]at h;cases h
  |some l'=>
   rw[h1]at h;show(tlF (a++b)).map (p:: ·)=some l;rw[UT h1];exact h
theorem ZW:∀(ps:List Pt),tlF (ps.map some++ [none])=some ps
 | []=>rfl
 |p::ps=>by
  show(tlF (ps.map some++ [none])).map (p:: ·)=some (p::ps);rw[ZW ps];rfl
theorem RL {a b:List (Option Pt)}{q:Nat}{l:List Pt} (h:BK a q=some l):BK (a++b) q=some l:=by
 have hq:q<a.length:=by
  rcases Nat.lt_or_ge q a.length with h1 |h1
  ·exact h1
  ·unfold BK at h
   rw[List.drop_of_length_le h1]at h;cases h
 unfold BK at h ⊢;rw[List.drop_append_of_le_length (Nat.le_of_lt hq)];exact UT h
theorem PD {a:List (Option Pt)} (ps:List Pt) {k:Nat} (hk:k<=ps.length):BK (a++ps.map some++ [none]) (a.length+k)=some (ps.drop k):=by
 unfold BK;have h1:(a++ps.map some++ [none]).drop (a.length+k)=(ps.drop k).map some++ [none]:=by
  rw[aA,<-List.drop_drop,List.drop_left,List.drop_append_of_le_length (by simpa using hk),<-List.map_drop]
 rw[h1];exact ZW _
structure TA (l:List (Nat × List Pt)) (s:List (Option Pt) × (Nat->List Nat)):Prop where
 ok:PM s.1
 old:∀n q,q∈s.2 n->∃rhs,BK s.1 q=some rhs/\(n,rhs)∈l
 new:∀n rhs,(n,rhs)∈l->∃q,q∈s.2 n/\BK s.1 q=some rhs
 pt:∀(q:Nat) (p:Pt),s.1[q]?=some (some p)->∃r∈l,p∈r.2
theorem TA.step {l:List (Nat × List Pt)}{s:List (Option Pt) × (Nat->List Nat)} (h:TA l s) (r:Nat × List Pt):TA (l++ [r]) (D4 s r) where
 ok:=fun q hq=>by
  have e:(D4 s r).1.length=s.1.length+(r.2.length+1):=by simp[D4]
  rcases Nat.lt_or_ge q s.1.length with h1 |h1
  ·obtain⟨l',h2⟩:=h.ok q h1
   refine⟨l',?_⟩;unfold D4;rw[aA];exact RL h2
  ·refine⟨r.2.drop (q - s.1.length),?_⟩
   have:=PD (a:=s.1) r.2 (k:=q - s.1.length) (by omega);rw[show s.1.length+(q - s.1.length)=q by omega]at this;exact this
 old:=fun n q hq=>by
  have hold:q∈s.2 n->∃rhs,BK (D4 s r).1 q=some rhs/\(n,rhs)∈l++ [r]:=fun h1=>by
   obtain⟨rhs,h2,h3⟩:=h.old n q h1;refine⟨rhs,?_,List.mem_append_left _ h3⟩;unfold D4;rw[aA];exact RL h2
  simp only[D4]at hq;split at hq
  ·rename_i e
   rcases List.mem_append.1 hq with h1 |h1
   ·exact hold h1
   ·have h1:=mS.1 h1
    refine⟨r.2,?_,List.mem_append_right _ (by rw[e];exact mS.2 rfl)⟩;have:=PD (a:=s.1) r.2 (k:=0) (Nat.zero_le _);rw[h1];exact this
  ·exact hold hq
 new:=fun n rhs hr=>by
  rcases List.mem_append.1 hr with h1 |h1
  ·obtain⟨q,h2,h3⟩:=h.new n rhs h1
   refine⟨q,?_,?_⟩
   ·simp only[D4]
    split
    ·exact List.mem_append_left _ h2
    ·exact h2
   ·unfold D4
    rw[aA];exact RL h3
  ·have h1:=mS.1 h1
   subst h1;refine⟨s.1.length,?_,?_⟩
   ·simp[D4]
   ·have:=PD (a:=s.1) rhs (k:=0) (Nat.zero_le _)
    simpa[D4] using this
 pt:=fun q p hq=>by
  simp only[D4]at hq;rw[aA]at hq
  rcases Nat.lt_or_ge q s.1.length with h1 |h1
  ·rw[aL h1]at hq
   obtain⟨r',h2,h3⟩:=h.pt q p hq;exact⟨r',List.mem_append_left _ h2,h3⟩
  ·rw[aR_ h1]at hq
   have h2:=mG hq
   rcases List.mem_append.1 h2 with h3 |h3
   ·obtain⟨p',h4,h5⟩:=List.mem_map.1 h3
    injection h5 with h5
    subst h5;exact⟨r,List.mem_append_right _ (mS.2 rfl),h4⟩
   ·have h3:=mS.1 h3
    cases h3
theorem PS (l:List (Nat × List Pt)):TA l (BE l):=by
 have h:∀(l l0:List (Nat × List Pt)) (s:List (Option Pt) × (Nat->List Nat)),TA l0 s->TA (l0++l) (l.foldl D4 s):=by
  intro l
  induction l with
  |nil=>intro l0 s hs;rw[List.append_nil];exact hs
  |cons r l ih=>
   intro l0 s hs;have:=ih (l0++ [r]) _ (hs.step r);rw[aA]at this;exact this
 have h0:TA [] (([],fun _=>[]):List (Option Pt) × (Nat->List Nat)):=⟨fun q hq=>absurd hq (by simp),fun n q hq=>absurd hq (by simp),fun n rhs hr=>absurd hr (by simp),fun q p hq=>absurd hq (by simp)⟩;exact h l [] _ h0
theorem eZ {tls:List (Option Pt)}{q:Nat}{l:List Pt} (h:BK tls q=some l):q<tls.length:=by
 rcases Nat.lt_or_ge q tls.length with h1 |h1
 ·exact h1
 ·unfold BK at h
  rw[List.drop_of_length_le h1]at h;cases h
def MB (nN:Nat) (hds:Nat->List Nat):List (List Nat):=(List.range nN).map hds
theorem eV {nN n:Nat} (hn:n<nN) (hds:Nat->List Nat):(MB nN hds)[n]?=some (hds n):=by
 unfold MB;rw[gM,List.getElem?_range hn];rfl
theorem bM (nN:Nat) (hds:Nat->List Nat):(MB nN hds).length=nN:=by unfold MB;simp
theorem TY {nN n:Nat}{hds:Nat->List Nat}{l:List Nat} (h:(MB nN hds)[n]?=some l):n<nN/\l=hds n:=by
 have h1:n<nN:=by have:=(gS_.1 h).1;rwa [bM]at this
 rw[eV h1]at h;injection h with h
 exact⟨h1,h.symm⟩
theorem tQ {N:NG} (hN:N.Ok):Tls N (BK (BE N.rules).1) (FM (MB N.nN (BE N.rules).2)):=by
 have hI:=PS N.rules;refine⟨fun q p ps h=>?_,fun n rhs hr=>?_,fun n q h=>?_⟩
 ·rcases RY hI.ok h with⟨h1,_⟩ | ⟨p',ps',h1,h2⟩
  ·cases h1
  ·obtain⟨_,ps2,h3,h4⟩:=MV hI.ok h2
   rw[h]at h4;injection h4 with h4
   injection h4 with _ h5
   rw[h5];exact h3
 ·obtain⟨q,h1,h2⟩:=hI.new n rhs hr
  exact⟨q,⟨_,eV (hN.lt _ hr) _,h1⟩,h2⟩
 ·obtain⟨l,h1,h2⟩:=h
  obtain⟨_,rfl⟩:=TY h1;exact hI.old n q h2
theorem WE {α:Type}{F:Fence}{n:Nat}{P:Program}{g:Operand}{ps:Array Tmp}{assign body:Code}{Q:Exit->Act->World->Prop}{a:Act}{w:World}
  (hro:F.round=none) (h1:1<=n) {gf:Nat}{lb:Array Value} (hg:a.eval g=.func (.func gf) #[] lb) (hF:F.fn gf) (he:∀args w,(callFunc gf args).run P w=.ok (.enter gf args) w)
  {enc:α->Array Value} (henc:∀x,(enc x).size=ps.size) {Ord:List α->Prop}{S:List α->Prop}{K:World->World->Prop}
  (hseq:∀(l:Nat) (J:List α->World->Prop) (W:World),Below w.heap.size w W->(∀pre x V,J pre V->Ord (pre++ [x])->YieldAt F (n - 1 - 1) P l (enc x) V fun e V'=>e=.returned (.bool true)/\J (pre++ [x]) V'/\K V V')->J [] W->
   CallsIn F (n - 1) P gf (#[.func (.yield l) #[] #[]]++lb) W fun e W'=>(∃v,e=.returned v)/\∃ys,S ys/\J ys W')
  (hKt:∀{A B C:World},K A B->K B C->K A C) (hKb:∀(W:World) (l:Nat) (o o':Obj),w.heap.size<=l->W.heap[l]?=some o->o.isCells=false->K W (W.putObj l o'))
  (I:List α->World->Prop) (hI:OwnFrom w.heap.size I) (h0:I [] w) (a₁:α->Act)
  (hassign:∀(l:Nat) (x:α) (W:World) (R:Act->World->Prop),R (a₁ x) W->assign.wpIn (F.inRound l) (n - 1 - 1) P (Exit.then R (fun _ _ _=>False)) {tmps:=(ps.zip (enc x)).foldl (fun t (p,v)=>t.setIfInBounds p v) a.tmps,defers:=[]} W)
  (hbody:∀(l:Nat) (pre:List α) (x:α) (W:World),I pre W->Ord (pre++ [x])->body.wpIn (F.inRound l) (n - 1 - 1) P (ownPostG w.heap.size K I (fun _ _ _=>False) (pre++ [x]) W) (a₁ x) W)
  (hdone:∀(D:Nat) (ys:List α) (W:World),w.heap.size<=D->S ys->I ys W->W.heap[D]?=some (.deferred (some []))->Q .normal {a with defers:={target:=.collected D,args:= #[]}::a.defers} W):
  (Code.rangeFunc g ps assign body).wpIn F n P Q a w:=by
 refine wpIn_rangeFunc ?_;intro fn hfn;rw[hro]
 let R:LoopState->Option Code->Loop:=fun st pe=>{state:=st,pending:=pe,fn,tmps:=a.tmps,params:=ps,assign,body,defers:=w.heap.size}
 let T:Loop->World->Prop:=fun r V=>V.heap[w.heap.size+1]?=some (.loop r)/\V.heap[w.heap.size]?=some (.deferred (some []))
 have hTs:∀{r:Loop}{V:World},T r V->w.heap.size+1<V.heap.size:=fun h=>(Array.getElem?_eq_some_iff.1 h.1).1
 have hTp:∀{r:Loop}{V:World} (r':Loop),T r V->T r' (V.putObj (w.heap.size+1) (.loop r')):=fun r' h=>⟨World.putObj_heap_same (hTs h),(World.putObj_heap_other (by omega)).trans h.2⟩
 have hTk:∀{r:Loop}{V V':World},T r V->KeepsFrom w.heap.size V V'->T r V':=fun h hk=>⟨hk.same _ _ (by omega) h.1 rfl,hk.same _ _ (lR_ _) h.2 rfl⟩
 have hIp:∀{pre:List α}{r:Loop}{V:World} (r':Loop),T r V->I pre V->I pre (V.putObj (w.heap.size+1) (.loop r')):=fun r' h hi=>hI.putObj _ hi (by omega) h.1 rfl
 obtain⟨W1,hW1⟩:=qE ((w.alloc (.deferred (some []))).alloc (.loop (R .ready none)));have hT1:T (R .ready none) W1:=by
  rw[<-hW1];have h2:=World.alloc_heap_new (w.alloc (.deferred (some []))) (.loop (R .ready none));rw[World.size_alloc]at h2;exact⟨h2,(Below.heap_alloc _ _ _ (by simp)).trans (World.alloc_heap_new w _)⟩
 have hi1:I [] W1:=by rw[<-hW1];exact hI.alloc _ (hI.alloc _ h0)
 have hb1:Below w.heap.size w W1:=by rw[<-hW1];exact((Below.refl _ w).alloc (lR_ _) _).alloc (by simp) _
 refine⟨w.heap.size+1,[{target:=.collected w.heap.size,args:= #[]}],W1,{target:=.fn (.func gf) lb,args:= #[.func (.yield (w.heap.size+1)) #[] #[]]},W1,gf,#[.func (.yield (w.heap.size+1)) #[] #[]]++lb,W1,?_,?_,?_,?_,fun _=>h1,?_⟩
 ·rw[<-hW1];exact run_enterLoop_outer _ _ _ _ _
 ·simp only[resolve,hg]
  simp[go_sem]
 ·intro f' hf'
  simp[Target.leads]at hf';subst hf';exact hF
 ·simp[invoke,go_sem,he]
 refine(hseq (w.heap.size+1) (fun pre V=>I pre V/\T (R .ready none) V) W1 hb1 ?_ ⟨hi1,hT1⟩).mono ?_
 ·rintro pre x V ⟨hi,hT⟩ hord
  have hy:=run_yield (P:=P) (args:=enc x) hT.1 (henc x);refine⟨fn,_,assign,body,hy,roundIn_of_wpIn hfn (hassign _ x V _ ⟨_,run_beginRound hT.1 rfl,?_⟩)⟩;have hT2:=hTp (R .busy none) hT;refine wpIn_mono (hbody _ pre x _ (hIp _ hT hi) hord) ?_;rintro e a3 V3 hp;cases e with
  |normal=>
   obtain⟨hk3,hq3,hi3⟩:=hp;have hT3:=hTk hT2 hk3;exact⟨_,_,run_endRound (P:=P) none hT3.1,rfl,⟨hIp _ hT3 hi3,hTp (R .ready none) hT3⟩,hKt (hKt (hKb _ _ _ _ (by omega) hT.1 rfl) hq3) (hKb _ _ _ _ (by omega) hT3.1 rfl)⟩
  |ret=>exact hp.2.elim
  |exit id=>exact hp.2.elim
  |goto t=>exact hp.2.elim
  |panic ch=>exact hp.elim
  |outgrown=>exact hp.elim
 ·rintro e W2 ⟨⟨v,rfl⟩,ys,hS,hi,hT⟩
  exact⟨none,_,run_endLoop (P:=P) hT.1 (by simp[R]),hdone _ ys _ (lR_ _) hS (hIp _ hT hi) ((World.putObj_heap_other (by omega)).trans hT.2)⟩
theorem nY (n:Nat) (hn:1<=n) (l Bn L:Nat) (hL:L<=1000000) (P:Nat->Value->Prop) (K:World->World->Prop) (Q:World->Prop) (hQK:∀A B,Q A->K A B->Q B)
  (hQ:∀W,Q W->∃ad cap,W.cell? (af Bn 0)=some (.slice ad L cap)/\L<=cap/\∀i,i<L->∃g off a,ad=some (af g off)/\P i a/\W.cell? (af g (off+i))=some a)
  (J:List (BX L P)->World->Prop) (W:World) (hY:∀pre x W,J pre W->T8 L ((pre++ [x]).map (·.1.1))->YieldAt Fence.wide (n - 1) Tryz.prog l (O7 x) W fun e W'=>
   e=.returned (.bool true)/\J (pre++ [x]) W'/\K W W')
  (hQW:Q W) (h0:J [] W):
  CallsIn Fence.wide n Tryz.prog 215 #[.func (.yield l) #[] #[],ac Bn] W fun e W'=>(∃v,e=.returned v)/\∃ys:List (BX L P),ys.map (·.1.1)=(List.range L).reverse/\J ys W':=by
 have HY:=hid hY;have HQK:=hid hQK;have HQ:=hid hQ;have HJ0:Hid (J [] W):=hid h0;have HQ0:Hid (Q W):=hid hQW;obtain⟨ad,cap,c0,hcap,_⟩:=hQ W hQW;clear hY h0 hQK hQ hQW;refine callsIn_of_wp Tryz.func215 rfl trivial ?_ rfl;simp only[Tryz.ntmps215,List.size_toArray,lC,List.length_nil,Nat.reduceAdd,Nat.reduceSub,Array.replicate_succ,Array.replicate_zero,List.push_toArray,List.append_toArray,List.nil_append,List.cons_append]
 gi_wp2
 clear c0 hcap
 gi_loopw [3] (fun p wr=>∃(k:Nat) (pre:List (BX L P)),k<=L/\p=ab ((k:Int) - 1)/\Hid (pre.map (·.1.1)++(List.range k).reverse=(List.range L).reverse)/\Hid (J pre wr)/\Hid (Q wr)) (fun p _=>(intOf p+1).toNat)
 case atStart=>exact⟨L,[],lR_ _,by go_num,hid rfl,HJ0,HQ0⟩
 case round=>
  clear HJ0 HQ0;obtain⟨k,pre,hk,rfl,hpre,hJs,hQs⟩:=hrel;cases k with
  |zero=>
   have HE:Hid (pre.map (·.1.1)=(List.range L).reverse):=hid (by have h1:=hpre.out;simpa using h1);rw[show((0:Nat):Int) - 1= -1 by omega]
   gi_wp2
   go_end0
   exact⟨⟨_,rfl⟩,pre,HE.out,hJs.out⟩
  |succ k=>
   rw[show((k+1:Nat):Int) - 1=(k:Int) by omega];obtain⟨ad,cap,c0,hcap,hcs⟩:=HQ.out wr hQs.out;obtain⟨g,off,a,rfl,hPi,cA⟩:=hcs k (by omega);have hlen:pre.length<L:=by
    have h1:=congrArg List.length hpre.out;simp at h1;omega
   have HPre:Hid ((pre++ [(⟨(k,a),by show k<L;omega,hPi⟩:BX L P)]).map (·.1.1)++(List.range k).reverse=(List.range L).reverse):=hid (by
    have h1:=hpre.out;rw[LB]at h1;simpa using h1)
   obtain⟨fn,tmps,assign,body,hy,hR⟩:=HY.out pre ⟨(k,a),by show k<L;omega,hPi⟩ wr hJs.out ⟨k,HPre.out⟩;have hy:(Instr.yield l #[ab (k:Int),a]).run Tryz.prog wr=.ok (.round l fn tmps assign body) wr:=hy;have HR:=hid hR;have HL:Hid (k<L):=hid (by omega);clear hR hlen hcs hpre
   gi_wp2
   refine HR.out.mono ?_;rintro e W3 ⟨rfl,hJ3,hk3⟩
   ·have HJ3:=hid hJ3
    have HQ3:=hid (HQK.out _ _ hQs.out hk3);clear hJ3 hk3
    gi_wp2
    go_roundw
    case rel=>exact⟨k,_,by omega,by go_num,HPre,HJ3,HQ3⟩
    case measure=>simp[intOf]
end Go.Proofs.YtjjggdcnpndgjaaGreatDoor
