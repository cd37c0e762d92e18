import Derived.Test.YtjjggdcnpndgjabGreatDoorJ22
import Derived.Test.YtjjggdcnpndgjabGreatDoorJ20
set_option linter.unusedSimpArgs false
set_option maxHeartbeats 8000000
set_option maxRecDepth 100000
namespace Go.Proofs.YtjjggdcnpndgjabGreatDoor
open Go.RowKit Go.Shelf
section
attribute [local go_sem] Oper.semAt_some
abbrev BX (L:Nat) (P:Nat->Value->Prop):={x:Nat × Value // x.1<L/\P x.1 x.2}
def NX {L:Nat}{P:Nat->Value->Prop} (x:BX L P):Array Value:= #[ab (x.1.1:Int),x.1.2]
theorem LH (k:Nat):(List.range (k+1)).reverse=k::(List.range k).reverse:=by
 rw[List.range_succ,List.reverse_append];rfl
theorem bR (F:Fence) (n:Nat) (hF:F.fn 87) (hro:F.round=none) (ad:Option Addr) (m cap:Nat) (w:World):
  CallsIn F n Tryz.prog 87 #[.slice ad m cap] w fun e w'=>e=.returned (.func (.func 114) #[] #[ac w.heap.size])/\w'=w.alloc (.cells #[.slice ad m cap] 98):=by
 refine callsIn_of_wp Tryz.func87 rfl hF ?_ hro;simp only[Tryz.ntmps87,List.size_toArray,lC,List.length_nil,Nat.reduceAdd,Nat.reduceSub,Array.replicate_succ,Array.replicate_zero,List.push_toArray,List.append_toArray,List.nil_append,List.cons_append]
 gi_wp2
 go_ret;exact⟨rfl,rfl⟩
theorem Mz30 {P:Prop} (h:P:=by
  have HR:=hid hR;have HL:Hid (k<L):=hid (by omega);clear hR hlen hcs hpre
  gi_wp2
  refine HR.out.mono ?_;rintro e W3 (⟨rfl,hJ3,hk3⟩ | ⟨rfl,hJx3⟩)
  ·have HJ3:=hid hJ3
   have HQ3:=hid (HQK.out _ _ hQs.out hk3);clear hJ3 hk3
   gi_wp2
   go_roundw
   case rel=>exact⟨k,_,by omega,by go_num,HPre,HJ3,HQ3⟩
   case measure=>simp[intOf]
  ·gi_wp2
   refine bodyPost_ret (results_none rfl _ _ _) rfl ?_;exact⟨⟨_,rfl⟩,.inr ⟨_,⟨k,HL.out,HPre.out⟩,hJx3⟩⟩):P:=h
theorem Mz31 {P:Prop} (h:P:=by
  have HE:Hid (pre.map (·.1.1)=(List.range L).reverse):=hid (by have h1:=hpre.out;simpa using h1);rw[show((0:Nat):Int) - 1= -1 by omega]
  gi_wp2
  go_end0
  exact⟨⟨_,rfl⟩,.inl ⟨pre,HE.out,hJs.out⟩⟩):P:=h
theorem kS (n:Nat) (hn:1<=n) (l Bn L:Nat) (hL:L<=1000000) (P:Nat->Value->Prop) (K:World->World->Prop) (Q:World->Prop) (hQK:∀A B,Q A->K A B->Q B)
  (hQ:∀W,Q W->∃ad cap,W.cell? (af Bn 0)=some (.slice ad L cap)/\L<=cap/\∀i,i<L->∃g off b m,ad=some (af g off)/\P i (.agg #[b,m])/\W.cell? (af g (off+i*2))=some b/\W.cell? (af g (off+i*2+1))=some m)
  (J Jx:List (BX L P)->World->Prop) (W:World) (hY:∀pre x W,J pre W->pre.length<L->YieldAt Fence.wide (n - 1) Tryz.prog l (NX x) W fun e W'=>
   (e=.returned (.bool true)/\J (pre++ [x]) W'/\K W W')\/(e=.returned (.bool false)/\Jx (pre++ [x]) W'))
  (hQW:Q W) (h0:J [] W):
  CallsIn Fence.wide n Tryz.prog 114 #[.func (.yield l) #[] #[],ac Bn] W fun e W'=>(∃v,e=.returned v)/\
   ((∃ys:List (BX L P),ys.map (·.1.1)=(List.range L).reverse/\J ys W')\/(∃pre:List (BX L P),(∃k,k<L/\pre.map (·.1.1)++(List.range k).reverse=(List.range L).reverse)/\Jx pre W')):=by
 have HY:=hid hY;have HQK:=hid hQK;have HQ:=hid hQ;have HJ0:Hid (J [] W):=hid h0;have HQ0:Hid (Q W):=hid hQW;obtain⟨ad,cap,c0,hcap,_⟩:=hQ W hQW;clear hY h0 hQK hQ hQW;refine callsIn_of_wp Tryz.func114 rfl trivial ?_ rfl;simp only[Tryz.ntmps114,List.size_toArray,lC,List.length_nil,Nat.reduceAdd,Nat.reduceSub,Array.replicate_succ,Array.replicate_zero,List.push_toArray,List.append_toArray,List.nil_append,List.cons_append]
 gi_wp2
 clear c0 hcap
 gi_loopw [3] (fun p wr=>∃(k:Nat) (pre:List (BX L P)),k<=L/\p=ab ((k:Int) - 1)/\Hid (pre.map (·.1.1)++(List.range k).reverse=(List.range L).reverse)/\Hid (J pre wr)/\Hid (Q wr)) (fun p _=>(intOf p+1).toNat)
 case atStart=>exact⟨L,[],lR_ _,by go_num,hid rfl,HJ0,HQ0⟩
 case round=>
  clear HJ0 HQ0;obtain⟨k,pre,hk,rfl,hpre,hJs,hQs⟩:=hrel;cases k with
  |zero=>
   exact Mz31
  |succ k=>
   rw[show((k+1:Nat):Int) - 1=(k:Int) by omega];obtain⟨ad,cap,c0,hcap,hcs⟩:=HQ.out wr hQs.out;obtain⟨g,off,b,m,rfl,hPi,cA,cB⟩:=hcs k (by omega);have hlen:pre.length<L:=by
    have h1:=congrArg List.length hpre.out;simp at h1;omega
   obtain⟨fn,tmps,assign,body,hy,hR⟩:=HY.out pre ⟨(k,(.agg #[b,m])),by show k<L;omega,hPi⟩ wr hJs.out hlen;have hy:(Instr.yield l #[ab (k:Int),(.agg #[b,m])]).run Tryz.prog wr=.ok (.round l fn tmps assign body) wr:=hy;have HPre:Hid ((pre++ [(⟨(k,(.agg #[b,m])),by show k<L;omega,hPi⟩:BX L P)]).map (·.1.1)++(List.range k).reverse=(List.range L).reverse):=hid (by
    have h1:=hpre.out;rw[LH]at h1;simpa using h1)
   exact Mz30
theorem SC (n:Nat) (hn:1<=n) (Bn L:Nat) (hL:L<=1000000) (P:Nat->Value->Prop) (K:World->World->Prop) (Q:World->Prop) (hQK:∀A B,Q A->K A B->Q B)
  (hQ:∀W,Q W->∃ad cap,W.cell? (af Bn 0)=some (.slice ad L cap)/\L<=cap/\∀i,i<L->∃g off b m,ad=some (af g off)/\P i (.agg #[b,m])/\W.cell? (af g (off+i*2))=some b/\W.cell? (af g (off+i*2+1))=some m) (w:World) (hQw:∀W,Below w.heap.size w W->Q W):
  SeqStopsK Fence.wide n Tryz.prog 114 #[ac Bn] (NX (L:=L) (P:=P)) K (fun ys=>ys.map (·.1.1)=(List.range L).reverse) (fun pre=>∃k,k<L/\pre.map (·.1.1)++(List.range k).reverse=(List.range L).reverse) L w:=fun l J Jx W hW hJ _ hY h0=>by
 refine(kS n hn l Bn L hL P K Q hQK hQ J Jx W hY (hQw W hW) h0).mono ?_;rintro e W' ⟨h1,h2⟩;exact⟨h1,h2⟩
theorem pO (F:Fence) (n:Nat) (hF:F.fn 127) (hro:F.round=none) (ad:Option Addr) (m cap:Nat) (w:World):
  CallsIn F n Tryz.prog 127 #[.slice ad m cap] w fun e w'=>e=.returned (.func (.func 137) #[] #[ac w.heap.size])/\w'=w.alloc (.cells #[.slice ad m cap] 165):=by
 refine callsIn_of_wp Tryz.func127 rfl hF ?_ hro;simp only[Tryz.ntmps127,List.size_toArray,lC,List.length_nil,Nat.reduceAdd,Nat.reduceSub,Array.replicate_succ,Array.replicate_zero,List.push_toArray,List.append_toArray,List.nil_append,List.cons_append]
 gi_wp2
 go_ret;exact⟨rfl,rfl⟩
theorem nI (n:Nat) (hn:1<=n) (l Bn L:Nat) (hL:L<=1000000) (P:Nat->Value->Prop) (K:World->World->Prop) (Q:World->Prop) (hQK:∀A B,Q A->K A B->Q B)
  (hQ:∀W,Q W->∃ad cap,W.cell? (af Bn 0)=some (.slice ad L cap)/\L<=cap/\∀i,i<L->∃g off a b m,ad=some (af g off)/\P i (.agg #[a,b,m])/\W.cell? (af g (off+i*3))=some a/\W.cell? (af g (off+i*3+1))=some b/\W.cell? (af g (off+i*3+2))=some m)
  (J Jx:List (BX L P)->World->Prop) (W:World) (hY:∀pre x W,J pre W->pre.length<L->YieldAt Fence.wide (n - 1) Tryz.prog l (NX x) W fun e W'=>
   (e=.returned (.bool true)/\J (pre++ [x]) W'/\K W W')\/(e=.returned (.bool false)/\Jx (pre++ [x]) W'))
  (hQW:Q W) (h0:J [] W):
  CallsIn Fence.wide n Tryz.prog 137 #[.func (.yield l) #[] #[],ac Bn] W fun e W'=>(∃v,e=.returned v)/\
   ((∃ys:List (BX L P),ys.map (·.1.1)=(List.range L).reverse/\J ys W')\/(∃pre:List (BX L P),(∃k,k<L/\pre.map (·.1.1)++(List.range k).reverse=(List.range L).reverse)/\Jx pre W')):=by
 have HY:=hid hY;have HQK:=hid hQK;have HQ:=hid hQ;have HJ0:Hid (J [] W):=hid h0;have HQ0:Hid (Q W):=hid hQW;obtain⟨ad,cap,c0,hcap,_⟩:=hQ W hQW;clear hY h0 hQK hQ hQW;refine callsIn_of_wp Tryz.func137 rfl trivial ?_ rfl;simp only[Tryz.ntmps137,List.size_toArray,lC,List.length_nil,Nat.reduceAdd,Nat.reduceSub,Array.replicate_succ,Array.replicate_zero,List.push_toArray,List.append_toArray,List.nil_append,List.cons_append]
 gi_wp2
 clear c0 hcap
 gi_loopw [3] (fun p wr=>∃(k:Nat) (pre:List (BX L P)),k<=L/\p=ab ((k:Int) - 1)/\Hid (pre.map (·.1.1)++(List.range k).reverse=(List.range L).reverse)/\Hid (J pre wr)/\Hid (Q wr)) (fun p _=>(intOf p+1).toNat)
 case atStart=>exact⟨L,[],lR_ _,by go_num,hid rfl,HJ0,HQ0⟩
 case round=>
  clear HJ0 HQ0;obtain⟨k,pre,hk,rfl,hpre,hJs,hQs⟩:=hrel;cases k with
  |zero=>
   exact Mz31
  |succ k=>
   rw[show((k+1:Nat):Int) - 1=(k:Int) by omega];obtain⟨ad,cap,c0,hcap,hcs⟩:=HQ.out wr hQs.out;obtain⟨g,off,a,b,m,rfl,hPi,cA,cB,cC⟩:=hcs k (by omega);have hlen:pre.length<L:=by
    have h1:=congrArg List.length hpre.out;simp at h1;omega
   obtain⟨fn,tmps,assign,body,hy,hR⟩:=HY.out pre ⟨(k,(.agg #[a,b,m])),by show k<L;omega,hPi⟩ wr hJs.out hlen;have hy:(Instr.yield l #[ab (k:Int),(.agg #[a,b,m])]).run Tryz.prog wr=.ok (.round l fn tmps assign body) wr:=hy;have HPre:Hid ((pre++ [(⟨(k,(.agg #[a,b,m])),by show k<L;omega,hPi⟩:BX L P)]).map (·.1.1)++(List.range k).reverse=(List.range L).reverse):=hid (by
    have h1:=hpre.out;rw[LH]at h1;simpa using h1)
   exact Mz30
theorem dK (n:Nat) (hn:1<=n) (Bn L:Nat) (hL:L<=1000000) (P:Nat->Value->Prop) (K:World->World->Prop) (Q:World->Prop) (hQK:∀A B,Q A->K A B->Q B)
  (hQ:∀W,Q W->∃ad cap,W.cell? (af Bn 0)=some (.slice ad L cap)/\L<=cap/\∀i,i<L->∃g off a b m,ad=some (af g off)/\P i (.agg #[a,b,m])/\W.cell? (af g (off+i*3))=some a/\W.cell? (af g (off+i*3+1))=some b/\W.cell? (af g (off+i*3+2))=some m) (w:World) (hQw:∀W,Below w.heap.size w W->Q W):
  SeqStopsK Fence.wide n Tryz.prog 137 #[ac Bn] (NX (L:=L) (P:=P)) K (fun ys=>ys.map (·.1.1)=(List.range L).reverse) (fun pre=>∃k,k<L/\pre.map (·.1.1)++(List.range k).reverse=(List.range L).reverse) L w:=fun l J Jx W hW hJ _ hY h0=>by
 refine(nI n hn l Bn L hL P K Q hQK hQ J Jx W hY (hQw W hW) h0).mono ?_;rintro e W' ⟨h1,h2⟩;exact⟨h1,h2⟩
theorem rY (F:Fence) (n:Nat) (hF:F.fn 79) (hro:F.round=none) (ad:Option Addr) (m cap:Nat) (w:World):
  CallsIn F n Tryz.prog 79 #[.slice ad m cap] w fun e w'=>e=.returned (.func (.func 105) #[] #[ac w.heap.size])/\w'=w.alloc (.cells #[.slice ad m cap] 166):=by
 refine callsIn_of_wp Tryz.func79 rfl hF ?_ hro;simp only[Tryz.ntmps79,List.size_toArray,lC,List.length_nil,Nat.reduceAdd,Nat.reduceSub,Array.replicate_succ,Array.replicate_zero,List.push_toArray,List.append_toArray,List.nil_append,List.cons_append]
 gi_wp2
 go_ret;exact⟨rfl,rfl⟩
end
section
open Go.RowKit Go.Shelf Go.WideMaps Go.Maps
theorem Tryz.infoB128:(Tryz.prog.info? 128).map (fun i=>(i.zero,i.size,i.bytes))=some (some (.agg #[.string ByteArray.empty,ab 0,ab 0,.slice none 0 0]),4,56):=by kernel_rfl
theorem Tryz.infoB113:(Tryz.prog.info? 113).map (fun i=>(i.zero,i.size,i.bytes))=some (some (.agg #[.string ByteArray.empty,.slice none 0 0]),2,40):=by kernel_rfl
theorem Tryz.infoB98:(Tryz.prog.info? 98).map (fun i=>(i.zero,i.size,i.bytes))=some (some (.slice none 0 0),1,24):=by kernel_rfl
theorem Tryz.infoB105:(Tryz.prog.info? 105).map (fun i=>(i.zero,i.size,i.bytes))=some (some (.agg #[.bool false,ab 0]),2,16):=by kernel_rfl
theorem pW {l:List ByteArray}{i:Nat} (h:DI (nth l i)=true):i<l.length:=by
 rcases Nat.lt_or_ge i l.length with h1 |h1
 ·exact h1
 ·unfold nth at h
  rw[gD_,List.getElem?_eq_none h1]at h;exact absurd h (by decide+kernel)
theorem mE {w:World}{B:Nat}{p:Value}{r:List ByteArray} (h:w.ownsRow B 9 1 p r.length (r.map Value.string)):∃a c,p=.slice a r.length c/\r.length<=c/\(0<r.length->∃g,a=some (af g 0)/\g<w.heap.size/\∀i u,r[i]?=some u->w.cell? (af g i)=some (.string u)):=by
 obtain⟨a,c,rfl⟩:=BI h;refine⟨a,c,rfl,?_,fun h0=>?_⟩
 ·rcases h.2 with⟨h1,h2⟩ | ⟨g,cap,cur,h1,_,hg,hnc,_⟩
  ·injection h1 with _ _ h1;omega
  ·injection h1 with _ _ h1;omega
 ·obtain⟨g,cap,hs,_,hlt,_⟩:=AX h h0
  injection hs with e1 _ e3
  subst e1;subst e3;refine⟨g,rfl,hlt,fun i u hu=>?_⟩;rw[h.cellAt i (by have:=(gS_.1 hu).1;omega),gM,hu];rfl
theorem kW (P:List Ln) (G:Gr) (hg:GOk P G) (hok:LC P) (W:World) (hG:DS W) (B:Nat) (v:Value) (pv:List Value) (hV:LnV W B v P pv):
  Calls Tryz.prog 60 #[v] W fun e w'=>∃adT capT gN capN,e=.returned (.agg #[.slice adT (ngL P).nT capT,ae gN (ngL P).nN capN])/\(∀W'',(∀q,W.heap.size<=q->q<w'.heap.size->W''.heap[q]?=w'.heap[q]?)->PGr W'' w'.heap.size (ngL P) (L6 P) (pgL (D4 P) P) adT capT gN capN)/\Below W.heap.size W w':=by
 obtain⟨iT,hiT,hzT0,hzT1,hzT2⟩:=info_parts Tryz.infoB128;obtain⟨iN,hiN,hzN0,hzN1,hzN2⟩:=info_parts Tryz.infoB113;obtain⟨iR,hiR,hzR0,hzR1,hzR2⟩:=info_parts Tryz.infoB98;obtain⟨iP,hiP,hzP0,hzP1,hzP2⟩:=info_parts Tryz.infoB105
 rcases hV.form with⟨rfl,hnil⟩ | ⟨g,cap,rfl,hnc,hgl⟩
 ·exfalso;subst hnil;have:=hg.pos;simp[AM]at this
 obtain⟨n,hN⟩:=qF (P.length);have hn:=hok.len;rw[<-hN]at hn hnc hV ⊢;have HN:Hid (n=P.length):=hid hN;have HV:=hid hV;have HOK:=hid hok;have HGK:=hid hg;have HG:=hid hG;obtain⟨f,hf⟩:=qF (D4 P);have HF:Hid (f=D4 P):=hid hf;have HPOS:Hid (∀s,0<=f s):=hid (by rw[hf];exact hg.g.code.pos);have CN:Hid (Calls Tryz.prog 97 #[ae g n cap] (W.alloc (.cells #[.slice none 0 0,.slice none 0 0] 69)) fun e w'=>e=.returned (.map (some (W.heap.size+1)))/\EI w' (W.heap.size+1) P.length f/\Below (W.heap.size+1) (W.alloc (.cells #[.slice none 0 0,.slice none 0 0] 69)) w'):=hid (by
  have h1:=aG _ P pv B (W.alloc (.cells #[.slice none 0 0,.slice none 0 0] 69)) (hV.below ((Below.refl _ _).alloc (lR_ _) _)) hok;rw[World.size_alloc]at h1;rw[hf];exact h1)
 clear hN hV hok hg hG hf
 go_enter Tryz.func60,Tryz.ntmps60
 go_wp2_with (go_at_call 97;refine CN.out.mono ?_;rintro e w1 ⟨rfl,hm1,hb1⟩;have HM1:=hid hm1;have HZ1:Hid (w1.heap[W.heap.size]?=some (.cells #[.slice none 0 0,.slice none 0 0] 69 (0,0))):=hid ((hb1.block W.heap.size (by omega)).trans (World.alloc_heap_new W _));have HB1:Hid (Below W.heap.size W w1):=hid ((bal (Below.refl _ _)).trans (hb1.mono (by omega)));clear hm1 hb1 CN)
 have HBt0:Hid (BtV w1 W.heap.size W.heap.size (tkL (P.take 0)).length (FJ (tkL (P.take 0))) (pgL f (P.take 0)) (.slice none 0 0) (.slice none 0 0) []):=hid ⟨HZ1.out,lR_ _,World.ownsRow_nil _ _ _ _,World.ownsRow_nil _ _ _ _,rfl,fun i nm p h=>by simp[pgL,AM]at h⟩
 go_loopw [20] (fun i wr=>∃(k:Nat) (vT vN:Value) (pvN:List Value),k<=n/\i=ab k/\Hid (BtV wr W.heap.size W.heap.size (tkL (P.take k)).length (FJ (tkL (P.take k))) (pgL f (P.take k)) vT vN pvN)/\Hid (EI wr (W.heap.size+1) P.length f)/\Hid (Below W.heap.size W wr)) (fun i _=>n - (intOf i).toNat)
 case atStart=>exact⟨0,_,_,_,Nat.zero_le _,rfl,HBt0,HM1,HB1⟩
 case round=>
  clear HBt0 HM1 HZ1 HB1;obtain⟨k,vT,vN,pvN,hk,rfl,hBt,hNu,hbr⟩:=hrel;have hsz:=hbr.out.size
  by_cases hlt:k<n
  ·obtain⟨x,hx⟩:∃x,P[k]?=some x:=⟨_,gE y8Z⟩
   have hxok:=HOK.out.ok x (mG hx);have hx2:=HOK.out.sh x (mG hx);have hgs:=HOK.out.gsz x (mG hx);obtain⟨p,hp,hWV,k0,k1,k2⟩:=(HV.out.below hbr.out).at hx;have hl3:3<=x.2.2.length:=hxok.1;have hl4:x.2.2.length<=4001:=hxok.2;obtain⟨gw,q,qc,csw,rfl,hqc,hbw,c1,c2⟩:=SW hWV hl3;have hgw:=lt_of_block hbw;have HWV:=hid hWV;have HX:=hid hx;have HTN:=p8 hx;have HPN:=oX f hx;obtain⟨at_,sh,l⟩:=x;simp only at k0 k1 k2 hx2 hgs c1 c2 hl3 hl4 HTN HPN;have hgr:g<wr.heap.size:=lL hgl hsz;have HBl:Hid (Below wr.heap.size wr (wr.alloc (.cells #[ab at_,ab sh,.slice (some (af gw 1)) (q+2) qc] 194))):=hid ((Below.refl _ _).alloc (lR_ _) _);clear hp hxok hWV hx;have hshape:sh=0\/sh=1\/sh=2:=by omega
   clear hx2
   rcases hshape with rfl |rfl |rfl
   ·rw[if_pos rfl]at HTN
    rw[if_neg (by omega)]at HPN;have HTN:=hid HTN;have HPN:=hid HPN;have hmem:(at_,0,l)∈B4 P:=List.mem_filter.2 ⟨mG HX.out,rfl⟩;have hnum:DI (nth l 2)=true:=HGK.out.num _ hmem;have hnum3:DI (nth l 3)=true:=HGK.out.num3 _ hmem;have hval:=K5 hnum;have hval3:=K5 hnum3;have hs2:=(PP hnum).1;have hs3:=(PP hnum3).1;obtain⟨hq1,c3⟩:=SV HWV.out (pW hnum3);have HNM:=hid hnum;have HNM3:=hid hnum3;have hs1:(nth l 1).size<=4000:=by simpa[BC] using hgs
    have CC:Hid (∀w',Below wr.heap.size wr w'->Calls Tryz.prog 98 #[.string (nth l 2)] w' fun e w''=>e=.returned (.tuple #[ab (CV (nth l 2).data.toList),.bool true])/\Below w'.heap.size w' w''):=hid fun w' hb=>by
     refine(NK (nth l 2) w' (HG.out.below (hbr.out.trans (hb.mono hsz)) HG.out.size) (by omega)).mono ?_;rintro e w'' ⟨⟨m,rfl,hm⟩,hb'⟩;rw[hm HNM.out,HNM.out];exact⟨rfl,hb'⟩
    have CD:Hid (∀w',Below wr.heap.size wr w'->Calls Tryz.prog 98 #[.string (nth l 3)] w' fun e w''=>e=.returned (.tuple #[ab (CV (nth l 3).data.toList),.bool true])/\Below w'.heap.size w' w''):=hid fun w' hb=>by
     refine(NK (nth l 3) w' (HG.out.below (hbr.out.trans (hb.mono hsz)) HG.out.size) (by omega)).mono ?_;rintro e w'' ⟨⟨m,rfl,hm⟩,hb'⟩;rw[hm HNM3.out,HNM3.out];exact⟨rfl,hb'⟩
    obtain⟨nv,hnv⟩:=qE (CV (nth l 2).data.toList);obtain⟨nd,hnd⟩:=qE (CV (nth l 3).data.toList);rw[hnv]at CC hval;rw[hnd]at CD hval3;have HNV:=hid hnv;have HND:=hid hnd;have hTl:=uJ P k;have hqa:(1:Int)< (q:Int)+2:=by omega
    have hqb:(2:Int)< (q:Int)+2:=by omega
    clear hnv hnd hgs hnum hnum3 hmem
    go_wp2_with (first
     | (go_at_call_of 98 (Value.string (nth l 2));refine(CC.out _ HBl.out).mono ?_;rintro e w5 ⟨rfl,hb5⟩;have HB5:Hid (Below wr.heap.size wr w5):=hid (HBl.out.trans (hb5.mono HBl.out.size));have L5:=(hb5.block wr.heap.size (by simp)).trans (World.alloc_heap_new wr _);have d5:w5.cell? (af wr.heap.size 2)=some (.slice (some (af gw 1)) (q+2) qc):=(hb5.cell (by simp)).trans (BG wr _ _ 2);have c5:=(HB5.out.cell (p:=(af gw 3)) y47Z).trans c3;have hlw5:wr.heap.size<w5.heap.size:=(by(have:=hb5.size;rw[World.size_alloc]at this;omega));clear hb5)
     | (go_at_call_of 98 (Value.string (nth l 3));refine(CD.out _ HB5.out).mono ?_;rintro e w2 ⟨rfl,hb2⟩;have HB2:Hid (Below wr.heap.size wr w2):=hid (HB5.out.trans (hb2.mono HB5.out.size));have L2:=(hb2.block wr.heap.size hlw5).trans L5;have W2:=(HB2.out.block gw hgw).trans hbw;have d2:w2.cell? (af wr.heap.size 2)=some (.slice (some (af gw 1)) (q+2) qc):=(hb2.cell (by exact hlw5)).trans d5;have c1':=(HB2.out.cell (p:=(af gw 1)) y47Z).trans c1;have hlw:wr.heap.size<w2.heap.size:=lL hlw5 hb2.size))
    have hBt2:=hBt.out.below HB2.out;have HBt2:=hid hBt2;have hT:=hBt2.toks;have b0:=hBt2.cells.1;have hfr0:=hBt2.cells.2.2.1;have hbl:W.heap.size<w2.heap.size:=lt_of_block hBt2.blk;have hgw2:gw<w2.heap.size:=by omega
    have hW2:W.heap.size<=w2.heap.size:=by omega
    have fB:some W.heap.size≠vT.ownBlock:=fun e=>A6 hT hBt2.blk (by decide) e.symm
    clear hBt2 k0 k1 k2 c1 c2 c3 CC CD hb2 L5 d5 c5 hlw5;have hq0:(0:Int)< (q:Int)+2:=by omega
    refine AE (fun w'=>w'.cell? (af W.heap.size 0)=some vT/\w'.cell? (af wr.heap.size 2)=some (.slice (some (af gw 1)) (q+2) qc)/\w'.cell? (af gw 1)=some (.string (nth l 1))) y1Z y1Z ⟨b0,d2,c1'⟩ (fun hH=>?_);simp only[AC,BM,AO];refine tB 0 hH ?_;refine tB 1 hH ?_;refine tB 2 hH ?_;refine tB 3 hH ?_;refine tB 4 hH ?_;refine tB 5 hH ?_;refine tB 7 hH ?_;refine tB 8 hH ?_;refine tL ?_;refine tS 6 fun K hK=>?_
    refine tM ?_;rw[if_pos (by rfl)];go_simp;refine(Y9 (nth l 1) _ hs1).mono ?_;rintro e w3 ⟨rfl,hb3⟩;refine hK.out _ _ ?_ fun hH=>?_
    ·exact⟨(hb3.cell (by exact hbl)).trans hH.1,(hb3.cell (by exact hlw)).trans hH.2.1,(hb3.cell (by exact hgw2)).trans hH.2.2⟩
    clear hK K;refine tL ?_;have HB23:Hid (Below w2.heap.size w2 w3):=hid ((bdr (Below.refl _ _)).trans (by exact hb3));have hT3:=A8 hT (A1.of_below HB23.out []) (by simp);have fL:some wr.heap.size≠vT.ownBlock:=fun e=>A6 hT L2 (by decide) e.symm
    have fW:some gw≠vT.ownBlock:=fun e=>A6 hT W2 (by decide) e.symm
    have hz3:w2.heap.size<=w3.heap.size:=HB23.out.size;refine tB 9 hH ?_;refine tL ?_;refine tS 10 fun K hK=>?_
    refine tM ?_;go_simp;refine hK.out _ _ ?_ fun hH=>?_
    ·go_keep
    clear hK K;refine tL ?_;refine tS 11 fun K hK=>?_
    refine tM ?_;rw[if_pos (by rfl)];refine wp_append_lies _ (.tmp 45) (.tmp 54) 66 rfl W.heap.size 128 iT (.agg #[.string ByteArray.empty,ab 0,ab 0,.slice none 0 0]) 4 56 Tryz.underlying66 hiT hzT0 hzT1 hzT2 rfl (by decide) vT _ _ rfl (hT3.alloc _) (af w3.heap.size 0) 1 1 [.string (nth l 1),ab nv,ab nd,.slice none 0 0] rfl rfl (World.news_of_block (fr:=(0,0)) (heap_alloc_new w3 _)) y4Z (by omega) y3Z (by omega) y2Z _ rfl ?_;intro g' cap' w4 hown hgrow hat hlt';refine hK.out _ _ ?_ fun hH=>?_
    ·exact⟨(hgrow.cell_far _ y2Z (by exact fB)).trans hH.1,(hgrow.cell_far _ y2Z (by exact fL)).trans hH.2.1,(hgrow.cell_far _ y2Z (by exact fW)).trans hH.2.2⟩
    clear hK K;refine tB 12 hH ?_;refine tB 13 hH ?_;refine tL ?_;refine wpAnyH_done y1Z ?_ _;have hkeep:A1 w2 w4 vT.ownBlock.toList:=((A1.of_below HB23.out _).alloc (Obj.cells #[.string (nth l 1),ab nv,ab nd,.slice none 0 0] 128)).grown hgrow (fun k hk=>.inl (by rw[hk];simp));have hb4:=(hkeep.block W.heap.size hbl (fun hm=>fB (BE hm).symm)).trans HBt2.out.blk;have b04:w4.cell? (af W.heap.size 0)=some vT:=A0 hb4;have f04:w4.frozen? (af W.heap.size 0)=false:=A3 hb4;have hnn:((nv.toNat:Nat):Int)=nv:=Int.toNat_of_nonneg (by omega);have hnnd:((nd.toNat:Nat):Int)=nd:=Int.toNat_of_nonneg (by omega);have he4:MB (nth l 1,nv.toNat,nd.toNat) (.slice none 0 0)=[.string (nth l 1),ab nv,ab nd,.slice none 0 0]:=by
     show [_,ab ((nv.toNat:Nat):Int),ab ((nd.toNat:Nat):Int),_]=_;rw[hnn,hnnd]
    have hend:=HBt2.out.addTok (t:=(nth l 1,nv.toNat,nd.toNat)) hkeep (by rw[he4];exact hown);have HE:Hid (BtV (w4.setCell (af W.heap.size 0) (ae g' ((tkL (P.take k)).length+1) cap')) W.heap.size W.heap.size (tkL (P.take (k+1))).length (FJ (tkL (P.take (k+1)))) (pgL f (P.take (k+1))) (ae g' ((tkL (P.take k)).length+1) cap') vN pvN):=hid (by
     rw[HTN.out,HPN.out,List.append_nil];have e:iF (at_,0,l)=(nth l 1,nv.toNat,nd.toNat):=by unfold iF;rw[HNV.out,HND.out]
     rw[e,lA];exact hend)
    have HNu:Hid (EI (w4.setCell (af W.heap.size 0) (ae g' ((tkL (P.take k)).length+1) cap')) (W.heap.size+1) P.length f):=hid (((hNu.out.below HB2.out).off hT hkeep).set (by omega));have HBb:Hid (Below W.heap.size W (w4.setCell (af W.heap.size 0) (ae g' ((tkL (P.take k)).length+1) cap'))):=hid (((hbr.out.trans (HB2.out.mono hsz)).trans (hkeep.below hW2 (KV hT))).setCell y24Z _);clear hend hkeep hown hgrow hat hlt' hT hT3 hH hb4 fB fL fW L2 W2 d2 c1' b0 hfr0 hBt hNu HBt2 HB23 hb3 hnn hnnd he4;show wpList _ _ _ _ _ _;go_wp2
    go_roundw
    case rel=>exact⟨k+1,_,vN,pvN,by omega,by go_num,HE,HNu,HBb⟩
    case measure=>simp[intOf];omega
   ·rw[if_neg (by omega)]at HTN HPN
    have HTN:=hid HTN;have HPN:=hid HPN;have HE:Hid (BtV (wr.alloc (.cells #[ab at_,ab 1,.slice (some (af gw 1)) (q+2) qc] 194)) W.heap.size W.heap.size (tkL (P.take (k+1))).length (FJ (tkL (P.take (k+1)))) (pgL f (P.take (k+1))) vT vN pvN):=hid (by
     rw[HTN.out,HPN.out,List.append_nil,List.append_nil];exact hBt.out.below HBl.out)
    have HNu:=hid (hNu.out.below HBl.out);have HBb:=hid (hbr.out.trans (HBl.out.mono hsz));go_wp2
    go_roundw
    case rel=>exact⟨k+1,vT,vN,pvN,by omega,by go_num,HE,HNu,HBb⟩
    case measure=>simp[intOf];omega
   ·rw[if_neg (by omega)]at HTN
    rw[if_pos rfl]at HPN;have HTN:=hid HTN;have HPN:=hid HPN;have hs1:(nth l 1).size<=4000:=by simpa[BC] using hgs
    have hxm:(at_,2,l)∈AM P:=List.mem_filter.2 ⟨mG HX.out,rfl⟩;have HLG:Hid (∀r∈A9 l,r.length<=8):=hid fun r hr=>lT_ (WN hr) (HGK.out.long _ hxm)
    have HUS:Hid (∀r∈A9 l,∀u∈r,u.size<=4000):=hid fun r hr u hu=>HOK.out.usz _ (mG HX.out) u (by show u∈GM 2 l;unfold GM;rw[if_neg (by decide),if_pos rfl];exact List.mem_flatten.2 ⟨r,hr,hu⟩)
    have CR:Hid (∀w',Below wr.heap.size wr w'->Calls Tryz.prog 100 #[.agg #[ab at_,ab (2:Nat),.slice (some (af gw 1)) (q+2) qc]] w' fun e w''=>∃g cap pvs,e=.returned (ae g (A9 l).length cap)/\Q5 w'' w'.heap.size (ae g (A9 l).length cap) (A9 l) pvs/\Below w'.heap.size w' w''):=hid fun w' hb=>PX at_ 2 _ l w' (HWV.out.below hb) hl3 hl4
    have hrl:=QK l;obtain⟨m,hm⟩:=qE ((A9 l).length);rw[hm]at CR hrl;have HM:Hid ((A9 l).length=m):=hid hm;have hPl:=uO f P k;clear hm hgs hxm
    go_wp2_with (first
     | (go_at_call 99;go_loud (refine(Y9 (nth l 1) _ hs1).mono ?_;rintro e w2 ⟨rfl,hb2⟩;have HB2:Hid (Below wr.heap.size wr w2):=hid (HBl.out.trans (hb2.mono HBl.out.size));have d0:w2.cell? (af wr.heap.size 0)=some (ab at_):=(hb2.cell (by simp)).trans (BG wr _ _ 0);have d1:w2.cell? (af wr.heap.size 1)=some (ab (2:Nat)):=(hb2.cell (by simp)).trans (BG wr _ _ 1);have d2:w2.cell? (af wr.heap.size 2)=some (.slice (some (af gw 1)) (q+2) qc):=(hb2.cell (by simp)).trans (BG wr _ _ 2);have hlw:wr.heap.size<w2.heap.size:=(by have:=hb2.size;rw[World.size_alloc]at this;omega);have HB3:Hid (Below wr.heap.size wr (w2.alloc (.cells #[.string (nth l 1),.slice none 0 0] 113))):=hid (HB2.out.alloc (by omega) _);clear hb2))
     | (go_at_call 100;go_loud (refine(CR.out _ HB3.out).mono ?_;rintro e w4 ⟨g2,cap2,pvs2,rfl,hrv,hb4⟩;have HRV:=hid hrv;have HB4:=hid hb4;clear hrv hb4)))
    have hB24:Below w2.heap.size w2 w4:=((Below.refl _ _).alloc (lR_ _) _).trans (HB4.out.mono y5Z);have HZ4:Hid (w4.heap[w2.heap.size]?=some (.cells #[.string (nth l 1),.slice none 0 0] 113 (0,0))):=hid ((HB4.out.block w2.heap.size y5Z).trans (World.alloc_heap_new w2 _));have HB24:Hid (Below wr.heap.size wr w4):=hid (HB2.out.trans (hB24.mono HB2.out.size));have HS4:Hid (w2.heap.size<w4.heap.size):=hid (lt_of_block HZ4.out);have HW2:Hid (wr.heap.size<=w2.heap.size):=hid HB2.out.size;have HWW:Hid (W.heap.size<wr.heap.size):=hid (lt_of_block hBt.out.blk);have HRul0:Hid (GP w4 w4.heap.size (.slice none 0 0) (((A9 l).take 0).map (ptR f)) []):=hid ⟨World.ownsRow_nil _ _ _ _,fun i ps p h=>by simp at h⟩;clear hB24 d0 d1 d2 k0 k1 k2 c1 c2 CR HB3 HB4 hbw hgw;go_wp2;obtain⟨wo,rfl⟩:=qF (wr)
    go_loopw [68] (fun i wq=>∃(j:Nat) (vR:Value) (pvs:List Value),j<=m/\i=ab j/\Hid (wq.heap[w2.heap.size]?=some (.cells #[.string (nth l 1),vR] 113 (0,0)))/\Hid (GP wq w4.heap.size vR (((A9 l).take j).map (ptR f)) pvs)/\Hid (A1 w4 wq [w2.heap.size])) (fun i _=>m - (intOf i).toNat)
    case atStart=>exact⟨0,_,_,Nat.zero_le _,rfl,HZ4,HRul0,hid (A1.refl _ _)⟩
    case round=>
     clear HRul0;obtain⟨j,vR,pvs,hj,rfl,hZq,hRu,hKq⟩:=hrel;obtain⟨wq,rfl⟩:=qF (wr);have hB2q:Below w2.heap.size w4 wq:=hKq.out.keepsBelow HS4.out;have HBq:Hid (Below wo.heap.size wo wq):=hid (HB24.out.trans (hB2q.mono HW2.out));have hszq:=HBq.out.size;have hz2q:w2.heap.size<wq.heap.size:=lt_of_block hZq.out;have z0:wq.cell? (af w2.heap.size 0)=some (.string (nth l 1)):=A0 hZq.out;have z1:wq.cell? (af w2.heap.size 1)=some vR:=A0 hZq.out
     by_cases hlj:j<m
     ·obtain⟨r,pr,hr,hpr,hown,hpb⟩:=HRV.out.atK HM.out hKq.out HZ4.out (by decide) (by decide) hlj
      obtain⟨aa,ca,rfl,hca,hcells⟩:=mE hown;have HC:=hid hcells;have HR:=hid hr;have hr8:=HLG.out r (mG hr);obtain⟨rl,hrl2⟩:=qE (r.length);rw[hrl2]at hca hr8 hpr;have HRL:Hid (r.length=rl):=hid hrl2;have hg2:g2<wq.heap.size:=World.block_lt_of_cell? wq _ hpr;clear hown hpb hcells hr hB2q
      go_wp2_with (at_make;refine M8 _ rfl _ _ 98 rfl 105 iP (.agg #[.bool false,ab 0]) Tryz.underlying98 hiP hzP0 _ _ rl rfl rfl rfl rfl (by rw[hzP2];omega) (by omega) ?_;rw[hzP1])
      have hz4q:w4.heap.size<=wq.heap.size:=hKq.out.size;have HP0:Hid ((wq.alloc (.cells (madeCells #[.bool false,ab 0] (rl*2)) 105)).ownsRow w4.heap.size 105 2 (ae wq.heap.size rl rl) rl (BP (ptZ f r 0))):=hid (by
       have h1:=kL wq f r w4.heap.size hz4q (by rw[HRL.out];exact hr8);rw[HRL.out]at h1;exact h1)
      go_wp2
      go_loopw [77] (fun i w5=>∃t:Nat,t<=rl/\i=ab t/\Hid (w5.ownsRow w4.heap.size 105 2 (ae wq.heap.size rl rl) rl (BP (ptZ f r t)))/\Hid (Below wq.heap.size wq w5)) (fun i _=>rl - (intOf i).toNat)
      case atStart=>exact⟨0,Nat.zero_le _,rfl,HP0,hid (bal (Below.refl _ _))⟩
      case round=>
       clear HP0;obtain⟨t,ht,rfl,hPt,hB5⟩:=hrel;obtain⟨w5,rfl⟩:=qF (wr);have hsz5:=hB5.out.size
       by_cases hlt5:t<rl
       ·obtain⟨ga,rfl,hga,hcc⟩:=HC.out (by rw[HRL.out];omega)
        obtain⟨u,hu⟩:∃u,r[t]?=some u:=⟨_,gE (by rw[HRL.out];exact hlt5)⟩;have cu:=(hB5.out.cell (p:=(af ga t)) (by exact hga)).trans (hcc t u hu);have hus:=HUS.out r (mG HR.out) u (mG hu);have hlook:=(hNu.out.below (HBq.out.trans (hB5.out.mono hszq))).look u y3Z;have hpl:=hPt.out.1;have y0:=hPt.out.cellAt (t*2) (by omega);have y1:=hPt.out.cellAt (t*2+1) (by omega);rw[gE (by omega)]at y0 y1;have f0:=hPt.out.frozenAt (t*2);have f1:=hPt.out.frozenAt (t*2+1);obtain⟨x0,hx0⟩:=qE ((BP (ptZ f r t))[t*2]'(by omega));obtain⟨x1,hx1⟩:=qE ((BP (ptZ f r t))[t*2+1]'(by omega));rw[hx0]at y0;rw[hx1]at y1;have HPn:Hid (((w5.setCell (af wq.heap.size (t*2)) (.bool (decide (f u % 2=1)))).setCell (af wq.heap.size (t*2+1)) (ab (f u / 2))).ownsRow w4.heap.size 105 2 (ae wq.heap.size rl rl) rl (BP (ptZ f r (t+1)))):=hid (by
         have h1:=hPt.out;rw[<-HRL.out]at h1 ⊢;exact pG f hu (HPOS.out u) h1)
        have HBn:Hid (Below wq.heap.size wq ((w5.setCell (af wq.heap.size (t*2)) (.bool (decide (f u % 2=1)))).setCell (af wq.heap.size (t*2+1)) (ab (f u / 2)))):=hid ((hB5.out.setCell y24Z _).setCell y24Z _);clear hx0 hx1 hpl hcc hu hus;go_wp2
        go_roundw
        case rel=>exact⟨t+1,by omega,by go_num,HPn,HBn⟩
        case measure=>simp[intOf];omega
       ·obtain rfl:t=rl:=by omega
        have HPF:Hid (jY w5 w4.heap.size (ae wq.heap.size t t) (ptR f r)):=hid (by
         have h1:=hPt.out;have e:(ptR f r).length=t:=by unfold ptR;rw[lM,HRL.out]
         rw[<-HRL.out,pQ,HRL.out]at h1;unfold jY;rw[e];exact h1)
        have hjl:(((A9 l).take j).map (ptR f)).length=j:=by rw[lM,List.length_take,HM.out];omega
        have HJL:=hid hjl;have hRu5:=hRu.out.keeps (A1.of_below hB5.out []) (GU _ _) (GU _ _);have hrow5:=hRu5.row;rw[hjl]at hrow5;have hz5:=(hB5.out.block w2.heap.size hz2q).trans hZq.out;have HZ5:=hid hz5;have v1:w5.cell? (af w2.heap.size 1)=some vR:=A0 hz5;have HRu5:=hid hRu5;have HRow5:=hid hrow5;have hz45:w4.heap.size<=w5.heap.size:=lT_ hz4q hsz5;clear hjl hRu5 hrow5 hz5 hPt
        go_wp2_with (first
         | (at_builtin;refine wpList_append_lies _ rfl _ _ 111 rfl w4.heap.size 98 iR (.slice none 0 0) 1 24 Tryz.underlying111 hiR hzR0 hzR1 hzR2 rfl (by decide) _ _ _ rfl (HRow5.out.alloc _) (af w5.heap.size 0) 1 1 [ae wq.heap.size t t] rfl rfl (World.news_of_block (heap_alloc_new w5 _)) ?d2 (lR_ 1) ?d3 ?d4 ?d5 _ rfl ?_))
        case d2=>intro u hu;simp at hu;subst hu;rfl
        case d3=>unfold maxLen;omega
        case d4=>omega
        case d5=>simp;omega
        intro g6 cap6 w6 hown6 hgrow6 hat6 hlt6;have hkeep:A1 w5 w6 vR.ownBlock.toList:=((A1.refl _ _).alloc _).grown hgrow6 (fun q hq=>.inl y13Z);have hz6:=(hkeep.block w2.heap.size (by omega) (fun hm=>A6 HRow5.out HZ5.out (by decide) (BE hm))).trans HZ5.out;have v6:w6.cell? (af w2.heap.size 1)=some vR:=A0 hz6;have f6:w6.frozen? (af w2.heap.size 1)=false:=A3 hz6;have HZ6:Hid ((w6.setCell (af w2.heap.size 1) (ae g6 (j+1) cap6)).heap[w2.heap.size]?=some (.cells #[.string (nth l 1),ae g6 (j+1) cap6] 113 (0,0))):=hid (A5 hz6 _);have HRu6:Hid (GP (w6.setCell (af w2.heap.size 1) (ae g6 (j+1) cap6)) w4.heap.size (ae g6 (j+1) cap6) (((A9 l).take (j+1)).map (ptR f)) (pvs++ [ae wq.heap.size t t])):=hid (by
         rw[uH f HR.out];exact(HRu5.out.push HPF.out hkeep (by rw[HJL.out];exact hown6)).setOther hz6 (by decide) (by decide))
        have HK6:Hid (A1 w4 (w6.setCell (af w2.heap.size 1) (ae g6 (j+1) cap6)) [w2.heap.size]):=hid ((((hKq.out.transOwn (A1.of_below hB5.out []) (by simp)).transOwn hkeep (KV HRow5.out)).setCell (by simp) _));clear hown6 hgrow6 hat6 hlt6 hkeep hz6;go_wp2
        go_roundw
        case rel=>exact⟨j+1,_,_,by omega,by go_num,HZ6,HRu6,HK6⟩
        case measure=>simp[intOf];omega
     ·obtain rfl:j=m:=by omega
      have hBtq:=hBt.out.below HBq.out;have b0:=hBtq.cells.1;have b1:=hBtq.cells.2.1;have hrowN:=hBtq.names;have hRq:=(hRu.out.base (B':=W.heap.size) (by have:=HS4.out;have:=HW2.out;have:=HWW.out;omega));rw[<-HM.out,List.take_length]at hRq;have hrowR:=hRq.row;rw[lM,HM.out]at hrowR;obtain⟨aR,cR,rfl⟩:=BI hrowR;have HBtq:=hid hBtq;have HRowN:=hid hrowN;have HRq:=hid hRq;have hWq:W.heap.size<wq.heap.size:=by have:=HWW.out;omega
      clear hBtq hrowN hRq hRu hrowR
      go_wp2_with (first
       | (at_builtin;go_loud (refine wpList_append_lies _ rfl _ _ 67 rfl W.heap.size 113 iN (.agg #[.string ByteArray.empty,.slice none 0 0]) 2 40 Tryz.underlying67 hiN hzN0 hzN1 hzN2 rfl (by decide) _ _ _ rfl (HRowN.out.alloc _) (af wq.heap.size 0) 1 1 [.string (nth l 1),.slice aR j cR] rfl rfl (World.news_of_block (heap_alloc_new wq _)) ?e2 (lR_ 1) ?e3 ?e4 ?e5 _ rfl ?_)))
      case e2=>intro u hu;simp at hu;rcases hu with rfl |rfl <;> rfl
      case e3=>unfold maxLen;omega
      case e4=>omega
      case e5=>simp;omega
      intro g7 cap7 w7 hown7 hgrow7 hat7 hlt7;have hkeep:A1 wq w7 vN.ownBlock.toList:=((A1.refl _ _).alloc _).grown hgrow7 (fun q hq=>.inl y13Z);have hz7:=(hkeep.block W.heap.size hWq (fun hm=>A6 HRowN.out HBtq.out.blk (by decide) (BE hm))).trans HBtq.out.blk;have v7:w7.cell? (af W.heap.size 1)=some vN:=A0 hz7;have f7:w7.frozen? (af W.heap.size 1)=false:=A3 hz7;have hend:=HBtq.out.addName (nm:=T4 f (at_,2,l)) hkeep HRq.out hown7;have HE:Hid (BtV (w7.setCell (af W.heap.size 1) (ae g7 ((pgL f (P.take k)).length+1) cap7)) W.heap.size W.heap.size (tkL (P.take (k+1))).length (FJ (tkL (P.take (k+1)))) (pgL f (P.take (k+1))) vT (ae g7 ((pgL f (P.take k)).length+1) cap7) (pvN++ [.slice aR j cR])):=hid (by
       rw[HTN.out,HPN.out,List.append_nil];exact hend)
      have HNu:Hid (EI (w7.setCell (af W.heap.size 1) (ae g7 ((pgL f (P.take k)).length+1) cap7)) (W.heap.size+1) P.length f):=hid (((hNu.out.below HBq.out).off HRowN.out hkeep).set (by omega));have HBb:Hid (Below W.heap.size W (w7.setCell (af W.heap.size 1) (ae g7 ((pgL f (P.take k)).length+1) cap7))):=hid (((hbr.out.trans (HBq.out.mono hsz)).trans (hkeep.below (Nat.le_of_lt hWq) (KV HRowN.out))).setCell y24Z _);clear hend hkeep hown7 hgrow7 hat7 hlt7 hz7 hBt hNu;go_wp2
      go_roundw
      case rel=>exact⟨k+1,vT,_,_,by omega,by go_num,HE,HNu,HBb⟩
      case measure=>simp[intOf];omega
  ·obtain rfl:k=n:=by omega
   have hB:=hBt.out;rw[HN.out,List.take_length]at hB;obtain⟨aT,cT,rfl⟩:=BI hB.toks;obtain⟨aN,cN,rfl⟩:=BI hB.names;have hV':=HV.out;have hNu':=hNu.out;have hnc':=hnc;rw[HN.out]at hV' hnc';rw[HF.out]at hNu';have CS:=mO P G HGK.out HOK.out W wr HG.out B W.heap.size W.heap.size (W.heap.size+1) g cap pv hV' hnc' hgl hbr.out (lR_ _) (pgL f P) _ _ pvN hB hNu';rw[<-HN.out]at CS;have HCS:=hid CS;have HGE:=hid (KV hB.toks);have hWwr:W.heap.size<wr.heap.size:=lt_of_block hB.blk;clear hB hBt hV' hNu' hnc' CS hNu
   go_wp2_with (go_at_call 101;refine HCS.out.mono ?_;rintro e w5 ⟨rfl,hBt5,hS5,hk5⟩;obtain⟨b0,b1,z0,z1⟩:=hBt5.cells;have HBf:=hid hBt5;have HS5:=hid hS5;have HK5:=hid hk5;clear hBt5 hS5 hk5 HCS)
   have HA:=HBf.out.again;have hN:=HGK.out.ok;have hT:(tkL P).length=(ngL P).nT:=by rw[KQ];unfold tkL;simp
   have hM:(pgL f P).length=(ngL P).nN:=by rw[HF.out];rfl
   have hS6:SwM ((w5.setCell (af W.heap.size 0) (.slice aT (tkL P).length cT)).setCell (af W.heap.size 1) (.slice aN (pgL f P).length cN)) wr.heap.size (tkL P).length (ngL P).swp:=fun t ht=>
    (Below.heap_setCell _ _ _ _ (by show wr.heap.size+t≠W.heap.size;omega)).trans ((Below.heap_setCell _ _ _ _ (by show wr.heap.size+t≠W.heap.size;omega)).trans (HS5.out t ht))
   have hd:=fun(W'':World) hW=>HA.done (W:=W'') hW hN (by rw[MV];exact HGK.out.nN) (by rw[KQ];exact HGK.out.nT) (aY HGK.out).leR hS6 hsz hT hM (by rw[HF.out];rfl) uT (sU f P) rfl rfl
   refine⟨rfl,_,FV (p:=2) (ty:=69) rfl _ _ W.heap.size _ _ _ _ rfl HA.blk Tryz.underlying69 rfl y1Z,?_⟩;obtain⟨_,_,gN,rfl,_⟩:=hd _ (fun _ _ _=>rfl);refine⟨aT,cT,gN,cN,by rw[hT,hM],fun W'' hW=>?_,((hbr.out.trans (HK5.out.below hsz HGE.out)).setCell y24Z _).setCell y24Z _⟩;obtain⟨_,_,gN',eN,hP⟩:=hd W'' hW;obtain rfl:gN=gN':=by injection eN with eN;injection eN
   rw[lH]at hP;rw[<-HF.out];exact hP
end
end Go.Proofs.YtjjggdcnpndgjabGreatDoor
