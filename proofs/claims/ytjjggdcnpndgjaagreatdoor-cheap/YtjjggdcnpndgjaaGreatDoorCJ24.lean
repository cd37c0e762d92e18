import Derived.Test.YtjjggdcnpndgjaaGreatDoorCJ21
import Derived.Test.YtjjggdcnpndgjaaGreatDoorCJ19
set_option linter.unusedSimpArgs false
set_option maxHeartbeats 8000000
set_option maxRecDepth 100000
namespace Go.Proofs.YtjjggdcnpndgjaaGreatDoor
open Go.RowKit Go.Shelf
section
attribute [local go_sem] Oper.semAt_some
abbrev BX (L:Nat) (P:Nat->Value->Prop):={x:Nat × Value // x.1<L/\P x.1 x.2}
def O6 {L:Nat}{P:Nat->Value->Prop} (x:BX L P):Array Value:= #[ab (x.1.1:Int),x.1.2]
theorem LL (k:Nat):(List.range (k+1)).reverse=k::(List.range k).reverse:=by
 rw[uw,List.reverse_append];rfl
theorem aH (F:Fence) (n:Nat) (hF:F.fn 197) (hro:F.round=none) (ad:Option Addr) (m cap:Nat) (w:World):
  CallsIn F n Tryz.prog 197 #[.slice ad m cap] w λe w'=>e=.returned (.func (.func 224) #[] #[ac w.heap.size])/\w'=w.alloc (.cells #[.slice ad m cap] 228):=by
 refine uq Tryz.func197 rfl hF ?_ hro;simp only[Tryz.ntmps197,jf,lC,jd,Nat.reduceAdd,Nat.reduceSub,jm,jo,jy,jr,ey,iw]
 gi_wp2
 go_ret;exact⟨rfl,rfl⟩
theorem agG {P:Prop} (h:P:=by
  have HR:=hid hR;have HL:Hid (k<L):=hid (by omega);clear hR hlen hcs hpre
  gi_wp2
  refine HR.out.mono ?_;rintro e W3 (⟨rfl,hJ3,hk3⟩ | ⟨rfl,abt⟩)
  ·have Zj:=hid hJ3
   have HQ3:=hid (HQK.out _ _ hQs.out hk3);clear hJ3 hk3
   gi_wp2
   go_roundw
   case rel=>exact⟨k,_,by omega,by go_num,De,Zj,HQ3⟩
   case measure=>simp[intOf]
  ·gi_wp2
   refine ya (qz rfl _ _ _) rfl ?_;exact⟨⟨_,rfl⟩,.inr ⟨_,⟨k,HL.out,De.out⟩,abt⟩⟩):P:=h
theorem agH {P:Prop} (h:P:=by
  have HE:Hid (pre.map (·.1.1)=(List.range L).reverse):=hid (by have h1:=hpre.out;simpa using h1);rw[show((0:Nat):Int) - 1= -1 by omega]
  gi_wp2
  go_end0
  exact⟨⟨_,rfl⟩,.inl ⟨pre,HE.out,hJs.out⟩⟩):P:=h
theorem nU (n:Nat) (hn:1<=n) (l Bn L:Nat) (hL:L<=1000000) (P:Nat->Value->Prop) (K:World->World->Prop) (Q:World->Prop) (Od:∀A B,Q A->K A B->Q B)
  (hQ:∀W,Q W->∃ad cap,W.cell? (af Bn 0)=some (.slice ad L cap)/\L<=cap/\∀i,i<L->∃g off b m,ad=some (af g off)/\P i (.agg #[b,m])/\W.cell? (af g (off+i*2))=some b/\W.cell? (af g (off+i*2+1))=some m)
  (J Jx:List (BX L P)->World->Prop) (W:World) (hY:∀pre x W,J pre W->pre.length<L->YieldAt Fence.wide (n - 1) Tryz.prog l (O6 x) W λe W'=>
   (e=.returned (.bool true)/\J (pre++ [x]) W'/\K W W')\/(e=.returned (.bool false)/\Jx (pre++ [x]) W'))
  (Im:Q W) (h0:J [] W):
  CallsIn Fence.wide n Tryz.prog 224 #[.func (.yield l) #[] #[],ac Bn] W λe W'=>(∃v,e=.returned v)/\
   ((∃ys:List (BX L P),ys.map (·.1.1)=(List.range L).reverse/\J ys W')\/(∃pre:List (BX L P),(∃k,k<L/\pre.map (·.1.1)++(List.range k).reverse=(List.range L).reverse)/\Jx pre W')):=by
 have HY:=hid hY;have HQK:=hid Od;have HQ:=hid hQ;have Me:Hid (J [] W):=hid h0;have Rb:Hid (Q W):=hid Im;obtain⟨ad,cap,c0,hcap,_⟩:=hQ W Im;clear hY h0 Od hQ Im;refine uq Tryz.func224 rfl trivial ?_ rfl;simp only[Tryz.ntmps224,jf,lC,jd,Nat.reduceAdd,Nat.reduceSub,jm,jo,jy,jr,ey,iw]
 gi_wp2
 clear c0 hcap
 gi_loopw [3] (λp wr=>∃(k:Nat) (pre:List (BX L P)),k<=L/\p=ab ((k:Int) - 1)/\Hid (pre.map (·.1.1)++(List.range k).reverse=(List.range L).reverse)/\Hid (J pre wr)/\Hid (Q wr)) (λp _=>(intOf p+1).toNat)
 case atStart=>exact⟨L,[],zn _,by go_num,hid rfl,Me,Rb⟩
 case round=>
  clear Me Rb;obtain⟨k,pre,hk,rfl,hpre,hJs,hQs⟩:=hrel;cases k with
  |zero=>
   exact agH
  |succ k=>
   rw[show((k+1:Nat):Int) - 1=(k:Int) by omega];obtain⟨ad,cap,c0,hcap,hcs⟩:=HQ.out wr hQs.out;obtain⟨g,off,b,m,rfl,Xb,cA,cB⟩:=hcs k (by omega);have hlen:pre.length<L:=by
    have h1:=congrArg List.length hpre.out;simp at h1;omega
   obtain⟨fn,tmps,assign,body,hy,hR⟩:=HY.out pre ⟨(k,(.agg #[b,m])),by show k<L;omega,Xb⟩ wr hJs.out hlen;have hy:(Instr.yield l #[ab (k:Int),(.agg #[b,m])]).run Tryz.prog wr=.ok (.round l fn tmps assign body) wr:=hy;have De:Hid ((pre++ [(⟨(k,(.agg #[b,m])),by show k<L;omega,Xb⟩:BX L P)]).map (·.1.1)++(List.range k).reverse=(List.range L).reverse):=hid (by
    have h1:=hpre.out;rw[LL]at h1;simpa using h1)
   exact agG
theorem T6 (n:Nat) (hn:1<=n) (Bn L:Nat) (hL:L<=1000000) (P:Nat->Value->Prop) (K:World->World->Prop) (Q:World->Prop) (Od:∀A B,Q A->K A B->Q B)
  (hQ:∀W,Q W->∃ad cap,W.cell? (af Bn 0)=some (.slice ad L cap)/\L<=cap/\∀i,i<L->∃g off b m,ad=some (af g off)/\P i (.agg #[b,m])/\W.cell? (af g (off+i*2))=some b/\W.cell? (af g (off+i*2+1))=some m) (w:World) (hQw:∀W,Below w.heap.size w W->Q W):
  SeqStopsK Fence.wide n Tryz.prog 224 #[ac Bn] (O6 (L:=L) (P:=P)) K (λys=>ys.map (·.1.1)=(List.range L).reverse) (λpre=>∃k,k<L/\pre.map (·.1.1)++(List.range k).reverse=(List.range L).reverse) L w:=λl J Jx W hW hJ _ hY h0=>by
 refine(nU n hn l Bn L hL P K Q Od hQ J Jx W hY (hQw W hW) h0).mono ?_;rintro e W' ⟨h1,h2⟩;exact⟨h1,h2⟩
theorem qU (F:Fence) (n:Nat) (hF:F.fn 235) (hro:F.round=none) (ad:Option Addr) (m cap:Nat) (w:World):
  CallsIn F n Tryz.prog 235 #[.slice ad m cap] w λe w'=>e=.returned (.func (.func 245) #[] #[ac w.heap.size])/\w'=w.alloc (.cells #[.slice ad m cap] 303):=by
 refine uq Tryz.func235 rfl hF ?_ hro;simp only[Tryz.ntmps235,jf,lC,jd,Nat.reduceAdd,Nat.reduceSub,jm,jo,jy,jr,ey,iw]
 gi_wp2
 go_ret;exact⟨rfl,rfl⟩
theorem mM (n:Nat) (hn:1<=n) (l Bn L:Nat) (hL:L<=1000000) (P:Nat->Value->Prop) (K:World->World->Prop) (Q:World->Prop) (Od:∀A B,Q A->K A B->Q B)
  (hQ:∀W,Q W->∃ad cap,W.cell? (af Bn 0)=some (.slice ad L cap)/\L<=cap/\∀i,i<L->∃g off a b m,ad=some (af g off)/\P i (.agg #[a,b,m])/\W.cell? (af g (off+i*3))=some a/\W.cell? (af g (off+i*3+1))=some b/\W.cell? (af g (off+i*3+2))=some m)
  (J Jx:List (BX L P)->World->Prop) (W:World) (hY:∀pre x W,J pre W->pre.length<L->YieldAt Fence.wide (n - 1) Tryz.prog l (O6 x) W λe W'=>
   (e=.returned (.bool true)/\J (pre++ [x]) W'/\K W W')\/(e=.returned (.bool false)/\Jx (pre++ [x]) W'))
  (Im:Q W) (h0:J [] W):
  CallsIn Fence.wide n Tryz.prog 245 #[.func (.yield l) #[] #[],ac Bn] W λe W'=>(∃v,e=.returned v)/\
   ((∃ys:List (BX L P),ys.map (·.1.1)=(List.range L).reverse/\J ys W')\/(∃pre:List (BX L P),(∃k,k<L/\pre.map (·.1.1)++(List.range k).reverse=(List.range L).reverse)/\Jx pre W')):=by
 have HY:=hid hY;have HQK:=hid Od;have HQ:=hid hQ;have Me:Hid (J [] W):=hid h0;have Rb:Hid (Q W):=hid Im;obtain⟨ad,cap,c0,hcap,_⟩:=hQ W Im;clear hY h0 Od hQ Im;refine uq Tryz.func245 rfl trivial ?_ rfl;simp only[Tryz.ntmps245,jf,lC,jd,Nat.reduceAdd,Nat.reduceSub,jm,jo,jy,jr,ey,iw]
 gi_wp2
 clear c0 hcap
 gi_loopw [3] (λp wr=>∃(k:Nat) (pre:List (BX L P)),k<=L/\p=ab ((k:Int) - 1)/\Hid (pre.map (·.1.1)++(List.range k).reverse=(List.range L).reverse)/\Hid (J pre wr)/\Hid (Q wr)) (λp _=>(intOf p+1).toNat)
 case atStart=>exact⟨L,[],zn _,by go_num,hid rfl,Me,Rb⟩
 case round=>
  clear Me Rb;obtain⟨k,pre,hk,rfl,hpre,hJs,hQs⟩:=hrel;cases k with
  |zero=>
   exact agH
  |succ k=>
   rw[show((k+1:Nat):Int) - 1=(k:Int) by omega];obtain⟨ad,cap,c0,hcap,hcs⟩:=HQ.out wr hQs.out;obtain⟨g,off,a,b,m,rfl,Xb,cA,cB,cC⟩:=hcs k (by omega);have hlen:pre.length<L:=by
    have h1:=congrArg List.length hpre.out;simp at h1;omega
   obtain⟨fn,tmps,assign,body,hy,hR⟩:=HY.out pre ⟨(k,(.agg #[a,b,m])),by show k<L;omega,Xb⟩ wr hJs.out hlen;have hy:(Instr.yield l #[ab (k:Int),(.agg #[a,b,m])]).run Tryz.prog wr=.ok (.round l fn tmps assign body) wr:=hy;have De:Hid ((pre++ [(⟨(k,(.agg #[a,b,m])),by show k<L;omega,Xb⟩:BX L P)]).map (·.1.1)++(List.range k).reverse=(List.range L).reverse):=hid (by
    have h1:=hpre.out;rw[LL]at h1;simpa using h1)
   exact agG
theorem eK (n:Nat) (hn:1<=n) (Bn L:Nat) (hL:L<=1000000) (P:Nat->Value->Prop) (K:World->World->Prop) (Q:World->Prop) (Od:∀A B,Q A->K A B->Q B)
  (hQ:∀W,Q W->∃ad cap,W.cell? (af Bn 0)=some (.slice ad L cap)/\L<=cap/\∀i,i<L->∃g off a b m,ad=some (af g off)/\P i (.agg #[a,b,m])/\W.cell? (af g (off+i*3))=some a/\W.cell? (af g (off+i*3+1))=some b/\W.cell? (af g (off+i*3+2))=some m) (w:World) (hQw:∀W,Below w.heap.size w W->Q W):
  SeqStopsK Fence.wide n Tryz.prog 245 #[ac Bn] (O6 (L:=L) (P:=P)) K (λys=>ys.map (·.1.1)=(List.range L).reverse) (λpre=>∃k,k<L/\pre.map (·.1.1)++(List.range k).reverse=(List.range L).reverse) L w:=λl J Jx W hW hJ _ hY h0=>by
 refine(mM n hn l Bn L hL P K Q Od hQ J Jx W hY (hQw W hW) h0).mono ?_;rintro e W' ⟨h1,h2⟩;exact⟨h1,h2⟩
theorem qX (F:Fence) (n:Nat) (hF:F.fn 189) (hro:F.round=none) (ad:Option Addr) (m cap:Nat) (w:World):
  CallsIn F n Tryz.prog 189 #[.slice ad m cap] w λe w'=>e=.returned (.func (.func 215) #[] #[ac w.heap.size])/\w'=w.alloc (.cells #[.slice ad m cap] 304):=by
 refine uq Tryz.func189 rfl hF ?_ hro;simp only[Tryz.ntmps189,jf,lC,jd,Nat.reduceAdd,Nat.reduceSub,jm,jo,jy,jr,ey,iw]
 gi_wp2
 go_ret;exact⟨rfl,rfl⟩
end
section
open Go.RowKit Go.Shelf Go.WideMaps Go.Maps
theorem Tryz.infoB268:(Tryz.prog.info? 268).map (λi=>(i.zero,i.size,i.bytes))=some (some (.agg #[.string ByteArray.empty,ab 0,ab 0,.slice none 0 0]),4,56):=by kernel_rfl
theorem Tryz.infoB219:(Tryz.prog.info? 219).map (λi=>(i.zero,i.size,i.bytes))=some (some (.agg #[.string ByteArray.empty,.slice none 0 0]),2,40):=by kernel_rfl
theorem Tryz.infoB228:(Tryz.prog.info? 228).map (λi=>(i.zero,i.size,i.bytes))=some (some (.slice none 0 0),1,24):=by kernel_rfl
theorem Tryz.infoB235:(Tryz.prog.info? 235).map (λi=>(i.zero,i.size,i.bytes))=some (some (.agg #[.bool false,ab 0]),2,16):=by kernel_rfl
theorem rZ {l:List ByteArray}{i:Nat} (h:DS (nth l i)=true):i<l.length:=by
 rcases jz i l.length with h1 |h1
 ·exact h1
 ·unfold nth at h
  rw[Af,eo h1]at h;exact absurd h (by decide+kernel)
theorem o4 {w:World}{B:Nat}{p:Value}{r:List ByteArray} (h:w.ownsRow B 9 1 p r.length (r.map Value.string)):∃a c,p=.slice a r.length c/\r.length<=c/\(0<r.length->∃g,a=some (af g 0)/\g<w.heap.size/\∀i u,r[i]?=some u->w.cell? (af g i)=some (.string u)):=by
 obtain⟨a,c,rfl⟩:=BO h;refine⟨a,c,rfl,?_,λh0=>?_⟩
 ·rcases h.2 with⟨h1,h2⟩ | ⟨g,cap,cur,h1,_,hg,hnc,_⟩
  ·injection h1 with _ _ h1;omega
  ·injection h1 with _ _ h1;omega
 ·obtain⟨g,cap,hs,_,hlt,_⟩:=B4 h h0
  injection hs with e1 _ e3
  subst e1;subst e3;refine⟨g,rfl,hlt,λi u hu=>?_⟩;rw[h.cellAt i (by have:=(zM.1 hu).1;omega),gM,hu];rfl
theorem o7 (P:List Ln) (G:Gr) (hg:Ei P G) (hok:LN P) (W:World) (hG:E2 W) (B:Nat) (v:Value) (pv:List Value) (hV:Bv W B v P pv):
  Calls Tryz.prog 152 #[v] W λe w'=>∃yZ yT gN yQ,e=.returned (.agg #[.slice yZ (Dw P).nT yT,ae gN (Dw P).nN yQ])/\(∀W'',(∀q,W.heap.size<=q->q<w'.heap.size->W''.heap[q]?=w'.heap[q]?)->Cz W'' w'.heap.size (Dw P) (LS P) (Cj (DD P) P) yZ yT gN yQ)/\Below W.heap.size W w':=by
 obtain⟨iT,hiT,ac0,ac1,ac2⟩:=iy Tryz.infoB268;obtain⟨iN,Kl,Pr,Pu,Pv⟩:=iy Tryz.infoB219;obtain⟨iR,Rs,Rt,Ru,Rv⟩:=iy Tryz.infoB228;obtain⟨iP,hiP,abP,abQ,abR⟩:=iy Tryz.infoB235
 rcases hV.form with⟨rfl,hnil⟩ | ⟨g,cap,rfl,hnc,Bu⟩
 ·exfalso;subst hnil;have:=hg.pos;simp[AU]at this
 obtain⟨n,hN⟩:=qF (P.length);have hn:=hok.len;rw[<-hN]at hn hnc hV ⊢;have HN:Hid (n=P.length):=hid hN;have HV:=hid hV;have Bq:=hid hok;have Gd:=hid hg;have HG:=hid hG;obtain⟨f,hf⟩:=qF (DD P);have HF:Hid (f=DD P):=hid hf;have ajg:Hid (∀s,0<=f s):=hid (by rw[hf];exact hg.g.code.pos);have CN:Hid (Calls Tryz.prog 199 #[ae g n cap] (W.alloc (.cells #[.slice none 0 0,.slice none 0 0] 135)) λe w'=>e=.returned (.map (some (W.heap.size+1)))/\EW w' (W.heap.size+1) P.length f/\Below (W.heap.size+1) (W.alloc (.cells #[.slice none 0 0,.slice none 0 0] 135)) w'):=hid (by
  have h1:=eA _ P pv B (W.alloc (.cells #[.slice none 0 0,.slice none 0 0] 135)) (hV.below ((ah _ _).alloc (zn _) _)) hok;rw[bh]at h1;rw[hf];exact h1)
 clear hN hV hok hg hG hf
 go_enter Tryz.func152,Tryz.ntmps152
 go_wp2_with (go_at_call 199;refine CN.out.mono ?_;rintro e w1 ⟨rfl,hm1,hb1⟩;have HM1:=hid hm1;have Qc:Hid (w1.heap[W.heap.size]?=some (.cells #[.slice none 0 0,.slice none 0 0] 135 (0,0))):=hid ((hb1.block W.heap.size (by omega)).trans (bg W _));have zL:Hid (Below W.heap.size W w1):=hid ((Aj (ah _ _)).trans (hb1.mono (by omega)));clear hm1 hb1 CN)
 have aby:Hid (Cc w1 W.heap.size W.heap.size (Ck (P.take 0)).length (FW (Ck (P.take 0))) (Cj f (P.take 0)) (.slice none 0 0) (.slice none 0 0) []):=hid ⟨Qc.out,zn _,jg _ _ _ _,jg _ _ _ _,rfl,λi nm p h=>by simp[Cj,AU]at h⟩
 go_loopw [20] (λi wr=>∃(k:Nat) (vT vN:Value) (Hp:List Value),k<=n/\i=ab k/\Hid (Cc wr W.heap.size W.heap.size (Ck (P.take k)).length (FW (Ck (P.take k))) (Cj f (P.take k)) vT vN Hp)/\Hid (EW wr (W.heap.size+1) P.length f)/\Hid (Below W.heap.size W wr)) (λi _=>n - (intOf i).toNat)
 case atStart=>exact⟨0,_,_,_,dh _,rfl,aby,HM1,zL⟩
 case round=>
  clear aby HM1 Qc zL;obtain⟨k,vT,vN,Hp,hk,rfl,El,Nt,hbr⟩:=hrel;have hsz:=hbr.out.size
  by_cases hlt:k<n
  ·obtain⟨x,hx⟩:∃x,P[k]?=some x:=⟨_,gE La⟩
   have Eg:=Bq.out.ok x (mG hx);have hx2:=Bq.out.sh x (mG hx);have Ka:=Bq.out.gsz x (mG hx);obtain⟨p,hp,Dz,k0,k1,k2⟩:=(HV.out.below hbr.out).at hx;have Nd:3<=x.2.2.length:=Eg.1;have hl4:x.2.2.length<=4001:=Eg.2;obtain⟨gw,q,qc,csw,rfl,hqc,zX,c1,c2⟩:=TJ Dz Nd;have Iw:=ak zX;have Ju:=hid Dz;have HX:=hid hx;have Mp:=rW hx;have Mq:=rC f hx;obtain⟨at_,sh,l⟩:=x;simp only at k0 k1 k2 hx2 Ka c1 c2 Nd hl4 Mp Mq;have hgr:g<wr.heap.size:=lL Bu hsz;have Ep:Hid (Below wr.heap.size wr (wr.alloc (.cells #[ab at_,ab sh,.slice (some (af gw 1)) (q+2) qc] 325))):=hid ((ah _ _).alloc (zn _) _);clear hp Eg Dz hx;have adY:sh=0\/sh=1\/sh=2:=by omega
   clear hx2
   rcases adY with rfl |rfl |rfl
   ·rw[ay rfl]at Mp
    rw[aq (by omega)]at Mq;have Mp:=hid Mp;have Mq:=hid Mq;have hmem:(at_,0,l)∈BD P:=ni.2 ⟨mG HX.out,rfl⟩;have Ni:DS (nth l 2)=true:=Gd.out.num _ hmem;have abS:DS (nth l 3)=true:=Gd.out.afQ _ hmem;have hval:=KI Ni;have ajh:=KI abS;have hs2:=(PM Ni).1;have hs3:=(PM abS).1;obtain⟨Kb,c3⟩:=SV Ju.out (rZ abS);have Mm:=hid Ni;have agI:=hid abS;have hs1:(nth l 1).size<=4000:=by simpa[BI] using Ka
    have CC:Hid (∀w',Below wr.heap.size wr w'->Calls Tryz.prog 200 #[.string (nth l 2)] w' λe w''=>e=.returned (.tuple #[ab (D5 (nth l 2).data.toList),.bool true])/\Below w'.heap.size w' w''):=hid λw' hb=>by
     refine(NR (nth l 2) w' (HG.out.below (hbr.out.trans (hb.mono hsz)) HG.out.size) (by omega)).mono ?_;rintro e w'' ⟨⟨m,rfl,hm⟩,hb'⟩;rw[hm Mm.out,Mm.out];exact⟨rfl,hb'⟩
    have CD:Hid (∀w',Below wr.heap.size wr w'->Calls Tryz.prog 200 #[.string (nth l 3)] w' λe w''=>e=.returned (.tuple #[ab (D5 (nth l 3).data.toList),.bool true])/\Below w'.heap.size w' w''):=hid λw' hb=>by
     refine(NR (nth l 3) w' (HG.out.below (hbr.out.trans (hb.mono hsz)) HG.out.size) (by omega)).mono ?_;rintro e w'' ⟨⟨m,rfl,hm⟩,hb'⟩;rw[hm agI.out,agI.out];exact⟨rfl,hb'⟩
    obtain⟨nv,Ks⟩:=qE (D5 (nth l 2).data.toList);obtain⟨nd,hnd⟩:=qE (D5 (nth l 3).data.toList);rw[Ks]at CC hval;rw[hnd]at CD ajh;have Ua:=hid Ks;have HND:=hid hnd;have Nu:=vX P k;have hqa:(1:Int)< (q:Int)+2:=by omega
    have hqb:(2:Int)< (q:Int)+2:=by omega
    clear Ks hnd Ka Ni abS hmem
    go_wp2_with (first
     | (go_at_call_of 200 (Value.string (nth l 2));refine(CC.out _ Ep.out).mono ?_;rintro e w5 ⟨rfl,zP⟩;have Av:Hid (Below wr.heap.size wr w5):=hid (Ep.out.trans (zP.mono Ep.out.size));have L5:=(zP.block wr.heap.size (by simp)).trans (bg wr _);have d5:w5.cell? (af wr.heap.size 2)=some (.slice (some (af gw 1)) (q+2) qc):=(zP.cell (by simp)).trans (BK wr _ _ 2);have c5:=(Av.out.cell (p:=(af gw 3)) Tr).trans c3;have ac3:wr.heap.size<w5.heap.size:=(by(have:=zP.size;rw[bh]at this;omega));clear zP)
     | (go_at_call_of 200 (Value.string (nth l 3));refine(CD.out _ Av.out).mono ?_;rintro e w2 ⟨rfl,hb2⟩;have zO:Hid (Below wr.heap.size wr w2):=hid (Av.out.trans (hb2.mono Av.out.size));have L2:=(hb2.block wr.heap.size ac3).trans L5;have W2:=(zO.out.block gw Iw).trans zX;have d2:w2.cell? (af wr.heap.size 2)=some (.slice (some (af gw 1)) (q+2) qc):=(hb2.cell (by exact ac3)).trans d5;have c1':=(zO.out.cell (p:=(af gw 1)) Tr).trans c1;have Bz:wr.heap.size<w2.heap.size:=lL ac3 hb2.size))
    have aab:=El.out.below zO.out;have aew:=hid aab;have hT:=aab.toks;have b0:=aab.cells.1;have aji:=aab.cells.2.2.1;have hbl:W.heap.size<w2.heap.size:=ak aab.blk;have ajj:gw<w2.heap.size:=by omega
    have hW2:W.heap.size<=w2.heap.size:=by omega
    have fB:some W.heap.size≠vT.ownBlock:=λe=>A9 hT aab.blk (by decide) e.symm
    clear aab k0 k1 k2 c1 c2 c3 CC CD hb2 L5 d5 c5 ac3;have Ud:(0:Int)< (q:Int)+2:=by omega
    refine AH (λw'=>w'.cell? (af W.heap.size 0)=some vT/\w'.cell? (af wr.heap.size 2)=some (.slice (some (af gw 1)) (q+2) qc)/\w'.cell? (af gw 1)=some (.string (nth l 1))) yM yM ⟨b0,d2,c1'⟩ (λhH=>?_);simp only[AG,BP,AR];refine tB 0 hH ?_;refine tB 1 hH ?_;refine tB 2 hH ?_;refine tB 3 hH ?_;refine tB 4 hH ?_;refine tB 5 hH ?_;refine tB 7 hH ?_;refine tB 8 hH ?_;refine tL ?_;refine tS 6 λK hK=>?_
    refine tM ?_;rw[ay (by rfl)];go_simp;refine(ZE (nth l 1) _ hs1).mono ?_;rintro e w3 ⟨rfl,hb3⟩;refine hK.out _ _ ?_ λhH=>?_
    ·exact⟨(hb3.cell (by exact hbl)).trans hH.1,(hb3.cell (by exact Bz)).trans hH.2.1,(hb3.cell (by exact ajj)).trans hH.2.2⟩
    clear hK K;refine tL ?_;have ac4:Hid (Below w2.heap.size w2 w3):=hid ((Cb (ah _ _)).trans (by exact hb3));have hT3:=AC hT (A5.zQ ac4.out []) (by simp);have fL:some wr.heap.size≠vT.ownBlock:=λe=>A9 hT L2 (by decide) e.symm
    have fW:some gw≠vT.ownBlock:=λe=>A9 hT W2 (by decide) e.symm
    have hz3:w2.heap.size<=w3.heap.size:=ac4.out.size;refine tB 9 hH ?_;refine tL ?_;refine tS 10 λK hK=>?_
    refine tM ?_;go_simp;refine hK.out _ _ ?_ λhH=>?_
    ·go_keep
    clear hK K;refine tL ?_;refine tS 11 λK hK=>?_
    refine tM ?_;rw[ay (by rfl)];refine mq _ (.tmp 45) (.tmp 54) 132 rfl W.heap.size 268 iT (.agg #[.string ByteArray.empty,ab 0,ab 0,.slice none 0 0]) 4 56 Tryz.underlying132 hiT ac0 ac1 ac2 rfl (by decide) vT _ _ rfl (hT3.alloc _) (af w3.heap.size 0) 1 1 [.string (nth l 1),ab nv,ab nd,.slice none 0 0] rfl rfl (dn (fr:=(0,0)) (dz w3 _)) Gl (by omega) Bg (by omega) zG _ rfl ?_;intro g' cap' w4 hown hgrow hat hlt';refine hK.out _ _ ?_ λhH=>?_
    ·exact⟨(hgrow.cell_far _ zG (by exact fB)).trans hH.1,(hgrow.cell_far _ zG (by exact fL)).trans hH.2.1,(hgrow.cell_far _ zG (by exact fW)).trans hH.2.2⟩
    clear hK K;refine tB 12 hH ?_;refine tB 13 hH ?_;refine tL ?_;refine bq yM ?_ _;have hkeep:A5 w2 w4 vT.ownBlock.toList:=((A5.zQ ac4.out _).alloc (Obj.cells #[.string (nth l 1),ab nv,ab nd,.slice none 0 0] 268)).grown hgrow (λk hk=>.inl (by rw[hk];simp));have hb4:=(hkeep.block W.heap.size hbl (λhm=>fB (BJ hm).symm)).trans aew.out.blk;have b04:w4.cell? (af W.heap.size 0)=some vT:=A0 hb4;have f04:w4.frozen? (af W.heap.size 0)=false:=A7 hb4;have hnn:((nv.toNat:Nat):Int)=nv:=xh (by omega);have agJ:((nd.toNat:Nat):Int)=nd:=xh (by omega);have Us:MT (nth l 1,nv.toNat,nd.toNat) (.slice none 0 0)=[.string (nth l 1),ab nv,ab nd,.slice none 0 0]:=by
     show [_,ab ((nv.toNat:Nat):Int),ab ((nd.toNat:Nat):Int),_]=_;rw[hnn,agJ]
    have hend:=aew.out.aiB (t:=(nth l 1,nv.toNat,nd.toNat)) hkeep (by rw[Us];exact hown);have HE:Hid (Cc (w4.setCell (af W.heap.size 0) (ae g' ((Ck (P.take k)).length+1) cap')) W.heap.size W.heap.size (Ck (P.take (k+1))).length (FW (Ck (P.take (k+1)))) (Cj f (P.take (k+1))) (ae g' ((Ck (P.take k)).length+1) cap') vN Hp):=hid (by
     rw[Mp.out,Mq.out,fy];have e:lQ (at_,0,l)=(nth l 1,nv.toNat,nd.toNat):=by unfold lQ;rw[Ua.out,HND.out]
     rw[e,lA];exact hend)
    have Ul:Hid (EW (w4.setCell (af W.heap.size 0) (ae g' ((Ck (P.take k)).length+1) cap')) (W.heap.size+1) P.length f):=hid (((Nt.out.below zO.out).off hT hkeep).set (by omega));have HBb:Hid (Below W.heap.size W (w4.setCell (af W.heap.size 0) (ae g' ((Ck (P.take k)).length+1) cap'))):=hid (((hbr.out.trans (zO.out.mono hsz)).trans (hkeep.below hW2 (LD hT))).setCell Mu _);clear hend hkeep hown hgrow hat hlt' hT hT3 hH hb4 fB fL fW L2 W2 d2 c1' b0 aji El Nt aew ac4 hb3 hnn agJ Us;show wpList _ _ _ _ _ _;go_wp2
    go_roundw
    case rel=>exact⟨k+1,_,vN,Hp,by omega,by go_num,HE,Ul,HBb⟩
    case measure=>simp[intOf];omega
   ·rw[aq (by omega)]at Mp Mq
    have Mp:=hid Mp;have Mq:=hid Mq;have HE:Hid (Cc (wr.alloc (.cells #[ab at_,ab 1,.slice (some (af gw 1)) (q+2) qc] 325)) W.heap.size W.heap.size (Ck (P.take (k+1))).length (FW (Ck (P.take (k+1)))) (Cj f (P.take (k+1))) vT vN Hp):=hid (by
     rw[Mp.out,Mq.out,fy,fy];exact El.out.below Ep.out)
    have Ul:=hid (Nt.out.below Ep.out);have HBb:=hid (hbr.out.trans (Ep.out.mono hsz));go_wp2
    go_roundw
    case rel=>exact⟨k+1,vT,vN,Hp,by omega,by go_num,HE,Ul,HBb⟩
    case measure=>simp[intOf];omega
   ·rw[aq (by omega)]at Mp
    rw[ay rfl]at Mq;have Mp:=hid Mp;have Mq:=hid Mq;have hs1:(nth l 1).size<=4000:=by simpa[BI] using Ka
    have hxm:(at_,2,l)∈AU P:=ni.2 ⟨mG HX.out,rfl⟩;have HLG:Hid (∀r∈AE l,r.length<=8):=hid λr hr=>zV (XH hr) (Gd.out.long _ hxm)
    have HUS:Hid (∀r∈AE l,∀u∈r,u.size<=4000):=hid λr hr u hu=>Bq.out.usz _ (mG HX.out) u (by show u∈I3 2 l;unfold I3;rw[aq (by decide),ay rfl];exact List.mem_flatten.2 ⟨r,hr,hu⟩)
    have CR:Hid (∀w',Below wr.heap.size wr w'->Calls Tryz.prog 202 #[.agg #[ab at_,ab (2:Nat),.slice (some (af gw 1)) (q+2) qc]] w' λe w''=>∃g cap Ak,e=.returned (ae g (AE l).length cap)/\Q7 w'' w'.heap.size (ae g (AE l).length cap) (AE l) Ak/\Below w'.heap.size w' w''):=hid λw' hb=>PV at_ 2 _ l w' (Ju.out.below hb) Nd hl4
    have hrl:=RQ l;obtain⟨m,hm⟩:=qE ((AE l).length);rw[hm]at CR hrl;have HM:Hid ((AE l).length=m):=hid hm;have hPl:=tX f P k;clear hm Ka hxm
    go_wp2_with (first
     | (go_at_call 201;go_loud (refine(ZE (nth l 1) _ hs1).mono ?_;rintro e w2 ⟨rfl,hb2⟩;have zO:Hid (Below wr.heap.size wr w2):=hid (Ep.out.trans (hb2.mono Ep.out.size));have d0:w2.cell? (af wr.heap.size 0)=some (ab at_):=(hb2.cell (by simp)).trans (BK wr _ _ 0);have d1:w2.cell? (af wr.heap.size 1)=some (ab (2:Nat)):=(hb2.cell (by simp)).trans (BK wr _ _ 1);have d2:w2.cell? (af wr.heap.size 2)=some (.slice (some (af gw 1)) (q+2) qc):=(hb2.cell (by simp)).trans (BK wr _ _ 2);have Bz:wr.heap.size<w2.heap.size:=(by have:=hb2.size;rw[bh]at this;omega);have Ap:Hid (Below wr.heap.size wr (w2.alloc (.cells #[.string (nth l 1),.slice none 0 0] 219))):=hid (zO.out.alloc (by omega) _);clear hb2))
     | (go_at_call 202;go_loud (refine(CR.out _ Ap.out).mono ?_;rintro e w4 ⟨g2,cap2,alT,rfl,Cn,hb4⟩;have HRV:=hid Cn;have Bk:=hid hb4;clear Cn hb4)))
    have agK:Below w2.heap.size w2 w4:=((ah _ _).alloc (zn _) _).trans (Bk.out.mono Kk);have HZ4:Hid (w4.heap[w2.heap.size]?=some (.cells #[.string (nth l 1),.slice none 0 0] 219 (0,0))):=hid ((Bk.out.block w2.heap.size Kk).trans (bg w2 _));have ajk:Hid (Below wr.heap.size wr w4):=hid (zO.out.trans (agK.mono zO.out.size));have Kc:Hid (w2.heap.size<w4.heap.size):=hid (ak HZ4.out);have Ci:Hid (wr.heap.size<=w2.heap.size):=hid zO.out.size;have HWW:Hid (W.heap.size<wr.heap.size):=hid (ak El.out.blk);have agL:Hid (I7 w4 w4.heap.size (.slice none 0 0) (((AE l).take 0).map (Kr f)) []):=hid ⟨jg _ _ _ _,λi ps p h=>by simp at h⟩;clear agK d0 d1 d2 k0 k1 k2 c1 c2 CR Ap Bk zX Iw;go_wp2;obtain⟨wo,rfl⟩:=qF (wr)
    go_loopw [68] (λi wq=>∃(j:Nat) (vR:Value) (Ak:List Value),j<=m/\i=ab j/\Hid (wq.heap[w2.heap.size]?=some (.cells #[.string (nth l 1),vR] 219 (0,0)))/\Hid (I7 wq w4.heap.size vR (((AE l).take j).map (Kr f)) Ak)/\Hid (A5 w4 wq [w2.heap.size])) (λi _=>m - (intOf i).toNat)
    case atStart=>exact⟨0,_,_,dh _,rfl,HZ4,agL,hid (A5.refl _ _)⟩
    case round=>
     clear agL;obtain⟨j,vR,Ak,hj,rfl,hZq,hRu,hKq⟩:=hrel;obtain⟨wq,rfl⟩:=qF (wr);have agM:Below w2.heap.size w4 wq:=hKq.out.aiE Kc.out;have Ut:Hid (Below wo.heap.size wo wq):=hid (ajk.out.trans (agM.mono Ci.out));have af2:=Ut.out.size;have ajl:w2.heap.size<wq.heap.size:=ak hZq.out;have z0:wq.cell? (af w2.heap.size 0)=some (.string (nth l 1)):=A0 hZq.out;have z1:wq.cell? (af w2.heap.size 1)=some vR:=A0 hZq.out
     by_cases Pf:j<m
     ·obtain⟨r,pr,hr,Vw,hown,Sf⟩:=HRV.out.atK HM.out hKq.out HZ4.out (by decide) (by decide) Pf
      obtain⟨aa,ca,rfl,hca,hcells⟩:=o4 hown;have HC:=hid hcells;have HR:=hid hr;have hr8:=HLG.out r (mG hr);obtain⟨rl,acK⟩:=qE (r.length);rw[acK]at hca hr8 Vw;have Nx:Hid (r.length=rl):=hid acK;have hg2:g2<wq.heap.size:=bu wq _ Vw;clear hown Sf hcells hr agM
      go_wp2_with (at_make;refine IP _ rfl _ _ 228 rfl 235 iP (.agg #[.bool false,ab 0]) Tryz.underlying228 hiP abP _ _ rl rfl rfl rfl rfl (by rw[abR];omega) (by omega) ?_;rw[abQ])
      have agN:w4.heap.size<=wq.heap.size:=hKq.out.size;have HP0:Hid ((wq.alloc (.cells (madeCells #[.bool false,ab 0] (rl*2)) 235)).ownsRow w4.heap.size 235 2 (ae wq.heap.size rl rl) rl (BZ (Ji f r 0))):=hid (by
       have h1:=q8 wq f r w4.heap.size agN (by rw[Nx.out];exact hr8);rw[Nx.out]at h1;exact h1)
      go_wp2
      go_loopw [77] (λi w5=>∃t:Nat,t<=rl/\i=ab t/\Hid (w5.ownsRow w4.heap.size 235 2 (ae wq.heap.size rl rl) rl (BZ (Ji f r t)))/\Hid (Below wq.heap.size wq w5)) (λi _=>rl - (intOf i).toNat)
      case atStart=>exact⟨0,dh _,rfl,HP0,hid (Aj (ah _ _))⟩
      case round=>
       clear HP0;obtain⟨t,ht,rfl,Xc,Hr⟩:=hrel;obtain⟨w5,rfl⟩:=qF (wr);have ajm:=Hr.out.size
       by_cases aa4:t<rl
       ·obtain⟨ga,rfl,Sg,hcc⟩:=HC.out (by rw[Nx.out];omega)
        obtain⟨u,hu⟩:∃u,r[t]?=some u:=⟨_,gE (by rw[Nx.out];exact aa4)⟩;have cu:=(Hr.out.cell (p:=(af ga t)) (by exact Sg)).trans (hcc t u hu);have Kq:=HUS.out r (mG HR.out) u (mG hu);have alU:=(Nt.out.below (Ut.out.trans (Hr.out.mono af2))).look u Bg;have hpl:=Xc.out.1;have y0:=Xc.out.cellAt (t*2) (by omega);have y1:=Xc.out.cellAt (t*2+1) (by omega);rw[gE (by omega)]at y0 y1;have f0:=Xc.out.frozenAt (t*2);have f1:=Xc.out.frozenAt (t*2+1);obtain⟨x0,hx0⟩:=qE ((BZ (Ji f r t))[t*2]'(by omega));obtain⟨x1,hx1⟩:=qE ((BZ (Ji f r t))[t*2+1]'(by omega));rw[hx0]at y0;rw[hx1]at y1;have HPn:Hid (((w5.setCell (af wq.heap.size (t*2)) (.bool (decide (f u % 2=1)))).setCell (af wq.heap.size (t*2+1)) (ab (f u / 2))).ownsRow w4.heap.size 235 2 (ae wq.heap.size rl rl) rl (BZ (Ji f r (t+1)))):=hid (by
         have h1:=Xc.out;rw[<-Nx.out]at h1 ⊢;exact qY f hu (ajg.out u) h1)
        have HBn:Hid (Below wq.heap.size wq ((w5.setCell (af wq.heap.size (t*2)) (.bool (decide (f u % 2=1)))).setCell (af wq.heap.size (t*2+1)) (ab (f u / 2)))):=hid ((Hr.out.setCell Mu _).setCell Mu _);clear hx0 hx1 hpl hcc hu Kq;go_wp2
        go_roundw
        case rel=>exact⟨t+1,by omega,by go_num,HPn,HBn⟩
        case measure=>simp[intOf];omega
       ·obtain rfl:t=rl:=by omega
        have HPF:Hid (lB w5 w4.heap.size (ae wq.heap.size t t) (Kr f r)):=hid (by
         have h1:=Xc.out;have e:(Kr f r).length=t:=by unfold Kr;rw[lM,Nx.out]
         rw[<-Nx.out,sI,Nx.out]at h1;unfold lB;rw[e];exact h1)
        have hjl:(((AE l).take j).map (Kr f)).length=j:=by rw[lM,nh,HM.out];omega
        have HJL:=hid hjl;have aex:=hRu.out.keeps (A5.zQ Hr.out []) (I9 _ _) (I9 _ _);have Uu:=aex.row;rw[hjl]at Uu;have hz5:=(Hr.out.block w2.heap.size ajl).trans hZq.out;have HZ5:=hid hz5;have v1:w5.cell? (af w2.heap.size 1)=some vR:=A0 hz5;have ajn:=hid aex;have abT:=hid Uu;have alV:w4.heap.size<=w5.heap.size:=zV agN ajm;clear hjl aex Uu hz5 Xc
        go_wp2_with (first
         | (at_builtin;refine jt _ rfl _ _ 217 rfl w4.heap.size 228 iR (.slice none 0 0) 1 24 Tryz.underlying217 Rs Rt Ru Rv rfl (by decide) _ _ _ rfl (abT.out.alloc _) (af w5.heap.size 0) 1 1 [ae wq.heap.size t t] rfl rfl (dn (dz w5 _)) ?d2 (zn 1) ?d3 ?d4 ?d5 _ rfl ?_))
        case d2=>intro u hu;simp at hu;subst hu;rfl
        case d3=>unfold maxLen;omega
        case d4=>omega
        case d5=>simp;omega
        intro g6 aac w6 Xd Xe abU abV;have hkeep:A5 w5 w6 vR.ownBlock.toList:=((A5.refl _ _).alloc _).grown Xe (λq hq=>.inl Hh);have hz6:=(hkeep.block w2.heap.size (by omega) (λhm=>A9 abT.out HZ5.out (by decide) (BJ hm))).trans HZ5.out;have v6:w6.cell? (af w2.heap.size 1)=some vR:=A0 hz6;have f6:w6.frozen? (af w2.heap.size 1)=false:=A7 hz6;have HZ6:Hid ((w6.setCell (af w2.heap.size 1) (ae g6 (j+1) aac)).heap[w2.heap.size]?=some (.cells #[.string (nth l 1),ae g6 (j+1) aac] 219 (0,0))):=hid (AA hz6 _);have ajo:Hid (I7 (w6.setCell (af w2.heap.size 1) (ae g6 (j+1) aac)) w4.heap.size (ae g6 (j+1) aac) (((AE l).take (j+1)).map (Kr f)) (Ak++ [ae wq.heap.size t t])):=hid (by
         rw[uA f HR.out];exact(ajn.out.push HPF.out hkeep (by rw[HJL.out];exact Xd)).setOther hz6 (by decide) (by decide))
        have Uq:Hid (A5 w4 (w6.setCell (af w2.heap.size 1) (ae g6 (j+1) aac)) [w2.heap.size]):=hid ((((hKq.out.af1 (A5.zQ Hr.out []) (by simp)).af1 hkeep (LD abT.out)).setCell (by simp) _));clear Xd Xe abU abV hkeep hz6;go_wp2
        go_roundw
        case rel=>exact⟨j+1,_,_,by omega,by go_num,HZ6,ajo,Uq⟩
        case measure=>simp[intOf];omega
     ·obtain rfl:j=m:=by omega
      have abW:=El.out.below Ut.out;have b0:=abW.cells.1;have b1:=abW.cells.2.1;have agO:=abW.names;have hRq:=(hRu.out.base (B':=W.heap.size) (by have:=Kc.out;have:=Ci.out;have:=HWW.out;omega));rw[<-HM.out,om]at hRq;have aey:=hRq.row;rw[lM,HM.out]at aey;obtain⟨aR,cR,rfl⟩:=BO aey;have aez:=hid abW;have ac5:=hid agO;have HRq:=hid hRq;have Zp:W.heap.size<wq.heap.size:=by have:=HWW.out;omega
      clear abW agO hRq hRu aey
      go_wp2_with (first
       | (at_builtin;go_loud (refine jt _ rfl _ _ 133 rfl W.heap.size 219 iN (.agg #[.string ByteArray.empty,.slice none 0 0]) 2 40 Tryz.underlying133 Kl Pr Pu Pv rfl (by decide) _ _ _ rfl (ac5.out.alloc _) (af wq.heap.size 0) 1 1 [.string (nth l 1),.slice aR j cR] rfl rfl (dn (dz wq _)) ?e2 (zn 1) ?e3 ?e4 ?e5 _ rfl ?_)))
      case e2=>intro u hu;simp at hu;rcases hu with rfl |rfl <;> rfl
      case e3=>unfold maxLen;omega
      case e4=>omega
      case e5=>simp;omega
      intro g7 ac6 w7 agP agQ ajp ajq;have hkeep:A5 wq w7 vN.ownBlock.toList:=((A5.refl _ _).alloc _).grown agQ (λq hq=>.inl Hh);have hz7:=(hkeep.block W.heap.size Zp (λhm=>A9 ac5.out aez.out.blk (by decide) (BJ hm))).trans aez.out.blk;have v7:w7.cell? (af W.heap.size 1)=some vN:=A0 hz7;have f7:w7.frozen? (af W.heap.size 1)=false:=A7 hz7;have hend:=aez.out.aiC (nm:=TZ f (at_,2,l)) hkeep HRq.out agP;have HE:Hid (Cc (w7.setCell (af W.heap.size 1) (ae g7 ((Cj f (P.take k)).length+1) ac6)) W.heap.size W.heap.size (Ck (P.take (k+1))).length (FW (Ck (P.take (k+1)))) (Cj f (P.take (k+1))) vT (ae g7 ((Cj f (P.take k)).length+1) ac6) (Hp++ [.slice aR j cR])):=hid (by
       rw[Mp.out,Mq.out,fy];exact hend)
      have Ul:Hid (EW (w7.setCell (af W.heap.size 1) (ae g7 ((Cj f (P.take k)).length+1) ac6)) (W.heap.size+1) P.length f):=hid (((Nt.out.below Ut.out).off ac5.out hkeep).set (by omega));have HBb:Hid (Below W.heap.size W (w7.setCell (af W.heap.size 1) (ae g7 ((Cj f (P.take k)).length+1) ac6))):=hid (((hbr.out.trans (Ut.out.mono hsz)).trans (hkeep.below (qp Zp) (LD ac5.out))).setCell Mu _);clear hend hkeep agP agQ ajp ajq hz7 El Nt;go_wp2
      go_roundw
      case rel=>exact⟨k+1,vT,_,_,by omega,by go_num,HE,Ul,HBb⟩
      case measure=>simp[intOf];omega
  ·obtain rfl:k=n:=by omega
   have hB:=El.out;rw[HN.out,om]at hB;obtain⟨aT,cT,rfl⟩:=BO hB.toks;obtain⟨aN,cN,rfl⟩:=BO hB.names;have Zk:=HV.out;have aeA:=Nt.out;have aeB:=hnc;rw[HN.out]at Zk aeB;rw[HF.out]at aeA;have CS:=mW P G Gd.out Bq.out W wr HG.out B W.heap.size W.heap.size (W.heap.size+1) g cap pv Zk aeB Bu hbr.out (zn _) (Cj f P) _ _ Hp hB aeA;rw[<-HN.out]at CS;have Dr:=hid CS;have HGE:=hid (LD hB.toks);have alW:W.heap.size<wr.heap.size:=ak hB.blk;clear hB El Zk aeA aeB CS Nt
   go_wp2_with (go_at_call 203;refine Dr.out.mono ?_;rintro e w5 ⟨rfl,aeD,Ec,Ag⟩;obtain⟨b0,b1,z0,z1⟩:=aeD.cells;have HBf:=hid aeD;have Uv:=hid Ec;have Hq:=hid Ag;clear aeD Ec Ag Dr)
   have HA:=HBf.out.again;have hN:=Gd.out.ok;have hT:(Ck P).length=(Dw P).nT:=by rw[L3];unfold Ck;simp
   have hM:(Cj f P).length=(Dw P).nN:=by rw[HF.out];rfl
   have Kt:Gt ((w5.setCell (af W.heap.size 0) (.slice aT (Ck P).length cT)).setCell (af W.heap.size 1) (.slice aN (Cj f P).length cN)) wr.heap.size (Ck P).length (Dw P).swp:=λt ht=>
    (je _ _ _ _ (by show wr.heap.size+t≠W.heap.size;omega)).trans ((je _ _ _ _ (by show wr.heap.size+t≠W.heap.size;omega)).trans (Uv.out t ht))
   have hd:=fun(W'':World) hW=>HA.done (W:=W'') hW hN (by rw[N3];exact Gd.out.nN) (by rw[L3];exact Gd.out.nT) (bK Gd.out).Nh Kt hsz hT hM (by rw[HF.out];rfl) uT (wA f P) rfl rfl
   refine⟨rfl,_,GC (p:=2) (ty:=135) rfl _ _ W.heap.size _ _ _ _ rfl HA.blk Tryz.underlying135 rfl yM,?_⟩;obtain⟨_,_,gN,rfl,_⟩:=hd _ (λ_ _ _=>rfl);refine⟨aT,cT,gN,cN,by rw[hT,hM],λW'' hW=>?_,((hbr.out.trans (Hq.out.below hsz HGE.out)).setCell Mu _).setCell Mu _⟩;obtain⟨_,_,gN',eN,hP⟩:=hd W'' hW;obtain rfl:gN=gN':=by injection eN with eN;injection eN
   rw[mN]at hP;rw[<-HF.out];exact hP
end
end Go.Proofs.YtjjggdcnpndgjaaGreatDoor
