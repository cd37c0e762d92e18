import Derived.Test.YtjjggdcnpndgjaaGreatDoorHJ22
import Derived.Test.YtjjggdcnpndgjaaGreatDoorHJ20
set_option linter.unusedSimpArgs false
set_option maxHeartbeats 8000000
set_option maxRecDepth 100000
namespace Go.Proofs.YtjjggdcnpndgjaaGreatDoor
open Go.RowKit Go.Shelf
section
attribute [local go_sem] Oper.semAt_some
abbrev BX (L:Nat) (P:Nat->Value->Prop):={x:Nat × Value // x.1<L/\P x.1 x.2}
def NY {L:Nat}{P:Nat->Value->Prop} (x:BX L P):Array Value:= #[ab (x.1.1:Int),x.1.2]
theorem LI (k:Nat):(List.range (k+1)).reverse=k::(List.range k).reverse:=by
 rw[uj,List.reverse_append];rfl
theorem ZQ (F:Fence) (n:Nat) (hF:F.fn 197) (hro:F.round=none) (ad:Option Addr) (m cap:Nat) (w:World):
  CallsIn F n Tryz.prog 197 #[.slice ad m cap] w λe w'=>e=.returned (.func (.func 224) #[] #[ac w.heap.size])/\w'=w.alloc (.cells #[.slice ad m cap] 228):=by
 refine ud Tryz.func197 rfl hF ?_ hro;simp only[Tryz.ntmps197,iz,lC,iw,Nat.reduceAdd,Nat.reduceSub,jg,jh,ju,jo,eu,ig]
 gi_wp2
 go_ret;exact⟨rfl,rfl⟩
theorem af2 {P:Prop} (h:P:=by
  have HR:=hid hR;have HL:Hid (k<L):=hid (by omega);clear hR hlen hcs hpre
  gi_wp2
  refine HR.out.mono ?_;rintro e W3 (⟨rfl,hJ3,hk3⟩ | ⟨rfl,aaM⟩)
  ·have Wm:=hid hJ3
   have HQ3:=hid (HQK.out _ _ Xn.out hk3);clear hJ3 hk3
   gi_wp2
   go_roundw
   case rel=>exact⟨k,_,by omega,by go_num,Bh,Wm,HQ3⟩
   case measure=>simp[intOf]
  ·gi_wp2
   refine xm (ql rfl _ _ _) rfl ?_;exact⟨⟨_,rfl⟩,.inr ⟨_,⟨k,HL.out,Bh.out⟩,aaM⟩⟩):P:=h
theorem af3 {P:Prop} (h:P:=by
  have HE:Hid (pre.map (·.1.1)=(List.range L).reverse):=hid (by have h1:=hpre.out;simpa using h1);rw[show((0:Nat):Int) - 1= -1 by omega]
  gi_wp2
  go_end0
  exact⟨⟨_,rfl⟩,.inl ⟨pre,HE.out,hJs.out⟩⟩):P:=h
theorem lB (n:Nat) (hn:1<=n) (l Bn L:Nat) (hL:L<=1000000) (P:Nat->Value->Prop) (K:World->World->Prop) (Q:World->Prop) (Ml:∀A B,Q A->K A B->Q B)
  (hQ:∀W,Q W->∃ad cap,W.cell? (af Bn 0)=some (.slice ad L cap)/\L<=cap/\∀i,i<L->∃g off b m,ad=some (af g off)/\P i (.agg #[b,m])/\W.cell? (af g (off+i*2))=some b/\W.cell? (af g (off+i*2+1))=some m)
  (J Jx:List (BX L P)->World->Prop) (W:World) (hY:∀pre x W,J pre W->pre.length<L->YieldAt Fence.wide (n - 1) Tryz.prog l (NY x) W λe W'=>
   (e=.returned (.bool true)/\J (pre++ [x]) W'/\K W W')\/(e=.returned (.bool false)/\Jx (pre++ [x]) W'))
  (Fz:Q W) (h0:J [] W):
  CallsIn Fence.wide n Tryz.prog 224 #[.func (.yield l) #[] #[],ac Bn] W λe W'=>(∃v,e=.returned v)/\
   ((∃ys:List (BX L P),ys.map (·.1.1)=(List.range L).reverse/\J ys W')\/(∃pre:List (BX L P),(∃k,k<L/\pre.map (·.1.1)++(List.range k).reverse=(List.range L).reverse)/\Jx pre W')):=by
 have HY:=hid hY;have HQK:=hid Ml;have HQ:=hid hQ;have Ki:Hid (J [] W):=hid h0;have Pb:Hid (Q W):=hid Fz;obtain⟨ad,cap,c0,hcap,_⟩:=hQ W Fz;clear hY h0 Ml hQ Fz;refine ud Tryz.func224 rfl trivial ?_ rfl;simp only[Tryz.ntmps224,iz,lC,iw,Nat.reduceAdd,Nat.reduceSub,jg,jh,ju,jo,eu,ig]
 gi_wp2
 clear c0 hcap
 gi_loopw [3] (λp wr=>∃(k:Nat) (pre:List (BX L P)),k<=L/\p=ab ((k:Int) - 1)/\Hid (pre.map (·.1.1)++(List.range k).reverse=(List.range L).reverse)/\Hid (J pre wr)/\Hid (Q wr)) (λp _=>(intOf p+1).toNat)
 case atStart=>exact⟨L,[],yF _,by go_num,hid rfl,Ki,Pb⟩
 case round=>
  clear Ki Pb;obtain⟨k,pre,hk,rfl,hpre,hJs,Xn⟩:=hrel;cases k with
  |zero=>
   exact af3
  |succ k=>
   rw[show((k+1:Nat):Int) - 1=(k:Int) by omega];obtain⟨ad,cap,c0,hcap,hcs⟩:=HQ.out wr Xn.out;obtain⟨g,off,b,m,rfl,Uh,cA,cB⟩:=hcs k (by omega);have hlen:pre.length<L:=by
    have h1:=congrArg List.length hpre.out;simp at h1;omega
   obtain⟨fn,tmps,assign,body,hy,hR⟩:=HY.out pre ⟨(k,(.agg #[b,m])),by show k<L;omega,Uh⟩ wr hJs.out hlen;have hy:(Instr.yield l #[ab (k:Int),(.agg #[b,m])]).run Tryz.prog wr=.ok (.round l fn tmps assign body) wr:=hy;have Bh:Hid ((pre++ [(⟨(k,(.agg #[b,m])),by show k<L;omega,Uh⟩:BX L P)]).map (·.1.1)++(List.range k).reverse=(List.range L).reverse):=hid (by
    have h1:=hpre.out;rw[LI]at h1;simpa using h1)
   exact af2
theorem T3 (n:Nat) (hn:1<=n) (Bn L:Nat) (hL:L<=1000000) (P:Nat->Value->Prop) (K:World->World->Prop) (Q:World->Prop) (Ml:∀A B,Q A->K A B->Q B)
  (hQ:∀W,Q W->∃ad cap,W.cell? (af Bn 0)=some (.slice ad L cap)/\L<=cap/\∀i,i<L->∃g off b m,ad=some (af g off)/\P i (.agg #[b,m])/\W.cell? (af g (off+i*2))=some b/\W.cell? (af g (off+i*2+1))=some m) (w:World) (hQw:∀W,Below w.heap.size w W->Q W):
  SeqStopsK Fence.wide n Tryz.prog 224 #[ac Bn] (NY (L:=L) (P:=P)) K (λys=>ys.map (·.1.1)=(List.range L).reverse) (λpre=>∃k,k<L/\pre.map (·.1.1)++(List.range k).reverse=(List.range L).reverse) L w:=λl J Jx W hW hJ _ hY h0=>by
 refine(lB n hn l Bn L hL P K Q Ml hQ J Jx W hY (hQw W hW) h0).mono ?_;rintro e W' ⟨h1,h2⟩;exact⟨h1,h2⟩
theorem s8 (F:Fence) (n:Nat) (hF:F.fn 235) (hro:F.round=none) (ad:Option Addr) (m cap:Nat) (w:World):
  CallsIn F n Tryz.prog 235 #[.slice ad m cap] w λe w'=>e=.returned (.func (.func 245) #[] #[ac w.heap.size])/\w'=w.alloc (.cells #[.slice ad m cap] 303):=by
 refine ud Tryz.func235 rfl hF ?_ hro;simp only[Tryz.ntmps235,iz,lC,iw,Nat.reduceAdd,Nat.reduceSub,jg,jh,ju,jo,eu,ig]
 gi_wp2
 go_ret;exact⟨rfl,rfl⟩
theorem nG (n:Nat) (hn:1<=n) (l Bn L:Nat) (hL:L<=1000000) (P:Nat->Value->Prop) (K:World->World->Prop) (Q:World->Prop) (Ml:∀A B,Q A->K A B->Q B)
  (hQ:∀W,Q W->∃ad cap,W.cell? (af Bn 0)=some (.slice ad L cap)/\L<=cap/\∀i,i<L->∃g off a b m,ad=some (af g off)/\P i (.agg #[a,b,m])/\W.cell? (af g (off+i*3))=some a/\W.cell? (af g (off+i*3+1))=some b/\W.cell? (af g (off+i*3+2))=some m)
  (J Jx:List (BX L P)->World->Prop) (W:World) (hY:∀pre x W,J pre W->pre.length<L->YieldAt Fence.wide (n - 1) Tryz.prog l (NY x) W λe W'=>
   (e=.returned (.bool true)/\J (pre++ [x]) W'/\K W W')\/(e=.returned (.bool false)/\Jx (pre++ [x]) W'))
  (Fz:Q W) (h0:J [] W):
  CallsIn Fence.wide n Tryz.prog 245 #[.func (.yield l) #[] #[],ac Bn] W λe W'=>(∃v,e=.returned v)/\
   ((∃ys:List (BX L P),ys.map (·.1.1)=(List.range L).reverse/\J ys W')\/(∃pre:List (BX L P),(∃k,k<L/\pre.map (·.1.1)++(List.range k).reverse=(List.range L).reverse)/\Jx pre W')):=by
 have HY:=hid hY;have HQK:=hid Ml;have HQ:=hid hQ;have Ki:Hid (J [] W):=hid h0;have Pb:Hid (Q W):=hid Fz;obtain⟨ad,cap,c0,hcap,_⟩:=hQ W Fz;clear hY h0 Ml hQ Fz;refine ud Tryz.func245 rfl trivial ?_ rfl;simp only[Tryz.ntmps245,iz,lC,iw,Nat.reduceAdd,Nat.reduceSub,jg,jh,ju,jo,eu,ig]
 gi_wp2
 clear c0 hcap
 gi_loopw [3] (λp wr=>∃(k:Nat) (pre:List (BX L P)),k<=L/\p=ab ((k:Int) - 1)/\Hid (pre.map (·.1.1)++(List.range k).reverse=(List.range L).reverse)/\Hid (J pre wr)/\Hid (Q wr)) (λp _=>(intOf p+1).toNat)
 case atStart=>exact⟨L,[],yF _,by go_num,hid rfl,Ki,Pb⟩
 case round=>
  clear Ki Pb;obtain⟨k,pre,hk,rfl,hpre,hJs,Xn⟩:=hrel;cases k with
  |zero=>
   exact af3
  |succ k=>
   rw[show((k+1:Nat):Int) - 1=(k:Int) by omega];obtain⟨ad,cap,c0,hcap,hcs⟩:=HQ.out wr Xn.out;obtain⟨g,off,a,b,m,rfl,Uh,cA,cB,cC⟩:=hcs k (by omega);have hlen:pre.length<L:=by
    have h1:=congrArg List.length hpre.out;simp at h1;omega
   obtain⟨fn,tmps,assign,body,hy,hR⟩:=HY.out pre ⟨(k,(.agg #[a,b,m])),by show k<L;omega,Uh⟩ wr hJs.out hlen;have hy:(Instr.yield l #[ab (k:Int),(.agg #[a,b,m])]).run Tryz.prog wr=.ok (.round l fn tmps assign body) wr:=hy;have Bh:Hid ((pre++ [(⟨(k,(.agg #[a,b,m])),by show k<L;omega,Uh⟩:BX L P)]).map (·.1.1)++(List.range k).reverse=(List.range L).reverse):=hid (by
    have h1:=hpre.out;rw[LI]at h1;simpa using h1)
   exact af2
theorem dI (n:Nat) (hn:1<=n) (Bn L:Nat) (hL:L<=1000000) (P:Nat->Value->Prop) (K:World->World->Prop) (Q:World->Prop) (Ml:∀A B,Q A->K A B->Q B)
  (hQ:∀W,Q W->∃ad cap,W.cell? (af Bn 0)=some (.slice ad L cap)/\L<=cap/\∀i,i<L->∃g off a b m,ad=some (af g off)/\P i (.agg #[a,b,m])/\W.cell? (af g (off+i*3))=some a/\W.cell? (af g (off+i*3+1))=some b/\W.cell? (af g (off+i*3+2))=some m) (w:World) (hQw:∀W,Below w.heap.size w W->Q W):
  SeqStopsK Fence.wide n Tryz.prog 245 #[ac Bn] (NY (L:=L) (P:=P)) K (λys=>ys.map (·.1.1)=(List.range L).reverse) (λpre=>∃k,k<L/\pre.map (·.1.1)++(List.range k).reverse=(List.range L).reverse) L w:=λl J Jx W hW hJ _ hY h0=>by
 refine(nG n hn l Bn L hL P K Q Ml hQ J Jx W hY (hQw W hW) h0).mono ?_;rintro e W' ⟨h1,h2⟩;exact⟨h1,h2⟩
theorem rW (F:Fence) (n:Nat) (hF:F.fn 189) (hro:F.round=none) (ad:Option Addr) (m cap:Nat) (w:World):
  CallsIn F n Tryz.prog 189 #[.slice ad m cap] w λe w'=>e=.returned (.func (.func 215) #[] #[ac w.heap.size])/\w'=w.alloc (.cells #[.slice ad m cap] 304):=by
 refine ud Tryz.func189 rfl hF ?_ hro;simp only[Tryz.ntmps189,iz,lC,iw,Nat.reduceAdd,Nat.reduceSub,jg,jh,ju,jo,eu,ig]
 gi_wp2
 go_ret;exact⟨rfl,rfl⟩
end
section
open Go.RowKit Go.Shelf Go.WideMaps Go.Maps
theorem Tryz.infoB268:(Tryz.prog.info? 268).map (λi=>(i.zero,i.size,i.bytes))=some (some (.agg #[.string ByteArray.empty,ab 0,ab 0,.slice none 0 0]),4,56):=by kernel_rfl
theorem Tryz.infoB219:(Tryz.prog.info? 219).map (λi=>(i.zero,i.size,i.bytes))=some (some (.agg #[.string ByteArray.empty,.slice none 0 0]),2,40):=by kernel_rfl
theorem Tryz.infoB228:(Tryz.prog.info? 228).map (λi=>(i.zero,i.size,i.bytes))=some (some (.slice none 0 0),1,24):=by kernel_rfl
theorem Tryz.infoB235:(Tryz.prog.info? 235).map (λi=>(i.zero,i.size,i.bytes))=some (some (.agg #[.bool false,ab 0]),2,16):=by kernel_rfl
theorem rT {l:List ByteArray}{i:Nat} (h:DH (nth l i)=true):i<l.length:=by
 rcases jw i l.length with h1 |h1
 ·exact h1
 ·unfold nth at h
  rw[zh,dy h1]at h;exact absurd h (by decide+kernel)
theorem mX {w:World}{B:Nat}{p:Value}{r:List ByteArray} (h:w.ownsRow B 9 1 p r.length (r.map Value.string)):∃a c,p=.slice a r.length c/\r.length<=c/\(0<r.length->∃g,a=some (af g 0)/\g<w.heap.size/\∀i u,r[i]?=some u->w.cell? (af g i)=some (.string u)):=by
 obtain⟨a,c,rfl⟩:=BB h;refine⟨a,c,rfl,?_,λh0=>?_⟩
 ·rcases h.2 with⟨h1,h2⟩ | ⟨g,cap,cur,h1,_,hg,hnc,_⟩
  ·injection h1 with _ _ h1;omega
  ·injection h1 with _ _ h1;omega
 ·obtain⟨g,cap,hs,_,hlt,_⟩:=AX h h0
  injection hs with e1 _ e3
  subst e1;subst e3;refine⟨g,rfl,hlt,λi u hu=>?_⟩;rw[h.cellAt i (by have:=(yS.1 hu).1;omega),gM,hu];rfl
theorem nD (P:List Ln) (G:Gr) (hg:Ct P G) (hok:LJ P) (W:World) (hG:DT W) (B:Nat) (v:Value) (pv:List Value) (hV:Ac W B v P pv):
  Calls Tryz.prog 152 #[v] W λe w'=>∃yu yl gN xY,e=.returned (.agg #[.slice yu (Ch P).nT yl,ae gN (Ch P).nN xY])/\(∀W'',(∀q,W.heap.size<=q->q<w'.heap.size->W''.heap[q]?=w'.heap[q]?)->Ba W'' w'.heap.size (Ch P) (L9 P) (Ao (D4 P) P) yu yl gN xY)/\Below W.heap.size W w':=by
 obtain⟨iT,hiT,acf,acg,ach⟩:=jc Tryz.infoB268;obtain⟨iN,Hx,Nr,Ns,Nt⟩:=jc Tryz.infoB219;obtain⟨iR,Pv,Pw,Px,Py⟩:=jc Tryz.infoB228;obtain⟨iP,hiP,aa8,aa9,aba⟩:=jc Tryz.infoB235
 rcases hV.form with⟨rfl,hnil⟩ | ⟨g,cap,rfl,hnc,Bf⟩
 ·exfalso;subst hnil;have:=hg.pos;simp[AM]at this
 obtain⟨n,hN⟩:=qF (P.length);have hn:=hok.len;rw[<-hN]at hn hnc hV ⊢;have HN:Hid (n=P.length):=hid hN;have HV:=hid hV;have zZ:=hid hok;have Eg:=hid hg;have HG:=hid hG;obtain⟨f,hf⟩:=qF (D4 P);have HF:Hid (f=D4 P):=hid hf;have aiG:Hid (∀s,0<=f s):=hid (by rw[hf];exact hg.g.code.pos);have CN:Hid (Calls Tryz.prog 199 #[ae g n cap] (W.alloc (.cells #[.slice none 0 0,.slice none 0 0] 135)) λe w'=>e=.returned (.map (some (W.heap.size+1)))/\EJ w' (W.heap.size+1) P.length f/\Below (W.heap.size+1) (W.alloc (.cells #[.slice none 0 0,.slice none 0 0] 135)) w'):=hid (by
  have h1:=aZ _ P pv B (W.alloc (.cells #[.slice none 0 0,.slice none 0 0] 135)) (hV.below ((ah _ _).alloc (yF _) _)) hok;rw[bg]at h1;rw[hf];exact h1)
 clear hN hV hok hg hG hf
 go_enter Tryz.func152,Tryz.ntmps152
 go_wp2_with (go_at_call 199;refine CN.out.mono ?_;rintro e w1 ⟨rfl,hm1,hb1⟩;have HM1:=hid hm1;have Nz:Hid (w1.heap[W.heap.size]?=some (.cells #[.slice none 0 0,.slice none 0 0] 135 (0,0))):=hid ((hb1.block W.heap.size (by omega)).trans (ay W _));have yR:Hid (Below W.heap.size W w1):=hid ((zl (ah _ _)).trans (hb1.mono (by omega)));clear hm1 hb1 CN)
 have aaR:Hid (Ag w1 W.heap.size W.heap.size (Ap (P.take 0)).length (FO (Ap (P.take 0))) (Ao f (P.take 0)) (.slice none 0 0) (.slice none 0 0) []):=hid ⟨Nz.out,yF _,je _ _ _ _,je _ _ _ _,rfl,λi nm p h=>by simp[Ao,AM]at h⟩
 go_loopw [20] (λi wr=>∃(k:Nat) (vT vN:Value) (Fg:List Value),k<=n/\i=ab k/\Hid (Ag wr W.heap.size W.heap.size (Ap (P.take k)).length (FO (Ap (P.take k))) (Ao f (P.take k)) vT vN Fg)/\Hid (EJ wr (W.heap.size+1) P.length f)/\Hid (Below W.heap.size W wr)) (λi _=>n - (intOf i).toNat)
 case atStart=>exact⟨0,_,_,_,bu _,rfl,aaR,HM1,yR⟩
 case round=>
  clear aaR HM1 Nz yR;obtain⟨k,vT,vN,Fg,hk,rfl,Cv,Mb,hbr⟩:=hrel;have hsz:=hbr.out.size
  by_cases hlt:k<n
  ·obtain⟨x,hx⟩:∃x,P[k]?=some x:=⟨_,gE Iz⟩
   have Cq:=zZ.out.ok x (mG hx);have hx2:=zZ.out.sh x (mG hx);have Hs:=zZ.out.gsz x (mG hx);obtain⟨p,hp,Cl,k0,k1,k2⟩:=(HV.out.below hbr.out).at hx;have Lp:3<=x.2.2.length:=Cq.1;have hl4:x.2.2.length<=4001:=Cq.2;obtain⟨gw,q,qc,csw,rfl,hqc,y6,c1,c2⟩:=SJ Cl Lp;have Hl:=ak y6;have Ho:=hid Cl;have HX:=hid hx;have Kv:=qP hx;have Kw:=sA f hx;obtain⟨at_,sh,l⟩:=x;simp only at k0 k1 k2 hx2 Hs c1 c2 Lp hl4 Kv Kw;have hgr:g<wr.heap.size:=lL Bf hsz;have Db:Hid (Below wr.heap.size wr (wr.alloc (.cells #[ab at_,ab sh,.slice (some (af gw 1)) (q+2) qc] 325))):=hid ((ah _ _).alloc (yF _) _);clear hp Cq Cl hx;have ac4:sh=0\/sh=1\/sh=2:=by omega
   clear hx2
   rcases ac4 with rfl |rfl |rfl
   ·rw[aq rfl]at Kv
    rw[au (by omega)]at Kw;have Kv:=hid Kv;have Kw:=hid Kw;have hmem:(at_,0,l)∈B2 P:=mo.2 ⟨mG HX.out,rfl⟩;have Ls:DH (nth l 2)=true:=Eg.out.num _ hmem;have abb:DH (nth l 3)=true:=Eg.out.afe _ hmem;have hval:=K7 Ls;have aiH:=K7 abb;have hs2:=(PS Ls).1;have hs3:=(PS abb).1;obtain⟨Ev,c3⟩:=SI Ho.out (rT abb);have Ks:=hid Ls;have af4:=hid abb;have hs1:(nth l 1).size<=4000:=by simpa[BC] using Hs
    have CC:Hid (∀w',Below wr.heap.size wr w'->Calls Tryz.prog 200 #[.string (nth l 2)] w' λe w''=>e=.returned (.tuple #[ab (C4 (nth l 2).data.toList),.bool true])/\Below w'.heap.size w' w''):=hid λw' hb=>by
     refine(N8 (nth l 2) w' (HG.out.below (hbr.out.trans (hb.mono hsz)) HG.out.size) (by omega)).mono ?_;rintro e w'' ⟨⟨m,rfl,hm⟩,hb'⟩;rw[hm Ks.out,Ks.out];exact⟨rfl,hb'⟩
    have CD:Hid (∀w',Below wr.heap.size wr w'->Calls Tryz.prog 200 #[.string (nth l 3)] w' λe w''=>e=.returned (.tuple #[ab (C4 (nth l 3).data.toList),.bool true])/\Below w'.heap.size w' w''):=hid λw' hb=>by
     refine(N8 (nth l 3) w' (HG.out.below (hbr.out.trans (hb.mono hsz)) HG.out.size) (by omega)).mono ?_;rintro e w'' ⟨⟨m,rfl,hm⟩,hb'⟩;rw[hm af4.out,af4.out];exact⟨rfl,hb'⟩
    obtain⟨nv,Ii⟩:=qE (C4 (nth l 2).data.toList);obtain⟨nd,hnd⟩:=qE (C4 (nth l 3).data.toList);rw[Ii]at CC hval;rw[hnd]at CD aiH;have Rk:=hid Ii;have HND:=hid hnd;have Mc:=tJ P k;have hqa:(1:Int)< (q:Int)+2:=by omega
    have hqb:(2:Int)< (q:Int)+2:=by omega
    clear Ii hnd Hs Ls abb hmem
    go_wp2_with (first
     | (go_at_call_of 200 (Value.string (nth l 2));refine(CC.out _ Db.out).mono ?_;rintro e w5 ⟨rfl,yT⟩;have zI:Hid (Below wr.heap.size wr w5):=hid (Db.out.trans (yT.mono Db.out.size));have L5:=(yT.block wr.heap.size (by simp)).trans (ay wr _);have d5:w5.cell? (af wr.heap.size 2)=some (.slice (some (af gw 1)) (q+2) qc):=(yT.cell (by simp)).trans (BF wr _ _ 2);have c5:=(zI.out.cell (p:=(af gw 3)) Rb).trans c3;have aci:wr.heap.size<w5.heap.size:=(by(have:=yT.size;rw[bg]at this;omega));clear yT)
     | (go_at_call_of 200 (Value.string (nth l 3));refine(CD.out _ zI.out).mono ?_;rintro e w2 ⟨rfl,hb2⟩;have yV:Hid (Below wr.heap.size wr w2):=hid (zI.out.trans (hb2.mono zI.out.size));have L2:=(hb2.block wr.heap.size aci).trans L5;have W2:=(yV.out.block gw Hl).trans y6;have d2:w2.cell? (af wr.heap.size 2)=some (.slice (some (af gw 1)) (q+2) qc):=(hb2.cell (by exact aci)).trans d5;have c1':=(yV.out.cell (p:=(af gw 1)) Rb).trans c1;have Ad:wr.heap.size<w2.heap.size:=lL aci hb2.size))
    have Xo:=Cv.out.below yV.out;have adH:=hid Xo;have hT:=Xo.toks;have b0:=Xo.cells.1;have aiI:=Xo.cells.2.2.1;have hbl:W.heap.size<w2.heap.size:=ak Xo.blk;have aiJ:gw<w2.heap.size:=by omega
    have hW2:W.heap.size<=w2.heap.size:=by omega
    have fB:some W.heap.size≠vT.ownBlock:=λe=>A5 hT Xo.blk (by decide) e.symm
    clear Xo k0 k1 k2 c1 c2 c3 CC CD hb2 L5 d5 c5 aci;have Ro:(0:Int)< (q:Int)+2:=by omega
    refine AE (λw'=>w'.cell? (af W.heap.size 0)=some vT/\w'.cell? (af wr.heap.size 2)=some (.slice (some (af gw 1)) (q+2) qc)/\w'.cell? (af gw 1)=some (.string (nth l 1))) yg yg ⟨b0,d2,c1'⟩ (λhH=>?_);simp only[AB,BM,AO];refine tB 0 hH ?_;refine tB 1 hH ?_;refine tB 2 hH ?_;refine tB 3 hH ?_;refine tB 4 hH ?_;refine tB 5 hH ?_;refine tB 7 hH ?_;refine tB 8 hH ?_;refine tL ?_;refine tS 6 λK hK=>?_
    refine tM ?_;rw[aq (by rfl)];go_simp;refine(XJ (nth l 1) _ hs1).mono ?_;rintro e w3 ⟨rfl,hb3⟩;refine hK.out _ _ ?_ λhH=>?_
    ·exact⟨(hb3.cell (by exact hbl)).trans hH.1,(hb3.cell (by exact Ad)).trans hH.2.1,(hb3.cell (by exact aiJ)).trans hH.2.2⟩
    clear hK K;refine tL ?_;have acj:Hid (Below w2.heap.size w2 w3):=hid ((Af (ah _ _)).trans (by exact hb3));have Xp:=A7 hT (A1.yX acj.out []) (by simp);have fL:some wr.heap.size≠vT.ownBlock:=λe=>A5 hT L2 (by decide) e.symm
    have fW:some gw≠vT.ownBlock:=λe=>A5 hT W2 (by decide) e.symm
    have hz3:w2.heap.size<=w3.heap.size:=acj.out.size;refine tB 9 hH ?_;refine tL ?_;refine tS 10 λK hK=>?_
    refine tM ?_;go_simp;refine hK.out _ _ ?_ λhH=>?_
    ·go_keep
    clear hK K;refine tL ?_;refine tS 11 λK hK=>?_
    refine tM ?_;rw[aq (by rfl)];refine mz _ (.tmp 45) (.tmp 54) 132 rfl W.heap.size 268 iT (.agg #[.string ByteArray.empty,ab 0,ab 0,.slice none 0 0]) 4 56 Tryz.underlying132 hiT acf acg ach rfl (by decide) vT _ _ rfl (Xp.alloc _) (af w3.heap.size 0) 1 1 [.string (nth l 1),ab nv,ab nd,.slice none 0 0] rfl rfl (dh (fr:=(0,0)) (dw w3 _)) Fb (by omega) zX (by omega) yM _ rfl ?_;intro g' cap' w4 hown hgrow hat hlt';refine hK.out _ _ ?_ λhH=>?_
    ·exact⟨(hgrow.cell_far _ yM (by exact fB)).trans hH.1,(hgrow.cell_far _ yM (by exact fL)).trans hH.2.1,(hgrow.cell_far _ yM (by exact fW)).trans hH.2.2⟩
    clear hK K;refine tB 12 hH ?_;refine tB 13 hH ?_;refine tL ?_;refine bk yg ?_ _;have hkeep:A1 w2 w4 vT.ownBlock.toList:=((A1.yX acj.out _).alloc (Obj.cells #[.string (nth l 1),ab nv,ab nd,.slice none 0 0] 268)).grown hgrow (λk hk=>.inl (by rw[hk];simp));have hb4:=(hkeep.block W.heap.size hbl (λhm=>fB (BE hm).symm)).trans adH.out.blk;have b04:w4.cell? (af W.heap.size 0)=some vT:=A0 hb4;have f04:w4.frozen? (af W.heap.size 0)=false:=A3 hb4;have hnn:((nv.toNat:Nat):Int)=nv:=wh (by omega);have af5:((nd.toNat:Nat):Int)=nd:=wh (by omega);have Sf:MI (nth l 1,nv.toNat,nd.toNat) (.slice none 0 0)=[.string (nth l 1),ab nv,ab nd,.slice none 0 0]:=by
     show [_,ab ((nv.toNat:Nat):Int),ab ((nd.toNat:Nat):Int),_]=_;rw[hnn,af5]
    have hend:=adH.out.ah2 (t:=(nth l 1,nv.toNat,nd.toNat)) hkeep (by rw[Sf];exact hown);have HE:Hid (Ag (w4.setCell (af W.heap.size 0) (ae g' ((Ap (P.take k)).length+1) cap')) W.heap.size W.heap.size (Ap (P.take (k+1))).length (FO (Ap (P.take (k+1)))) (Ao f (P.take (k+1))) (ae g' ((Ap (P.take k)).length+1) cap') vN Fg):=hid (by
     rw[Kv.out,Kw.out,iq];have e:iF (at_,0,l)=(nth l 1,nv.toNat,nd.toNat):=by unfold iF;rw[Rk.out,HND.out]
     rw[e,lA];exact hend)
    have Rz:Hid (EJ (w4.setCell (af W.heap.size 0) (ae g' ((Ap (P.take k)).length+1) cap')) (W.heap.size+1) P.length f):=hid (((Mb.out.below yV.out).off hT hkeep).set (by omega));have HBb:Hid (Below W.heap.size W (w4.setCell (af W.heap.size 0) (ae g' ((Ap (P.take k)).length+1) cap'))):=hid (((hbr.out.trans (yV.out.mono hsz)).trans (hkeep.below hW2 (KS hT))).setCell Lc _);clear hend hkeep hown hgrow hat hlt' hT Xp hH hb4 fB fL fW L2 W2 d2 c1' b0 aiI Cv Mb adH acj hb3 hnn af5 Sf;show wpList _ _ _ _ _ _;go_wp2
    go_roundw
    case rel=>exact⟨k+1,_,vN,Fg,by omega,by go_num,HE,Rz,HBb⟩
    case measure=>simp[intOf];omega
   ·rw[au (by omega)]at Kv Kw
    have Kv:=hid Kv;have Kw:=hid Kw;have HE:Hid (Ag (wr.alloc (.cells #[ab at_,ab 1,.slice (some (af gw 1)) (q+2) qc] 325)) W.heap.size W.heap.size (Ap (P.take (k+1))).length (FO (Ap (P.take (k+1)))) (Ao f (P.take (k+1))) vT vN Fg):=hid (by
     rw[Kv.out,Kw.out,iq,iq];exact Cv.out.below Db.out)
    have Rz:=hid (Mb.out.below Db.out);have HBb:=hid (hbr.out.trans (Db.out.mono hsz));go_wp2
    go_roundw
    case rel=>exact⟨k+1,vT,vN,Fg,by omega,by go_num,HE,Rz,HBb⟩
    case measure=>simp[intOf];omega
   ·rw[au (by omega)]at Kv
    rw[aq rfl]at Kw;have Kv:=hid Kv;have Kw:=hid Kw;have hs1:(nth l 1).size<=4000:=by simpa[BC] using Hs
    have hxm:(at_,2,l)∈AM P:=mo.2 ⟨mG HX.out,rfl⟩;have HLG:Hid (∀r∈A8 l,r.length<=8):=hid λr hr=>y5 (WD hr) (Eg.out.long _ hxm)
    have HUS:Hid (∀r∈A8 l,∀u∈r,u.size<=4000):=hid λr hr u hu=>zZ.out.usz _ (mG HX.out) u (by show u∈GP 2 l;unfold GP;rw[au (by decide),aq rfl];exact List.mem_flatten.2 ⟨r,hr,hu⟩)
    have CR:Hid (∀w',Below wr.heap.size wr w'->Calls Tryz.prog 202 #[.agg #[ab at_,ab (2:Nat),.slice (some (af gw 1)) (q+2) qc]] w' λe w''=>∃g cap zm,e=.returned (ae g (A8 l).length cap)/\P8 w'' w'.heap.size (ae g (A8 l).length cap) (A8 l) zm/\Below w'.heap.size w' w''):=hid λw' hb=>OX at_ 2 _ l w' (Ho.out.below hb) Lp hl4
    have hrl:=R5 l;obtain⟨m,hm⟩:=qE ((A8 l).length);rw[hm]at CR hrl;have HM:Hid ((A8 l).length=m):=hid hm;have hPl:=uJ f P k;clear hm Hs hxm
    go_wp2_with (first
     | (go_at_call 201;go_loud (refine(XJ (nth l 1) _ hs1).mono ?_;rintro e w2 ⟨rfl,hb2⟩;have yV:Hid (Below wr.heap.size wr w2):=hid (Db.out.trans (hb2.mono Db.out.size));have d0:w2.cell? (af wr.heap.size 0)=some (ab at_):=(hb2.cell (by simp)).trans (BF wr _ _ 0);have d1:w2.cell? (af wr.heap.size 1)=some (ab (2:Nat)):=(hb2.cell (by simp)).trans (BF wr _ _ 1);have d2:w2.cell? (af wr.heap.size 2)=some (.slice (some (af gw 1)) (q+2) qc):=(hb2.cell (by simp)).trans (BF wr _ _ 2);have Ad:wr.heap.size<w2.heap.size:=(by have:=hb2.size;rw[bg]at this;omega);have zy:Hid (Below wr.heap.size wr (w2.alloc (.cells #[.string (nth l 1),.slice none 0 0] 219))):=hid (yV.out.alloc (by omega) _);clear hb2))
     | (go_at_call 202;go_loud (refine(CR.out _ zy.out).mono ?_;rintro e w4 ⟨g2,cap2,alg,rfl,Ai,hb4⟩;have HRV:=hid Ai;have zV:=hid hb4;clear Ai hb4)))
    have af6:Below w2.heap.size w2 w4:=((ah _ _).alloc (yF _) _).trans (zV.out.mono Hw);have Xl:Hid (w4.heap[w2.heap.size]?=some (.cells #[.string (nth l 1),.slice none 0 0] 219 (0,0))):=hid ((zV.out.block w2.heap.size Hw).trans (ay w2 _));have aiK:Hid (Below wr.heap.size wr w4):=hid (yV.out.trans (af6.mono yV.out.size));have Md:Hid (w2.heap.size<w4.heap.size):=hid (ak Xl.out);have Ak:Hid (wr.heap.size<=w2.heap.size):=hid yV.out.size;have HWW:Hid (W.heap.size<wr.heap.size):=hid (ak Cv.out.blk);have af7:Hid (GV w4 w4.heap.size (.slice none 0 0) (((A8 l).take 0).map (Ih f)) []):=hid ⟨je _ _ _ _,λi ps p h=>by simp at h⟩;clear af6 d0 d1 d2 k0 k1 k2 c1 c2 CR zy zV y6 Hl;go_wp2;obtain⟨wo,rfl⟩:=qF (wr)
    go_loopw [68] (λi wq=>∃(j:Nat) (vR:Value) (zm:List Value),j<=m/\i=ab j/\Hid (wq.heap[w2.heap.size]?=some (.cells #[.string (nth l 1),vR] 219 (0,0)))/\Hid (GV wq w4.heap.size vR (((A8 l).take j).map (Ih f)) zm)/\Hid (A1 w4 wq [w2.heap.size])) (λi _=>m - (intOf i).toNat)
    case atStart=>exact⟨0,_,_,bu _,rfl,Xl,af7,hid (A1.refl _ _)⟩
    case round=>
     clear af7;obtain⟨j,vR,zm,hj,rfl,hZq,hRu,hKq⟩:=hrel;obtain⟨wq,rfl⟩:=qF (wr);have af8:Below w2.heap.size w4 wq:=hKq.out.ah5 Md.out;have Sg:Hid (Below wo.heap.size wo wq):=hid (aiK.out.trans (af8.mono Ak.out));have afr:=Sg.out.size;have aiL:w2.heap.size<wq.heap.size:=ak hZq.out;have z0:wq.cell? (af w2.heap.size 0)=some (.string (nth l 1)):=A0 hZq.out;have z1:wq.cell? (af w2.heap.size 1)=some vR:=A0 hZq.out
     by_cases Vw:j<m
     ·obtain⟨r,pr,hr,Tl,hown,Qc⟩:=HRV.out.atK HM.out hKq.out Xl.out (by decide) (by decide) Vw
      obtain⟨aa,ca,rfl,hca,hcells⟩:=mX hown;have HC:=hid hcells;have HR:=hid hr;have hr8:=HLG.out r (mG hr);obtain⟨rl,abW⟩:=qE (r.length);rw[abW]at hca hr8 Tl;have Mf:Hid (r.length=rl):=hid abW;have hg2:g2<wq.heap.size:=bq wq _ Tl;clear hown Qc hcells hr af8
      go_wp2_with (at_make;refine M7 _ rfl _ _ 228 rfl 235 iP (.agg #[.bool false,ab 0]) Tryz.underlying228 hiP aa8 _ _ rl rfl rfl rfl rfl (by rw[aba];omega) (by omega) ?_;rw[aa9])
      have af9:w4.heap.size<=wq.heap.size:=hKq.out.size;have HP0:Hid ((wq.alloc (.cells (madeCells #[.bool false,ab 0] (rl*2)) 235)).ownsRow w4.heap.size 235 2 (ae wq.heap.size rl rl) rl (BO (Gs f r 0))):=hid (by
       have h1:=nH wq f r w4.heap.size af9 (by rw[Mf.out];exact hr8);rw[Mf.out]at h1;exact h1)
      go_wp2
      go_loopw [77] (λi w5=>∃t:Nat,t<=rl/\i=ab t/\Hid (w5.ownsRow w4.heap.size 235 2 (ae wq.heap.size rl rl) rl (BO (Gs f r t)))/\Hid (Below wq.heap.size wq w5)) (λi _=>rl - (intOf i).toNat)
      case atStart=>exact⟨0,bu _,rfl,HP0,hid (zl (ah _ _))⟩
      case round=>
       clear HP0;obtain⟨t,ht,rfl,Ui,Xq⟩:=hrel;obtain⟨w5,rfl⟩:=qF (wr);have aiM:=Xq.out.size
       by_cases abc:t<rl
       ·obtain⟨ga,rfl,hga,hcc⟩:=HC.out (by rw[Mf.out];omega)
        obtain⟨u,hu⟩:∃u,r[t]?=some u:=⟨_,gE (by rw[Mf.out];exact abc)⟩;have cu:=(Xq.out.cell (p:=(af ga t)) (by exact hga)).trans (hcc t u hu);have Ic:=HUS.out r (mG HR.out) u (mG hu);have alh:=(Mb.out.below (Sg.out.trans (Xq.out.mono afr))).look u zX;have hpl:=Ui.out.1;have y0:=Ui.out.cellAt (t*2) (by omega);have y1:=Ui.out.cellAt (t*2+1) (by omega);rw[gE (by omega)]at y0 y1;have f0:=Ui.out.frozenAt (t*2);have f1:=Ui.out.frozenAt (t*2+1);obtain⟨x0,hx0⟩:=qE ((BO (Gs f r t))[t*2]'(by omega));obtain⟨x1,hx1⟩:=qE ((BO (Gs f r t))[t*2+1]'(by omega));rw[hx0]at y0;rw[hx1]at y1;have HPn:Hid (((w5.setCell (af wq.heap.size (t*2)) (.bool (decide (f u % 2=1)))).setCell (af wq.heap.size (t*2+1)) (ab (f u / 2))).ownsRow w4.heap.size 235 2 (ae wq.heap.size rl rl) rl (BO (Gs f r (t+1)))):=hid (by
         have h1:=Ui.out;rw[<-Mf.out]at h1 ⊢;exact q8 f hu (aiG.out u) h1)
        have HBn:Hid (Below wq.heap.size wq ((w5.setCell (af wq.heap.size (t*2)) (.bool (decide (f u % 2=1)))).setCell (af wq.heap.size (t*2+1)) (ab (f u / 2)))):=hid ((Xq.out.setCell Lc _).setCell Lc _);clear hx0 hx1 hpl hcc hu Ic;go_wp2
        go_roundw
        case rel=>exact⟨t+1,by omega,by go_num,HPn,HBn⟩
        case measure=>simp[intOf];omega
       ·obtain rfl:t=rl:=by omega
        have HPF:Hid (iO w5 w4.heap.size (ae wq.heap.size t t) (Ih f r)):=hid (by
         have h1:=Ui.out;have e:(Ih f r).length=t:=by unfold Ih;rw[lM,Mf.out]
         rw[<-Mf.out,pO,Mf.out]at h1;unfold iO;rw[e];exact h1)
        have hjl:(((A8 l).take j).map (Ih f)).length=j:=by rw[lM,nk,HM.out];omega
        have HJL:=hid hjl;have adI:=hRu.out.keeps (A1.yX Xq.out []) (GX _ _) (GX _ _);have Sh:=adI.row;rw[hjl]at Sh;have hz5:=(Xq.out.block w2.heap.size aiL).trans hZq.out;have HZ5:=hid hz5;have v1:w5.cell? (af w2.heap.size 1)=some vR:=A0 hz5;have aiN:=hid adI;have abd:=hid Sh;have ali:w4.heap.size<=w5.heap.size:=y5 af9 aiM;clear hjl adI Sh hz5 Ui
        go_wp2_with (first
         | (at_builtin;refine jq _ rfl _ _ 217 rfl w4.heap.size 228 iR (.slice none 0 0) 1 24 Tryz.underlying217 Pv Pw Px Py rfl (by decide) _ _ _ rfl (abd.out.alloc _) (af w5.heap.size 0) 1 1 [ae wq.heap.size t t] rfl rfl (dh (dw w5 _)) ?d2 (yF 1) ?d3 ?d4 ?d5 _ rfl ?_))
        case d2=>intro u hu;simp at hu;subst hu;rfl
        case d3=>unfold maxLen;omega
        case d4=>omega
        case d5=>simp;omega
        intro g6 abe w6 aga agb aiO aiP;have hkeep:A1 w5 w6 vR.ownBlock.toList:=((A1.refl _ _).alloc _).grown agb (λq hq=>.inl Fp);have hz6:=(hkeep.block w2.heap.size (by omega) (λhm=>A5 abd.out HZ5.out (by decide) (BE hm))).trans HZ5.out;have v6:w6.cell? (af w2.heap.size 1)=some vR:=A0 hz6;have f6:w6.frozen? (af w2.heap.size 1)=false:=A3 hz6;have HZ6:Hid ((w6.setCell (af w2.heap.size 1) (ae g6 (j+1) abe)).heap[w2.heap.size]?=some (.cells #[.string (nth l 1),ae g6 (j+1) abe] 219 (0,0))):=hid (A6 hz6 _);have aiQ:Hid (GV (w6.setCell (af w2.heap.size 1) (ae g6 (j+1) abe)) w4.heap.size (ae g6 (j+1) abe) (((A8 l).take (j+1)).map (Ih f)) (zm++ [ae wq.heap.size t t])):=hid (by
         rw[vB f HR.out];exact(aiN.out.push HPF.out hkeep (by rw[HJL.out];exact aga)).setOther hz6 (by decide) (by decide))
        have Se:Hid (A1 w4 (w6.setCell (af w2.heap.size 1) (ae g6 (j+1) abe)) [w2.heap.size]):=hid ((((hKq.out.afq (A1.yX Xq.out []) (by simp)).afq hkeep (KS abd.out)).setCell (by simp) _));clear aga agb aiO aiP hkeep hz6;go_wp2
        go_roundw
        case rel=>exact⟨j+1,_,_,by omega,by go_num,HZ6,aiQ,Se⟩
        case measure=>simp[intOf];omega
     ·obtain rfl:j=m:=by omega
      have abf:=Cv.out.below Sg.out;have b0:=abf.cells.1;have b1:=abf.cells.2.1;have agc:=abf.names;have hRq:=(hRu.out.base (B':=W.heap.size) (by have:=Md.out;have:=Ak.out;have:=HWW.out;omega));rw[<-HM.out,mj]at hRq;have adJ:=hRq.row;rw[lM,HM.out]at adJ;obtain⟨aR,cR,rfl⟩:=BB adJ;have adK:=hid abf;have ack:=hid agc;have HRq:=hid hRq;have Wv:W.heap.size<wq.heap.size:=by have:=HWW.out;omega
      clear abf agc hRq hRu adJ
      go_wp2_with (first
       | (at_builtin;go_loud (refine jq _ rfl _ _ 133 rfl W.heap.size 219 iN (.agg #[.string ByteArray.empty,.slice none 0 0]) 2 40 Tryz.underlying133 Hx Nr Ns Nt rfl (by decide) _ _ _ rfl (ack.out.alloc _) (af wq.heap.size 0) 1 1 [.string (nth l 1),.slice aR j cR] rfl rfl (dh (dw wq _)) ?e2 (yF 1) ?e3 ?e4 ?e5 _ rfl ?_)))
      case e2=>intro u hu;simp at hu;rcases hu with rfl |rfl <;> rfl
      case e3=>unfold maxLen;omega
      case e4=>omega
      case e5=>simp;omega
      intro g7 acm w7 agd age aiR aiS;have hkeep:A1 wq w7 vN.ownBlock.toList:=((A1.refl _ _).alloc _).grown age (λq hq=>.inl Fp);have hz7:=(hkeep.block W.heap.size Wv (λhm=>A5 ack.out adK.out.blk (by decide) (BE hm))).trans adK.out.blk;have v7:w7.cell? (af W.heap.size 1)=some vN:=A0 hz7;have f7:w7.frozen? (af W.heap.size 1)=false:=A3 hz7;have hend:=adK.out.ah3 (nm:=TW f (at_,2,l)) hkeep HRq.out agd;have HE:Hid (Ag (w7.setCell (af W.heap.size 1) (ae g7 ((Ao f (P.take k)).length+1) acm)) W.heap.size W.heap.size (Ap (P.take (k+1))).length (FO (Ap (P.take (k+1)))) (Ao f (P.take (k+1))) vT (ae g7 ((Ao f (P.take k)).length+1) acm) (Fg++ [.slice aR j cR])):=hid (by
       rw[Kv.out,Kw.out,iq];exact hend)
      have Rz:Hid (EJ (w7.setCell (af W.heap.size 1) (ae g7 ((Ao f (P.take k)).length+1) acm)) (W.heap.size+1) P.length f):=hid (((Mb.out.below Sg.out).off ack.out hkeep).set (by omega));have HBb:Hid (Below W.heap.size W (w7.setCell (af W.heap.size 1) (ae g7 ((Ao f (P.take k)).length+1) acm))):=hid (((hbr.out.trans (Sg.out.mono hsz)).trans (hkeep.below (qb Wv) (KS ack.out))).setCell Lc _);clear hend hkeep agd age aiR aiS hz7 Cv Mb;go_wp2
      go_roundw
      case rel=>exact⟨k+1,vT,_,_,by omega,by go_num,HE,Rz,HBb⟩
      case measure=>simp[intOf];omega
  ·obtain rfl:k=n:=by omega
   have hB:=Cv.out;rw[HN.out,mj]at hB;obtain⟨aT,cT,rfl⟩:=BB hB.toks;obtain⟨aN,cN,rfl⟩:=BB hB.names;have Wo:=HV.out;have adL:=Mb.out;have adM:=hnc;rw[HN.out]at Wo adM;rw[HF.out]at adL;have CS:=nY P G Eg.out zZ.out W wr HG.out B W.heap.size W.heap.size (W.heap.size+1) g cap pv Wo adM Bf hbr.out (yF _) (Ao f P) _ _ Fg hB adL;rw[<-HN.out]at CS;have Bw:=hid CS;have HGE:=hid (KS hB.toks);have alj:W.heap.size<wr.heap.size:=ak hB.blk;clear hB Cv Wo adL adM CS Mb
   go_wp2_with (go_at_call 203;refine Bw.out.mono ?_;rintro e w5 ⟨rfl,adN,Pu,zj⟩;obtain⟨b0,b1,z0,z1⟩:=adN.cells;have HBf:=hid adN;have Si:=hid Pu;have Fh:=hid zj;clear adN Pu zj Bw)
   have HA:=HBf.out.again;have hN:=Eg.out.ok;have hT:(Ap P).length=(Ch P).nT:=by rw[KQ];unfold Ap;simp
   have hM:(Ao f P).length=(Ch P).nN:=by rw[HF.out];rfl
   have Sk:Ew ((w5.setCell (af W.heap.size 0) (.slice aT (Ap P).length cT)).setCell (af W.heap.size 1) (.slice aN (Ao f P).length cN)) wr.heap.size (Ap P).length (Ch P).swp:=λt ht=>
    (iy _ _ _ _ (by show wr.heap.size+t≠W.heap.size;omega)).trans ((iy _ _ _ _ (by show wr.heap.size+t≠W.heap.size;omega)).trans (Si.out t ht))
   have hd:=fun(W'':World) hW=>HA.done (W:=W'') hW hN (by rw[N7];exact Eg.out.nN) (by rw[KQ];exact Eg.out.nT) (dB Eg.out).Lr Sk hsz hT hM (by rw[HF.out];rfl) vA (tX f P) rfl rfl
   refine⟨rfl,_,FW (p:=2) (ty:=135) rfl _ _ W.heap.size _ _ _ _ rfl HA.blk Tryz.underlying135 rfl yg,?_⟩;obtain⟨_,_,gN,rfl,_⟩:=hd _ (λ_ _ _=>rfl);refine⟨aT,cT,gN,cN,by rw[hT,hM],λW'' hW=>?_,((hbr.out.trans (Fh.out.below hsz HGE.out)).setCell Lc _).setCell Lc _⟩;obtain⟨_,_,gN',eN,hP⟩:=hd W'' hW;obtain rfl:gN=gN':=by injection eN with eN;injection eN
   rw[oU]at hP;rw[<-HF.out];exact hP
end
end Go.Proofs.YtjjggdcnpndgjaaGreatDoor
