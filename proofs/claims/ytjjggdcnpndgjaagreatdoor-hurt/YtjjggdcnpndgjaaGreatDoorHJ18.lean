import Derived.Test.YtjjggdcnpndgjaaGreatDoorHJ17
set_option linter.unusedSimpArgs false
set_option maxHeartbeats 8000000
set_option maxRecDepth 100000
namespace Go.Proofs.YtjjggdcnpndgjaaGreatDoor
open Go.RowKit Go.Shelf Go.WideMaps Go.Maps
variable {B b gb n:Nat}{w:World}
theorem Tryz.infoI3:(Tryz.prog.info? 3).map (λi=>(i.zero,i.size,i.bytes))=some (some (ab 0),1,8):=by kernel_rfl
theorem SJ {p:Value}{l:List ByteArray} (h:EM w p l) (h3:3<=l.length):∃gw q qc cs,p=.slice (some (af gw 1)) (q+2) qc/\q+2<=qc/\w.heap[gw]?=some (.cells cs 9 (0,0))/\w.cell? (af gw 1)=some (.string (nth l 1))/\w.cell? (af gw 2)=some (.string (nth l 2)):=by
 obtain⟨g,n,cap,ad,cs,rfl,h2,h3',h4,h5,h6,h7⟩:=h;have had:=h7 (by omega);subst had;obtain⟨m,rfl⟩:∃m,n=m+2:=⟨n - 2,by omega⟩;exact⟨g,m,cap,cs,rfl,h3',h5,by rw[A0 h5];exact h6 1 (by omega),by rw[A0 h5];exact h6 2 (by omega)⟩
theorem EJ.off {w1:World}{m e sz:Nat}{f:ByteArray->Int}{v:Value}{xs:List Value} (h:EJ w b m f) (hv:w.ownsRow B e sz v n xs) (hk:A1 w w1 v.ownBlock.toList):EJ w1 b m f:=
 h.block (hk.block b h.lt (λhm=>by
  obtain⟨D,⟨es,clock,h4,_⟩,_⟩:=h;obtain⟨c,hc⟩:=BI hv (BE hm);rw[hc]at h4;cases h4))
theorem EJ.set {m j:Nat}{f:ByteArray->Int}{u:Value} (h:EJ w b m f) (hne:gb≠b):EJ (w.setCell (af gb j) u) b m f:=h.block (iy _ _ _ _ (by exact hne.symm))
theorem aS (T:List Tk):D5 T (λ_=>.slice none 0 0)=FO T:=by
 unfold D5 FO;have h:T=T.zipIdx.map Prod.fst:=by simp
 conv=>rhs;rw[h,rj]
theorem cQ (T:List Tk) (f f':Nat->Value) (t:Nat) (ht:t<T.length) (ho:∀i,i≠t->f' i=f i):(D5 T f).set (t*4+3) (f' t)=D5 T f':=by
 apply nu;intro i
 by_cases hi:i<T.length*4
 ·obtain⟨x,hx⟩:∃x,T[i / 4]?=some x:=⟨_,gE (by omega)⟩
  have e:i=i / 4*4+i % 4:=by omega
  have h1:=I7 (f:=f) hx (j:=i % 4) (by omega);have h2:=I7 (f:=f') hx (j:=i % 4) (by omega);rw[<-e]at h1 h2;rw[vg,h2]
  by_cases h3:t*4+3=i
  ·have e4:i / 4=t:=by omega
   have e5:i % 4=3:=by omega
   rw[aq h3,aq (by rw[JC];omega),e4,e5];rfl
  ·rw[au h3,h1]
   by_cases h4:i / 4=t
   ·have h5:i % 4<3:=by omega
    obtain⟨m,hm⟩:=qE (i % 4);rw[hm]at h5 ⊢
    match m,h5 with
    |0,_=>rfl
    |1,_=>rfl
    |2,_=>rfl
   ·rw[ho _ h4]
 ·rw[dy (by rw[List.length_set,JC];omega),dy (by rw[JC];omega)]
theorem Ag.ah6 {TC:List Value}{M:List Nm}{gt cT:Nat}{vN:Value}{pv:List Value} (h:Ag w B gb n TC M (ae gt n cT) vN pv) (j:Nat) (u:Value):
  Ag (w.setCell (af gt j) u) B gb n (TC.set j u) M (ae gt n cT) vN pv:=by
 obtain⟨c,hc⟩:=BI h.toks (g:=gt) rfl;have hne:gb≠gt:=λe=>A5 h.toks h.blk (by decide) aab
 refine⟨(iy _ _ _ _ (by exact hne)).trans h.blk,h.hb,(h.toks.stored j u).1,C2 h.names hc (by decide),h.Cz,λi nm p hm hp=>?_⟩;obtain⟨zm,hr⟩:=h.Ws i nm p hm hp;exact⟨zm,hr.setOther hc (by decide) (by decide)⟩
theorem Ew.put {S S':Nat->Nat->Nat} (h:Ew w b n S) {t u:Nat} (ht:t<n) (_hu:u<n) (ho:∀i j,¬(i=t/\j=u)->S' i j=S i j):Ew (w.setCell (af (b+t) u) (ab (S' t u:Int))) b n S':=by
 intro i hi
 by_cases e:i=t
 ·subst e
  rw[A6 (h i hi)]
  congr 2
  apply Array.ext';rw[Array.toList_setIfInBounds];apply nu;intro j;simp only[vg,gM,lM,List.length_range]
  by_cases hj:j<n
  ·rw[ng hj]
   by_cases e2:u=j
   ·subst e2
    rw[aq rfl,aq hj];rfl
   ·rw[au e2]
    show some (ab (S i j:Int))=some (ab (S' i j:Int));rw[ho i j (λh=>e2 h.2.symm)]
  ·rw[dy (by simpa using hj)]
   by_cases e2:u=j
   ·rw[aq e2,au (by omega)];rfl
   ·rw[au e2];rfl
 ·rw[iy _ _ _ _ (by show b+i≠b+t;omega),h i hi]
  congr 3
  apply lz;intro j _;rw[ho i j (λh=>e h.1)]
theorem Ew.below {w1:World}{S:Nat->Nat->Nat} (h:Ew w b n S) (hb:Below B w w1) (hB:b+n<=B):Ew w1 b n S:=λt ht=>(hb.block (b+t) (by omega)).trans (h t ht)
theorem SI {gw q qc:Nat}{l:List ByteArray} (h:EM w (.slice (some (af gw 1)) (q+2) qc) l) (h4:4<=l.length):1<=q/\w.cell? (af gw 3)=some (.string (nth l 3)):=by
 obtain⟨g,n,cap,ad,cs,e,h2,h3',h4',h5,h6,h7⟩:=h;injection e with e1 e2 e3
 have had:=h7 (by omega);rw[had]at e1;injection e1 with e1
 injection e1 with e1
 subst e1;exact⟨by omega,by rw[A0 h5];exact h6 3 (by omega)⟩
theorem Ag.setInt {TC:List Value}{M:List Nm}{vT vN:Value}{pv:List Value} (h:Ag w B gb n TC M vT vN pv) {j:Nat}{cs:Array Value}{fr:Nat × Nat} (hb:w.heap[b]?=some (.cells cs 3 fr)) (u:Value):
  Ag (w.setCell (af b j) u) B gb n TC M vT vN pv:=by
 have hne:gb≠b:=λe=>by
  have h1:=h.blk;rw[e,hb]at h1;injection h1 with h1
  injection h1 with _ h1
  exact absurd h1 (by decide)
 refine⟨(iy _ _ _ _ (by exact hne)).trans h.blk,h.hb,C2 h.toks hb (by decide),C2 h.names hb (by decide),h.Cz,λi nm p hm hp=>?_⟩;obtain⟨zm,hr⟩:=h.Ws i nm p hm hp;exact⟨zm,hr.setOther hb (by decide) (by decide)⟩
theorem A1.ah7 {a b c:World}{S:List Nat} (h:A1 a b S) (k:Below a.heap.size b c):A1 a c S:=
 ⟨k.os.trans h.os,k.tape.trans h.tape,k.output.trans h.output,y5 h.size k.size,λi hi hn=>(k.block i hi).trans (h.block i hi hn)⟩
theorem UU (b:Bool) (c:Int) (w:World):(Instr.field 235 (.agg #[.bool b,ab c]) 1).run Tryz.prog w=.ok (ab c) w:=by kernel_rfl
theorem ZY (n:Nat):madeCells #[ab 0] (n*1)=((List.range n).map λ_=>ab (((λ_ _=>0:Nat->Nat->Nat) 0 0:Nat):Int)).toArray:=by
 have h:=NA 1 (by omega) (λ_:Unit=>[ab 0]) (λ_=>rfl) () n;apply Array.ext';have h2:(madeCells #[ab 0] (n*1)).toList=(List.replicate n ()).flatMap λ_=>[ab 0]:=h
 rw[h2];apply nu;intro i;have h3:∀m:Nat,((List.replicate m ()).flatMap λ_=>[ab 0])=List.replicate m (ab 0):=by
  intro m
  induction m with
  |zero=>rfl
  |succ m ih=>
   rw[yz,gy,yz,ih];rfl
 rw[h3,ny];simp only[gM]
 by_cases hi:i<n
 ·rw[aq hi,ng hi];rfl
 ·rw[au hi,dy (by simpa using hi)];rfl
theorem OG {T:List Tk}{f g:Nat->Value} (h:∀i,i<T.length->f i=g i):D5 T f=D5 T g:=by
 apply nu;intro i
 by_cases hi:i<T.length*4
 ·obtain⟨x,hx⟩:∃x,T[i / 4]?=some x:=⟨_,gE (by omega)⟩
  have e:i=i / 4*4+i % 4:=by omega
  have h1:=I7 (f:=f) hx (j:=i % 4) (by omega);have h2:=I7 (f:=g) hx (j:=i % 4) (by omega);rw[<-e]at h1 h2;rw[h1,h2,h _ (by omega)]
 ·rw[dy (by rw[JC];omega),dy (by rw[JC];omega)]
theorem adi {P:Prop} (h:P:=by
  go_roundw
  case rel=>exact⟨k+1,by omega,by go_num,HS',adj,HB'⟩
  case measure=>simp[intOf];omega):P:=h
theorem nY (P:List Ln) (G:Gr) (hg:Ct P G) (hok:LJ P) (Wb W:World) (hG:DT Wb) (B0 B gb bn g cap:Nat) (pv:List Value) (hV:Ac Wb B0 (ae g P.length cap) P pv) (hcap:P.length<=cap) (Bf:g<Wb.heap.size) (hbW:Below Wb.heap.size Wb W) (hB:Wb.heap.size<=B)
  (M:List Nm) (vT vN:Value) (Fg:List Value) (Cv:Ag W B gb (Ap P).length (FO (Ap P)) M vT vN Fg) (Mb:EJ W bn P.length (D4 P)):
  Calls Tryz.prog 203 #[ac gb,ae g P.length cap,.map (some bn)] W λe w'=>e=.returned (.tuple #[])/\
   Ag w' B gb (Ap P).length (D5 (Ap P) (Fy W.heap.size (Ap P).length)) M vT vN Fg/\Ew w' W.heap.size (Ap P).length (EV (D4 P) P)/\A1 W w' vT.ownBlock.toList:=by
 obtain⟨i0,hi,hz0,hz1,hz2⟩:=jc Tryz.infoI3;obtain⟨T,hT⟩:=qE (Ap P);have Mc:T.length=(B2 P).length:=by rw[<-hT];unfold Ap;simp
 rw[hT]at Cv ⊢;have Cj:T.length<=20:=by rw[Mc];exact hg.nT
 obtain⟨nT,zo⟩:=qE (T.length);have HTL:Hid (T.length=nT):=hid zo;rw[zo]at Cv Mc Cj ⊢;obtain⟨aT,cT,rfl⟩:∃a c,vT=.slice a nT c:=by
  rcases Cv.toks.2 with⟨h1,h2⟩ | ⟨g,cap,cur,h1,_,_,_⟩
  ·exact⟨none,0,by rw[h1,h2]⟩
  ·exact⟨_,_,h1⟩
 have hsh:0<nT->∃gt,aT=some (af gt 0)/\gt<W.heap.size/\nT<=cT:=λh0=>by
  obtain⟨g,cap,e,_,h2,h3⟩:=AX Cv.toks h0;injection e with e1 _ e3
  exact⟨g,e1,h2,by omega⟩
 obtain⟨n,hN⟩:=qF (P.length);have hn:=hok.len;rw[<-hN]at hn hcap hV Mb ⊢;have HN:Hid (n=P.length):=hid hN;have Ry:=hid hsh;have HV:=hid hV;have zZ:=hid hok;have Eg:=hid hg;have HG:=hid hG;have Rz:=hid Mb;have HTK:=hid Mc;obtain⟨f,hf⟩:=qF (D4 P);have HF:Hid (f=D4 P):=hid hf;have aaR:Hid (Ag W B gb nT (D5 T (λi=>if i<0 then Fy W.heap.size nT i else .slice none 0 0)) M (.slice aT nT cT) vN Fg):=hid (by
  have e:D5 T (λi=>if i<0 then Fy W.heap.size nT i else .slice none 0 0)=FO T:=by
   rw[<-aS];exact OG λi _=>au (by omega)
  rw[e];exact Cv)
 have akQ:gb<W.heap.size:=ak Cv.blk;have Hp:=hid hbW;have HTs:=hid Cv.toks;have HGE:Hid (∀k,k∈(Value.slice aT nT cT).ownBlock.toList->B<=k):=hid (KS Cv.toks);have b00:=Cv.cells.1;have aam:=hbW.size;clear hN hsh hV hok hg hG Mb hT Mc Cv hbW hf zo
 go_enter Tryz.func203,Tryz.ntmps203
 go_wp2
 go_loopw [17] (λi wr=>∃t:Nat,t<=nT/\i=ab t/\Hid (Ag wr B gb nT (D5 T (λi=>if i<t then Fy W.heap.size nT i else .slice none 0 0)) M (.slice aT nT cT) vN Fg)/\
  Hid (∀i,i<t->wr.heap[W.heap.size+i]?=some (.cells ((List.range nT).map λ_=>ab (((λ_ _=>0:Nat->Nat->Nat) 0 0:Nat):Int)).toArray 3 (0,0)))/\wr.heap.size=W.heap.size+t/\Hid (A1 W wr (Value.slice aT nT cT).ownBlock.toList)) (λi _=>nT - (intOf i).toNat)
 case atStart=>exact⟨0,bu _,rfl,aaR,hid (λi hi=>by omega),rfl,hid (A1.refl _ _)⟩
 case round=>
  clear aaR b00;obtain⟨t,ht,rfl,Cv,hZ,Tt,hK⟩:=hrel;obtain⟨wo,rfl⟩:=qF (wr)
  by_cases hlt:t<nT
  ·obtain⟨gt,rfl,hgt,hcT⟩:=Ry.out (by omega)
   have g0:=Cv.out.cells.1;have akR:gb<wo.heap.size:=by omega
   have akS:gt<wo.heap.size:=by omega
   go_wp2;refine AE (λw'=>w'.cell? (af gb 0)=some (ae gt nT cT)) yg yg g0 (λhH=>?_);simp only[AB,BM,AO];refine tB 0 hH ?_;refine tB 1 hH ?_;refine tB 2 hH ?_;refine tB 3 hH ?_;refine tB 4 hH ?_;refine tB 5 hH ?_;refine tB 6 hH ?_;refine tB 7 hH ?_;refine tB 8 hH ?_;refine tB 9 hH ?_;refine tL ?_;refine tS 10 λK hK=>?_
   refine tM ?_;rw[aq (by rfl)];refine G7 _ (.tmp 29) (.tmp 29) 45 rfl 3 i0 (ab 0) Tryz.underlying45 hi hz0 nT rfl rfl (by rw[hz2];omega) (by omega) ?_;rw[hz1];refine hK.out _ _ ?_ λhH=>?_
   ·exact A2 _ hH
   clear hK K;refine tL ?_;refine tB 11 hH ?_;refine tB 12 hH ?_;refine tB 13 hH ?_;refine tL ?_;refine bk yg ?_ _;clear hH;obtain⟨X,hX⟩:=qE (wo.drew.alloc (Obj.cells (madeCells (ab 0).cells (nT*1)) 3));have hXB:Below wo.heap.size wo X:=by rw[<-hX];exact zl (Af (ah _ _))
   have hXs:X.heap.size=wo.heap.size+1:=by rw[<-hX,bg];rfl
   have hXz:X.heap[wo.heap.size]?=some (.cells ((List.range nT).map λ_=>ab (((λ_ _=>0:Nat->Nat->Nat) 0 0:Nat):Int)).toArray 3 (0,0)):=by
    have h1:=ay wo.drew (Obj.cells (madeCells (ab 0).cells (nT*1)) 3);rw[hX,show madeCells (ab 0).cells (nT*1)=_ from ZY nT]at h1;exact h1
   have hBX:=Cv.out.below hXB;have hpl:=hBX.toks.1;have x0:=hBX.toks.cellAt (t*4+3) (by omega);rw[gE (by omega)]at x0;obtain⟨y0,hy0⟩:=qE ((D5 T (λi=>if i<t then Fy W.heap.size nT i else .slice none 0 0))[t*4+3]'(by omega));rw[hy0]at x0;have x1:=hBX.toks.frozenAt (t*4+3);have hdw:wo.drew.heap.size=W.heap.size+t:=Tt;rw[hX,hdw];have HB':Hid (Ag (X.setCell (af gt (t*4+3)) (.slice (some (af (W.heap.size+t) 0)) nT nT)) B gb nT (D5 T (λi=>if i<t+1 then Fy W.heap.size nT i else .slice none 0 0)) M (ae gt nT cT) vN Fg):=hid (by
    have h1:=hBX.ah6 (t*4+3) (.slice (some (af (W.heap.size+t) 0)) nT nT);have e:=cQ T (λi=>if i<t then Fy W.heap.size nT i else .slice none 0 0) (λi=>if i<t+1 then Fy W.heap.size nT i else .slice none 0 0) t (by rw[HTL.out];exact hlt) (λi hi=>by
     by_cases h2:i<t
     ·simp only[aq h2,aq (show i<t+1 by omega)]
     ·simp only[au h2,au (show ¬i<t+1 by omega)])
    simp only[aq (Nat.lt_succ_self t)]at e;rw[show Fy W.heap.size nT t=.slice (some (af (W.heap.size+t) 0)) nT nT from rfl]at e;rw[e]at h1;exact h1)
   have HZ':Hid (∀i,i<t+1->(X.setCell (af gt (t*4+3)) (.slice (some (af (W.heap.size+t) 0)) nT nT)).heap[W.heap.size+i]?=some (.cells ((List.range nT).map λ_=>ab (((λ_ _=>0:Nat->Nat->Nat) 0 0:Nat):Int)).toArray 3 (0,0))):=hid (λi hi=>by
    refine(iy _ _ _ _ (by show W.heap.size+i≠gt;omega)).trans ?_
    by_cases h2:i<t
    ·exact(hXB.block _ (by omega)).trans (hZ.out i h2)
    ·rw[show W.heap.size+i=wo.heap.size by omega];exact hXz)
   have HK':Hid (A1 W (X.setCell (af gt (t*4+3)) (.slice (some (af (W.heap.size+t) 0)) nT nT)) (ae gt nT cT).ownBlock.toList):=hid ((hK.out.trans (A1.yX hXB _)).setCell (by simp[Value.ownBlock]) _);have hsz':(X.setCell (af gt (t*4+3)) (.slice (some (af (W.heap.size+t) 0)) nT nT)).heap.size=W.heap.size+(t+1):=by
    show(X.heap.modify _ _).size=_;rw[Array.size_modify];omega
   clear hX hXB hXs hXz hBX hpl hy0 hdw hZ hK Cv;show wpList _ _ _ _ _ _;go_wp2
   go_roundw
   case rel=>exact⟨t+1,by omega,by go_num,HB',HZ',hsz',HK'⟩
   case measure=>simp[intOf];omega
  ·have e:t=nT:=by omega
   rw[e]at Cv hZ Tt;clear e ht;have Lt:Hid (Ew wo W.heap.size nT (EV f (P.take 0))):=hid (λi hi=>hZ.out i hi);have yR:Hid (Ag wo B gb nT (D5 T (Fy W.heap.size nT)) M (.slice aT nT cT) vN Fg):=hid (by
    rw[OG (g:=λi=>if i<nT then Fy W.heap.size nT i else .slice none 0 0) (λi hi=>by rw[aq (by rw[HTL.out]at hi;exact hi)])];exact Cv.out)
   have Rt:Hid (EJ wo bn n f):=hid (by rw[HF.out];exact Rz.out.off HTs.out hK.out);have Wu:Hid (Below Wb.heap.size Wb wo):=hid (Hp.out.trans (hK.out.below aam (λq hq=>y5 hB (HGE.out q hq))));have ah8:bn<W.heap.size:=Rz.out.lt;clear hZ Cv Rz;go_wp2
   go_loopw [36] (λi wq=>∃k:Nat,k<=n/\i=ab k/\Hid (Ew wq W.heap.size nT (EV f (P.take k)))/\Hid (Ag wq B gb nT (D5 T (Fy W.heap.size nT)) M (.slice aT nT cT) vN Fg)/\Hid (Below W.heap.size wo wq)) (λi _=>n - (intOf i).toNat)
   case atStart=>exact⟨0,bu _,rfl,Lt,yR,hid (ah _ _)⟩
   case round=>
    clear Lt yR;obtain⟨k,hk,rfl,hS,hBq,hb⟩:=hrel;have afr:=hb.out.size;have Wv:Below Wb.heap.size Wb wr:=Wu.out.trans (hb.out.mono (by omega))
    by_cases Bv:k<n
    ·obtain⟨x,hx⟩:∃x,P[k]?=some x:=⟨_,gE Iz⟩
     have hpos:∀y∈P,y.2.1=1->1<=K0 y:=λy hy h1=>by
      have:=K7 (Eg.out.swn y hy h1).1;unfold K0;omega
     have hnext:=λt u=>oG f hx hpos t u
     have Cq:=zZ.out.ok x (mG hx);have hx2:=zZ.out.sh x (mG hx);have Ic:=zZ.out.usz x (mG hx);obtain⟨p,hp,Cl,k0,k1,k2⟩:=(HV.out.below Wv).at hx;have Lp:3<=x.2.2.length:=Cq.1;obtain⟨gw,q,qc,csw,rfl,hqc,y6,c1,c2⟩:=SJ Cl Lp;have Hl:=ak y6;have Ho:=hid Cl;have HX:=hid hx;have HNX:=hid hnext;obtain⟨at_,sh,l⟩:=x;simp only at k0 k1 k2 hx2 c1 c2 Lp Ic;have hgr:g<wr.heap.size:=lL Bf Wv.size;clear hp Cq Cl hx hpos hnext
     by_cases hs1:sh=1
     ·subst hs1
      have hmem:=mG HX.out;have hl4:l.length=4:=(Eg.out.swn _ hmem rfl).2;have Ls:DH (nth l 3)=true:=(Eg.out.swn _ hmem rfl).1;obtain⟨t1,Et,e1⟩:=ZZ Eg.out (Eg.out.swk _ hmem rfl).1 (Eg.out.swm _ hmem rfl).1;obtain⟨t2,Gj,e2⟩:=ZZ Eg.out (Eg.out.swk _ hmem rfl).2 (Eg.out.swm _ hmem rfl).2;simp only at e1 e2;rw[<-HF.out]at e1 e2;rw[<-HTK.out]at Et Gj;obtain⟨gt,rfl,hgt,hcT⟩:=Ry.out (by omega);have hu1:(nth l 1).size<=4000:=Ic _ (by show nth l 1∈ [nth l 1,nth l 2];simp);have hu2:(nth l 2).size<=4000:=Ic _ (by show nth l 2∈ [nth l 1,nth l 2];simp);have hN2:EJ wr bn n f:=Rt.out.block (hb.out.block bn ah8);have hN3:EJ (wr.alloc (.cells #[ab at_,ab 1,.slice (some (af gw 1)) (q+2) qc] 325)) bn n f:=hN2.below (zl (ah _ _));have HN3:=hid hN3;obtain⟨Ev,c3⟩:=SI Ho.out (by show 4<=l.length;omega);have hval:=K7 Ls;have hs3:=(PS Ls).1;have Ks:=hid Ls;obtain⟨nv,Ii⟩:=qE (C4 (nth l 3).data.toList)
      rw[Ii]at hval;have CC:Hid (∀w',Below wr.heap.size wr w'->Calls Tryz.prog 200 #[.string (nth l 3)] w' λe w''=>e=.returned (.tuple #[ab nv,.bool true])/\Below w'.heap.size w' w''):=hid λw' hb'=>by
       refine(N8 (nth l 3) w' (HG.out.below (Wv.trans (hb'.mono Wv.size)) HG.out.size) (by omega)).mono ?_;rintro e w'' ⟨⟨m,rfl,hm⟩,ah9⟩;rw[hm Ks.out,Ks.out,Ii];exact⟨rfl,ah9⟩
      have Rk:=hid Ii;obtain⟨Wl,hWl⟩:=qE (wr.alloc (.cells #[ab at_,ab 1,.slice (some (af gw 1)) (q+2) qc] 325));have Db:Hid (Below wr.heap.size wr Wl):=hid (by rw[<-hWl];exact zl (ah _ _));have HSl:Hid (Ew Wl W.heap.size nT (EV f (P.take k))):=hid (hS.out.below Db.out (by omega));have Rj:Hid (Ag Wl B gb nT (D5 T (Fy W.heap.size nT)) M (ae gt nT cT) vN Fg):=hid (hBq.out.below Db.out);have d2:Wl.cell? (af wr.heap.size 2)=some (.slice (some (af gw 1)) (q+2) qc):=by rw[<-hWl];exact BF wr _ _ 2
      have e1':=(Db.out.cell (p:=(af gw 1)) Rb).trans c1;have e2':=(Db.out.cell (p:=(af gw 2)) Rb).trans c2;have e3':=(Db.out.cell (p:=(af gw 3)) Rb).trans c3;have g0:=Rj.out.cells.1;have hpl:=Rj.out.toks.1;have s3:=Rj.out.toks.cellAt (t1*4+3) (by omega);obtain⟨xt,hxt⟩:∃x,T[t1]?=some x:=⟨_,gE (by rw[HTL.out];exact Et)⟩;rw[I7 hxt (j:=3) (by omega)]at s3;have s3':Wl.cell? (af gt (t1*4+3))=some (.slice (some (af (W.heap.size+t1) 0)) nT nT):=s3;clear s3;have s4:=HSl.out.cell Et Gj;have s5:Wl.frozen? (af (W.heap.size+t1) t2)=false:=A3 (HSl.out t1 Et);have hNd:EJ Wl.drew bn n f:=by rw[<-hWl];exact HN3.out.below (Af (ah _ _))
      have L1:=hNd.look (nth l 1) zX;have L2:=hNd.look (nth l 2) zX;rw[e1,show 2*(t1:Int) / 2=t1 by omega]at L1;rw[e2,show 2*(t2:Int) / 2=t2 by omega]at L2;obtain⟨b1,hb1⟩:=qE (decide (2*(t1:Int) % 2=1));obtain⟨b2,hb2⟩:=qE (decide (2*(t2:Int) % 2=1));rw[hb1]at L1;rw[hb2]at L2;have L1':=L1;have L2':=L2;clear L1 L2 hNd;obtain⟨sv,hsv⟩:=qE (EV f (P.take k) t1 t2);rw[hsv]at s4;have HSV:=hid hsv;have HE:Hid (f (nth l 1)=2*(t1:Int)/\f (nth l 2)=2*(t2:Int)):=hid ⟨e1,e2⟩;have akT:(t1:Int)<nT:=by omega
      have akU:(t2:Int)<nT:=by omega
      have Au:=Db.out.size;have akV:=λw=>UU b1 (t1:Int) w
      have akW:=λw=>UU b2 (t2:Int) w
      have Ro:(0:Int)< (q:Int)+2:=by omega
      have akX:(1:Int)< (q:Int)+2:=by omega
      have Kr:(2:Int)< (q:Int)+2:=by omega
      have HWl:=hid hWl;clear hWl;clear hN2 hN3 Ls Ii hb1 hb2 hxt hsv e1 e2 hmem Ic hS hBq c1 c2 c3 hpl;go_wp2;rw[HWl.out];clear HWl;refine dn (S:=λw'=>w'.cell? (af wr.heap.size 2)=some (.slice (some (af gw 1)) (q+2) qc)/\w'.cell? (af gw 1)=some (.string (nth l 1))/\w'.cell? (af gw 2)=some (.string (nth l 2))/\(Instr.lookup 322 (.map (some bn)) (.string (nth l 1)) false).run Tryz.prog w'=.ok (.agg #[.bool b1,ab t1]) w'/\(Instr.lookup 322 (.map (some bn)) (.string (nth l 2)) false).run Tryz.prog w'=.ok (.agg #[.bool b2,ab t2]) w') yg ⟨d2,e1',e2',L1',L2'⟩ (λhH=>?_);refine tB 0 hH ?_;refine tB 1 hH ?_;refine tB 2 hH ?_;refine tB 3 hH ?_;refine tB 4 hH ?_;refine tB 5 hH ?_;refine tB 6 hH ?_;refine tB 7 hH ?_;refine tB 8 hH ?_;refine tB 9 hH ?_;refine tB 10 hH ?_;refine tB 11 hH ?_;refine tB 12 hH ?_;refine tB 13 hH ?_;refine tB 14 hH ?_;refine tB 15 hH ?_;refine tL ?_
      refine bk yg ?_ _;clear hH L1' L2'
      by_cases h0:sv=0
      ·subst h0
       have s4':Wl.cell? (af (W.heap.size+t1) t2)=some (ab 0):=s4;clear s4
       go_wp2_with (go_at_call 200;refine(CC.out _ (Af Db.out)).mono ?_;rintro e w5 ⟨rfl,yT⟩;have zI:Hid (Below Wl.heap.size Wl w5):=hid (by have h:=yT;exact(Af (ah _ _)).trans h);have s5':=(zI.out.cell (p:=(af (W.heap.size+t1) t2)) (by exact bq _ _ s4')).trans s4';have fr5:w5.frozen? (af (W.heap.size+t1) t2)=false:=A3 ((HSl.out.below zI.out (by omega)) t1 Et);clear yT)
       have Pu:=HSl.out.below zI.out (by omega);have hnn:((nv.toNat:Nat):Int)=nv:=wh (by omega);have HS':Hid (Ew (w5.setCell (af (W.heap.size+t1) t2) (ab nv)) W.heap.size nT (EV f (P.take (k+1)))):=hid (by
        have hv:EV f (P.take (k+1)) t1 t2=nv.toNat:=by
         rw[HNX.out t1 t2,aq ⟨HSV.out,rfl,HE.out.1,HE.out.2⟩];show(C4 (nth l 3).data.toList).toNat=_;rw[Rk.out]
        have h1:=Pu.put (S':=EV f (P.take (k+1))) Et Gj (λi j hij=>by
         rw[HNX.out i j,au];rintro⟨_,_,h3,h4⟩;have e1:=HE.out.1;have e2:=HE.out.2;simp only at h3 h4;exact hij ⟨by omega,by omega⟩)
        rw[hv,hnn]at h1;exact h1)
       have adj:Hid (Ag (w5.setCell (af (W.heap.size+t1) t2) (ab nv)) B gb nT (D5 T (Fy W.heap.size nT)) M (ae gt nT cT) vN Fg):=hid ((Rj.out.below zI.out).setInt (Pu t1 Et) _);have HB':Hid (Below W.heap.size wo (w5.setCell (af (W.heap.size+t1) t2) (ab nv))):=hid ((((hb.out.trans (Db.out.mono (by omega))).trans (zI.out.mono (by omega)))).setCell (by show W.heap.size<=W.heap.size+t1;omega) _);clear Pu hnn;exact adi
      ·have hz0:((sv:Int)==0)=false:=by simpa using (show ¬(sv:Int)=0 by omega)
       have HS':Hid (Ew Wl.drew W.heap.size nT (EV f (P.take (k+1)))):=hid (by
        have e:EV f (P.take (k+1))=EV f (P.take k):=by
         funext i j
         rw[HNX.out i j,au];rintro⟨h1,_,h3,h4⟩;have e1:=HE.out.1;have e2:=HE.out.2;simp only at h3 h4;obtain rfl:i=t1:=by omega
         obtain rfl:j=t2:=by omega
         exact h0 (by rw[<-HSV.out];exact h1)
        rw[e];exact HSl.out.below (Af (ah Wl.heap.size Wl)) (by omega))
       have adj:Hid (Ag Wl.drew B gb nT (D5 T (Fy W.heap.size nT)) M (ae gt nT cT) vN Fg):=hid (Rj.out.below (Af (ah _ _)));have HB':Hid (Below W.heap.size wo Wl.drew):=hid (hb.out.trans ((Af Db.out).mono (by omega)));go_wp2;exact adi
     ·have hns:((sh:Int)==1)=false:=by simpa using (show ¬(sh:Int)=1 by omega)
      have HS':Hid (Ew (wr.alloc (.cells #[ab at_,ab sh,.slice (some (af gw 1)) (q+2) qc] 325)) W.heap.size nT (EV f (P.take (k+1)))):=hid (by
       have e:EV f (P.take (k+1))=EV f (P.take k):=by
        funext t u
        rw[HNX.out t u,au (λh=>hs1 h.2.1)]
       rw[e];exact hS.out.below (B:=wr.heap.size) (zl (ah _ _)) (by omega))
      have HB':Hid (Below W.heap.size wo (wr.alloc (.cells #[ab at_,ab sh,.slice (some (af gw 1)) (q+2) qc] 325))):=hid (hb.out.alloc (by omega) _);have adj:=hid (hBq.out.below (zl (o:=.cells #[ab at_,ab sh,.slice (some (af gw 1)) (q+2) qc] 325) (ah wr.heap.size wr)));clear hS hb Ic hBq;go_wp2;exact adi
    ·have e:k=n:=by omega
     subst e;rw[HN.out,mj]at hS;go_wp2
     go_end0
     exact⟨rfl,hBq.out,by rw[<-HF.out];exact hS.out,hK.out.ah7 hb.out⟩
end Go.Proofs.YtjjggdcnpndgjaaGreatDoor
