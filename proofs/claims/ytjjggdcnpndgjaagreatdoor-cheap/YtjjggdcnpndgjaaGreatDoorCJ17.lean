import Derived.Test.YtjjggdcnpndgjaaGreatDoorCJ16
set_option linter.unusedSimpArgs false
set_option maxHeartbeats 8000000
set_option maxRecDepth 100000
namespace Go.Proofs.YtjjggdcnpndgjaaGreatDoor
open Go.RowKit Go.Shelf Go.WideMaps Go.Maps
variable {B b gb n:Nat}{w:World}
theorem Tryz.infoI3:(Tryz.prog.info? 3).map (λi=>(i.zero,i.size,i.bytes))=some (some (ab 0),1,8):=by kernel_rfl
theorem TJ {p:Value}{l:List ByteArray} (h:EU w p l) (h3:3<=l.length):∃gw q qc cs,p=.slice (some (af gw 1)) (q+2) qc/\q+2<=qc/\w.heap[gw]?=some (.cells cs 9 (0,0))/\w.cell? (af gw 1)=some (.string (nth l 1))/\w.cell? (af gw 2)=some (.string (nth l 2)):=by
 obtain⟨g,n,cap,ad,cs,rfl,h2,h3',h4,h5,h6,h7⟩:=h;have had:=h7 (by omega);subst had;obtain⟨m,rfl⟩:∃m,n=m+2:=⟨n - 2,by omega⟩;exact⟨g,m,cap,cs,rfl,h3',h5,by rw[A0 h5];exact h6 1 (by omega),by rw[A0 h5];exact h6 2 (by omega)⟩
theorem EW.off {w1:World}{m e sz:Nat}{f:ByteArray->Int}{v:Value}{xs:List Value} (h:EW w b m f) (hv:w.ownsRow B e sz v n xs) (hk:A5 w w1 v.ownBlock.toList):EW w1 b m f:=
 h.block (hk.block b h.lt (λhm=>by
  obtain⟨D,⟨es,clock,h4,_⟩,_⟩:=h;obtain⟨c,hc⟩:=BQ hv (BJ hm);rw[hc]at h4;cases h4))
theorem EW.set {m j:Nat}{f:ByteArray->Int}{u:Value} (h:EW w b m f) (hne:gb≠b):EW (w.setCell (af gb j) u) b m f:=h.block (je _ _ _ _ (by exact hne.symm))
theorem dY (T:List Tk):DG T (λ_=>.slice none 0 0)=FW T:=by
 unfold DG FW;have h:T=T.zipIdx.map Prod.fst:=by simp
 conv=>rhs;rw[h,tu]
theorem bD (T:List Tk) (f f':Nat->Value) (t:Nat) (ht:t<T.length) (ho:∀i,i≠t->f' i=f i):(DG T f).set (t*4+3) (f' t)=DG T f':=by
 apply oo;intro i
 by_cases hi:i<T.length*4
 ·obtain⟨x,hx⟩:∃x,T[i / 4]?=some x:=⟨_,gE (by omega)⟩
  have e:i=i / 4*4+i % 4:=by omega
  have h1:=IM (f:=f) hx (j:=i % 4) (by omega);have h2:=IM (f:=f') hx (j:=i % 4) (by omega);rw[<-e]at h1 h2;rw[vw,h2]
  by_cases h3:t*4+3=i
  ·have e4:i / 4=t:=by omega
   have e5:i % 4=3:=by omega
   rw[ay h3,ay (by rw[JT];omega),e4,e5];rfl
  ·rw[aq h3,h1]
   by_cases h4:i / 4=t
   ·have h5:i % 4<3:=by omega
    obtain⟨m,hm⟩:=qE (i % 4);rw[hm]at h5 ⊢
    match m,h5 with
    |0,_=>rfl
    |1,_=>rfl
    |2,_=>rfl
   ·rw[ho _ h4]
 ·rw[eo (by rw[yu,JT];omega),eo (by rw[JT];omega)]
theorem Cc.aiF {TC:List Value}{M:List Nm}{gt cT:Nat}{vN:Value}{pv:List Value} (h:Cc w B gb n TC M (ae gt n cT) vN pv) (j:Nat) (u:Value):
  Cc (w.setCell (af gt j) u) B gb n (TC.set j u) M (ae gt n cT) vN pv:=by
 obtain⟨c,hc⟩:=BQ h.toks (g:=gt) rfl;have hne:gb≠gt:=λe=>A9 h.toks h.blk (by decide) aaP
 refine⟨(je _ _ _ _ (by exact hne)).trans h.blk,h.hb,(h.toks.stored j u).1,CZ h.names hc (by decide),h.Eo,λi nm p hm hp=>?_⟩;obtain⟨Ak,hr⟩:=h.Zn i nm p hm hp;exact⟨Ak,hr.setOther hc (by decide) (by decide)⟩
theorem Gt.put {S S':Nat->Nat->Nat} (h:Gt w b n S) {t u:Nat} (ht:t<n) (_hu:u<n) (ho:∀i j,¬(i=t/\j=u)->S' i j=S i j):Gt (w.setCell (af (b+t) u) (ab (S' t u:Int))) b n S':=by
 intro i hi
 by_cases e:i=t
 ·subst e
  rw[AA (h i hi)]
  congr 2
  apply Array.ext';rw[Array.toList_setIfInBounds];apply oo;intro j;simp only[vw,gM,lM,List.length_range]
  by_cases hj:j<n
  ·rw[ny hj]
   by_cases e2:u=j
   ·subst e2
    rw[ay rfl,ay hj];rfl
   ·rw[aq e2]
    show some (ab (S i j:Int))=some (ab (S' i j:Int));rw[ho i j (λh=>e2 h.2.symm)]
  ·rw[eo (by simpa using hj)]
   by_cases e2:u=j
   ·rw[ay e2,aq (by omega)];rfl
   ·rw[aq e2];rfl
 ·rw[je _ _ _ _ (by show b+i≠b+t;omega),h i hi]
  congr 3
  apply mj;intro j _;rw[ho i j (λh=>e h.1)]
theorem Gt.below {w1:World}{S:Nat->Nat->Nat} (h:Gt w b n S) (hb:Below B w w1) (hB:b+n<=B):Gt w1 b n S:=λt ht=>(hb.block (b+t) (by omega)).trans (h t ht)
theorem SV {gw q qc:Nat}{l:List ByteArray} (h:EU w (.slice (some (af gw 1)) (q+2) qc) l) (h4:4<=l.length):1<=q/\w.cell? (af gw 3)=some (.string (nth l 3)):=by
 obtain⟨g,n,cap,ad,cs,e,h2,h3',h4',h5,h6,h7⟩:=h;injection e with e1 e2 e3
 have had:=h7 (by omega);rw[had]at e1;injection e1 with e1
 injection e1 with e1
 subst e1;exact⟨by omega,by rw[A0 h5];exact h6 3 (by omega)⟩
theorem Cc.setInt {TC:List Value}{M:List Nm}{vT vN:Value}{pv:List Value} (h:Cc w B gb n TC M vT vN pv) {j:Nat}{cs:Array Value}{fr:Nat × Nat} (hb:w.heap[b]?=some (.cells cs 3 fr)) (u:Value):
  Cc (w.setCell (af b j) u) B gb n TC M vT vN pv:=by
 have hne:gb≠b:=λe=>by
  have h1:=h.blk;rw[e,hb]at h1;injection h1 with h1
  injection h1 with _ h1
  exact absurd h1 (by decide)
 refine⟨(je _ _ _ _ (by exact hne)).trans h.blk,h.hb,CZ h.toks hb (by decide),CZ h.names hb (by decide),h.Eo,λi nm p hm hp=>?_⟩;obtain⟨Ak,hr⟩:=h.Zn i nm p hm hp;exact⟨Ak,hr.setOther hb (by decide) (by decide)⟩
theorem A5.aiG {a b c:World}{S:List Nat} (h:A5 a b S) (k:Below a.heap.size b c):A5 a c S:=
 ⟨k.os.trans h.os,k.tape.trans h.tape,k.output.trans h.output,zV h.size k.size,λi hi hn=>(k.block i hi).trans (h.block i hi hn)⟩
theorem WK (b:Bool) (c:Int) (w:World):(Instr.field 235 (.agg #[.bool b,ab c]) 1).run Tryz.prog w=.ok (ab c) w:=by kernel_rfl
theorem bH (n:Nat):madeCells #[ab 0] (n*1)=((List.range n).map λ_=>ab (((λ_ _=>0:Nat->Nat->Nat) 0 0:Nat):Int)).toArray:=by
 have h:=NZ 1 (by omega) (λ_:Unit=>[ab 0]) (λ_=>rfl) () n;apply Array.ext';have h2:(madeCells #[ab 0] (n*1)).toList=(List.replicate n ()).flatMap λ_=>[ab 0]:=h
 rw[h2];apply oo;intro i;have h3:∀m:Nat,((List.replicate m ()).flatMap λ_=>[ab 0])=List.replicate m (ab 0):=by
  intro m
  induction m with
  |zero=>rfl
  |succ m ih=>
   rw[zg,ij,zg,ih];rfl
 rw[h3,nj];simp only[gM]
 by_cases hi:i<n
 ·rw[ay hi,ny hi];rfl
 ·rw[aq hi,eo (by simpa using hi)];rfl
theorem OX {T:List Tk}{f g:Nat->Value} (h:∀i,i<T.length->f i=g i):DG T f=DG T g:=by
 apply oo;intro i
 by_cases hi:i<T.length*4
 ·obtain⟨x,hx⟩:∃x,T[i / 4]?=some x:=⟨_,gE (by omega)⟩
  have e:i=i / 4*4+i % 4:=by omega
  have h1:=IM (f:=f) hx (j:=i % 4) (by omega);have h2:=IM (f:=g) hx (j:=i % 4) (by omega);rw[<-e]at h1 h2;rw[h1,h2,h _ (by omega)]
 ·rw[eo (by rw[JT];omega),eo (by rw[JT];omega)]
theorem aee {P:Prop} (h:P:=by
  go_roundw
  case rel=>exact⟨k+1,by omega,by go_num,HS',aef,HB'⟩
  case measure=>simp[intOf];omega):P:=h
theorem mW (P:List Ln) (G:Gr) (hg:Ei P G) (hok:LN P) (Wb W:World) (hG:E2 Wb) (B0 B gb bn g cap:Nat) (pv:List Value) (hV:Bv Wb B0 (ae g P.length cap) P pv) (hcap:P.length<=cap) (Bu:g<Wb.heap.size) (hbW:Below Wb.heap.size Wb W) (hB:Wb.heap.size<=B)
  (M:List Nm) (vT vN:Value) (Hp:List Value) (El:Cc W B gb (Ck P).length (FW (Ck P)) M vT vN Hp) (Nt:EW W bn P.length (DD P)):
  Calls Tryz.prog 203 #[ac gb,ae g P.length cap,.map (some bn)] W λe w'=>e=.returned (.tuple #[])/\
   Cc w' B gb (Ck P).length (DG (Ck P) (Ih W.heap.size (Ck P).length)) M vT vN Hp/\Gt w' W.heap.size (Ck P).length (F4 (DD P) P)/\A5 W w' vT.ownBlock.toList:=by
 obtain⟨i0,hi,hz0,hz1,hz2⟩:=iy Tryz.infoI3;obtain⟨T,hT⟩:=qE (Ck P);have Nu:T.length=(BD P).length:=by rw[<-hT];unfold Ck;simp
 rw[hT]at El ⊢;have Dx:T.length<=20:=by rw[Nu];exact hg.nT
 obtain⟨nT,Ac⟩:=qE (T.length);have HTL:Hid (T.length=nT):=hid Ac;rw[Ac]at El Nu Dx ⊢;obtain⟨aT,cT,rfl⟩:∃a c,vT=.slice a nT c:=by
  rcases El.toks.2 with⟨h1,h2⟩ | ⟨g,cap,cur,h1,_,_,_⟩
  ·exact⟨none,0,by rw[h1,h2]⟩
  ·exact⟨_,_,h1⟩
 have hsh:0<nT->∃gt,aT=some (af gt 0)/\gt<W.heap.size/\nT<=cT:=λh0=>by
  obtain⟨g,cap,e,_,h2,h3⟩:=B4 El.toks h0;injection e with e1 _ e3
  exact⟨g,e1,h2,by omega⟩
 obtain⟨n,hN⟩:=qF (P.length);have hn:=hok.len;rw[<-hN]at hn hcap hV Nt ⊢;have HN:Hid (n=P.length):=hid hN;have Uk:=hid hsh;have HV:=hid hV;have Bq:=hid hok;have Gd:=hid hg;have HG:=hid hG;have Ul:=hid Nt;have HTK:=hid Nu;obtain⟨f,hf⟩:=qF (DD P);have HF:Hid (f=DD P):=hid hf;have aby:Hid (Cc W B gb nT (DG T (λi=>if i<0 then Ih W.heap.size nT i else .slice none 0 0)) M (.slice aT nT cT) vN Hp):=hid (by
  have e:DG T (λi=>if i<0 then Ih W.heap.size nT i else .slice none 0 0)=FW T:=by
   rw[<-dY];exact OX λi _=>aq (by omega)
  rw[e];exact El)
 have als:gb<W.heap.size:=ak El.blk;have Jv:=hid hbW;have HTs:=hid El.toks;have HGE:Hid (∀k,k∈(Value.slice aT nT cT).ownBlock.toList->B<=k):=hid (LD El.toks);have b00:=El.cells.1;have aaZ:=hbW.size;clear hN hsh hV hok hg hG Nt hT Nu El hbW hf Ac
 go_enter Tryz.func203,Tryz.ntmps203
 go_wp2
 go_loopw [17] (λi wr=>∃t:Nat,t<=nT/\i=ab t/\Hid (Cc wr B gb nT (DG T (λi=>if i<t then Ih W.heap.size nT i else .slice none 0 0)) M (.slice aT nT cT) vN Hp)/\
  Hid (∀i,i<t->wr.heap[W.heap.size+i]?=some (.cells ((List.range nT).map λ_=>ab (((λ_ _=>0:Nat->Nat->Nat) 0 0:Nat):Int)).toArray 3 (0,0)))/\wr.heap.size=W.heap.size+t/\Hid (A5 W wr (Value.slice aT nT cT).ownBlock.toList)) (λi _=>nT - (intOf i).toNat)
 case atStart=>exact⟨0,dh _,rfl,aby,hid (λi hi=>by omega),rfl,hid (A5.refl _ _)⟩
 case round=>
  clear aby b00;obtain⟨t,ht,rfl,El,hZ,Wh,hK⟩:=hrel;obtain⟨wo,rfl⟩:=qF (wr)
  by_cases hlt:t<nT
  ·obtain⟨gt,rfl,hgt,hcT⟩:=Uk.out (by omega)
   have g0:=El.out.cells.1;have alu:gb<wo.heap.size:=by omega
   have alv:gt<wo.heap.size:=by omega
   go_wp2;refine AH (λw'=>w'.cell? (af gb 0)=some (ae gt nT cT)) yM yM g0 (λhH=>?_);simp only[AG,BP,AR];refine tB 0 hH ?_;refine tB 1 hH ?_;refine tB 2 hH ?_;refine tB 3 hH ?_;refine tB 4 hH ?_;refine tB 5 hH ?_;refine tB 6 hH ?_;refine tB 7 hH ?_;refine tB 8 hH ?_;refine tB 9 hH ?_;refine tL ?_;refine tS 10 λK hK=>?_
   refine tM ?_;rw[ay (by rfl)];refine GK _ (.tmp 29) (.tmp 29) 45 rfl 3 i0 (ab 0) Tryz.underlying45 hi hz0 nT rfl rfl (by rw[hz2];omega) (by omega) ?_;rw[hz1];refine hK.out _ _ ?_ λhH=>?_
   ·exact A6 _ hH
   clear hK K;refine tL ?_;refine tB 11 hH ?_;refine tB 12 hH ?_;refine tB 13 hH ?_;refine tL ?_;refine bq yM ?_ _;clear hH;obtain⟨X,hX⟩:=qE (wo.drew.alloc (Obj.cells (madeCells (ab 0).cells (nT*1)) 3));have hXB:Below wo.heap.size wo X:=by rw[<-hX];exact Aj (Cb (ah _ _))
   have hXs:X.heap.size=wo.heap.size+1:=by rw[<-hX,bh];rfl
   have hXz:X.heap[wo.heap.size]?=some (.cells ((List.range nT).map λ_=>ab (((λ_ _=>0:Nat->Nat->Nat) 0 0:Nat):Int)).toArray 3 (0,0)):=by
    have h1:=bg wo.drew (Obj.cells (madeCells (ab 0).cells (nT*1)) 3);rw[hX,show madeCells (ab 0).cells (nT*1)=_ from bH nT]at h1;exact h1
   have hBX:=El.out.below hXB;have hpl:=hBX.toks.1;have x0:=hBX.toks.cellAt (t*4+3) (by omega);rw[gE (by omega)]at x0;obtain⟨y0,hy0⟩:=qE ((DG T (λi=>if i<t then Ih W.heap.size nT i else .slice none 0 0))[t*4+3]'(by omega));rw[hy0]at x0;have x1:=hBX.toks.frozenAt (t*4+3);have hdw:wo.drew.heap.size=W.heap.size+t:=Wh;rw[hX,hdw];have HB':Hid (Cc (X.setCell (af gt (t*4+3)) (.slice (some (af (W.heap.size+t) 0)) nT nT)) B gb nT (DG T (λi=>if i<t+1 then Ih W.heap.size nT i else .slice none 0 0)) M (ae gt nT cT) vN Hp):=hid (by
    have h1:=hBX.aiF (t*4+3) (.slice (some (af (W.heap.size+t) 0)) nT nT);have e:=bD T (λi=>if i<t then Ih W.heap.size nT i else .slice none 0 0) (λi=>if i<t+1 then Ih W.heap.size nT i else .slice none 0 0) t (by rw[HTL.out];exact hlt) (λi hi=>by
     by_cases h2:i<t
     ·simp only[ay h2,ay (show i<t+1 by omega)]
     ·simp only[aq h2,aq (show ¬i<t+1 by omega)])
    simp only[ay (Nat.lt_succ_self t)]at e;rw[show Ih W.heap.size nT t=.slice (some (af (W.heap.size+t) 0)) nT nT from rfl]at e;rw[e]at h1;exact h1)
   have HZ':Hid (∀i,i<t+1->(X.setCell (af gt (t*4+3)) (.slice (some (af (W.heap.size+t) 0)) nT nT)).heap[W.heap.size+i]?=some (.cells ((List.range nT).map λ_=>ab (((λ_ _=>0:Nat->Nat->Nat) 0 0:Nat):Int)).toArray 3 (0,0))):=hid (λi hi=>by
    refine(je _ _ _ _ (by show W.heap.size+i≠gt;omega)).trans ?_
    by_cases h2:i<t
    ·exact(hXB.block _ (by omega)).trans (hZ.out i h2)
    ·rw[show W.heap.size+i=wo.heap.size by omega];exact hXz)
   have HK':Hid (A5 W (X.setCell (af gt (t*4+3)) (.slice (some (af (W.heap.size+t) 0)) nT nT)) (ae gt nT cT).ownBlock.toList):=hid ((hK.out.trans (A5.zQ hXB _)).setCell (by simp[Value.ownBlock]) _);have hsz':(X.setCell (af gt (t*4+3)) (.slice (some (af (W.heap.size+t) 0)) nT nT)).heap.size=W.heap.size+(t+1):=by
    show(X.heap.modify _ _).size=_;rw[Array.size_modify];omega
   clear hX hXB hXs hXz hBX hpl hy0 hdw hZ hK El;show wpList _ _ _ _ _ _;go_wp2
   go_roundw
   case rel=>exact⟨t+1,by omega,by go_num,HB',HZ',hsz',HK'⟩
   case measure=>simp[intOf];omega
  ·have e:t=nT:=by omega
   rw[e]at El hZ Wh;clear e ht;have Nj:Hid (Gt wo W.heap.size nT (F4 f (P.take 0))):=hid (λi hi=>hZ.out i hi);have zL:Hid (Cc wo B gb nT (DG T (Ih W.heap.size nT)) M (.slice aT nT cT) vN Hp):=hid (by
    rw[OX (g:=λi=>if i<nT then Ih W.heap.size nT i else .slice none 0 0) (λi hi=>by rw[ay (by rw[HTL.out]at hi;exact hi)])];exact El.out)
   have Nn:Hid (EW wo bn n f):=hid (by rw[HF.out];exact Ul.out.off HTs.out hK.out);have Zo:Hid (Below Wb.heap.size Wb wo):=hid (Jv.out.trans (hK.out.below aaZ (λq hq=>zV hB (HGE.out q hq))));have aiH:bn<W.heap.size:=Ul.out.lt;clear hZ El Ul;go_wp2
   go_loopw [36] (λi wq=>∃k:Nat,k<=n/\i=ab k/\Hid (Gt wq W.heap.size nT (F4 f (P.take k)))/\Hid (Cc wq B gb nT (DG T (Ih W.heap.size nT)) M (.slice aT nT cT) vN Hp)/\Hid (Below W.heap.size wo wq)) (λi _=>n - (intOf i).toNat)
   case atStart=>exact⟨0,dh _,rfl,Nj,zL,hid (ah _ _)⟩
   case round=>
    clear Nj zL;obtain⟨k,hk,rfl,hS,hBq,hb⟩:=hrel;have af2:=hb.out.size;have Zp:Below Wb.heap.size Wb wr:=Zo.out.trans (hb.out.mono (by omega))
    by_cases Cu:k<n
    ·obtain⟨x,hx⟩:∃x,P[k]?=some x:=⟨_,gE La⟩
     have hpos:∀y∈P,y.2.1=1->1<=K7 y:=λy hy h1=>by
      have:=KI (Gd.out.swn y hy h1).1;unfold K7;omega
     have hnext:=λt u=>mX f hx hpos t u
     have Eg:=Bq.out.ok x (mG hx);have hx2:=Bq.out.sh x (mG hx);have Kq:=Bq.out.usz x (mG hx);obtain⟨p,hp,Dz,k0,k1,k2⟩:=(HV.out.below Zp).at hx;have Nd:3<=x.2.2.length:=Eg.1;obtain⟨gw,q,qc,csw,rfl,hqc,zX,c1,c2⟩:=TJ Dz Nd;have Iw:=ak zX;have Ju:=hid Dz;have HX:=hid hx;have HNX:=hid hnext;obtain⟨at_,sh,l⟩:=x;simp only at k0 k1 k2 hx2 c1 c2 Nd Kq;have hgr:g<wr.heap.size:=lL Bu Zp.size;clear hp Eg Dz hx hpos hnext
     by_cases hs1:sh=1
     ·subst hs1
      have hmem:=mG HX.out;have hl4:l.length=4:=(Gd.out.swn _ hmem rfl).2;have Ni:DS (nth l 3)=true:=(Gd.out.swn _ hmem rfl).1;obtain⟨t1,Gq,e1⟩:=bX Gd.out (Gd.out.swk _ hmem rfl).1 (Gd.out.swm _ hmem rfl).1;obtain⟨t2,Jc,e2⟩:=bX Gd.out (Gd.out.swk _ hmem rfl).2 (Gd.out.swm _ hmem rfl).2;simp only at e1 e2;rw[<-HF.out]at e1 e2;rw[<-HTK.out]at Gq Jc;obtain⟨gt,rfl,hgt,hcT⟩:=Uk.out (by omega);have hu1:(nth l 1).size<=4000:=Kq _ (by show nth l 1∈ [nth l 1,nth l 2];simp);have hu2:(nth l 2).size<=4000:=Kq _ (by show nth l 2∈ [nth l 1,nth l 2];simp);have hN2:EW wr bn n f:=Nn.out.block (hb.out.block bn aiH);have hN3:EW (wr.alloc (.cells #[ab at_,ab 1,.slice (some (af gw 1)) (q+2) qc] 325)) bn n f:=hN2.below (Aj (ah _ _));have HN3:=hid hN3;obtain⟨Kb,c3⟩:=SV Ju.out (by show 4<=l.length;omega);have hval:=KI Ni;have hs3:=(PM Ni).1;have Mm:=hid Ni;obtain⟨nv,Ks⟩:=qE (D5 (nth l 3).data.toList)
      rw[Ks]at hval;have CC:Hid (∀w',Below wr.heap.size wr w'->Calls Tryz.prog 200 #[.string (nth l 3)] w' λe w''=>e=.returned (.tuple #[ab nv,.bool true])/\Below w'.heap.size w' w''):=hid λw' hb'=>by
       refine(NR (nth l 3) w' (HG.out.below (Zp.trans (hb'.mono Zp.size)) HG.out.size) (by omega)).mono ?_;rintro e w'' ⟨⟨m,rfl,hm⟩,aiI⟩;rw[hm Mm.out,Mm.out,Ks];exact⟨rfl,aiI⟩
      have Ua:=hid Ks;obtain⟨Wl,Nv⟩:=qE (wr.alloc (.cells #[ab at_,ab 1,.slice (some (af gw 1)) (q+2) qc] 325));have Ep:Hid (Below wr.heap.size wr Wl):=hid (by rw[<-Nv];exact Aj (ah _ _));have HSl:Hid (Gt Wl W.heap.size nT (F4 f (P.take k))):=hid (hS.out.below Ep.out (by omega));have Tz:Hid (Cc Wl B gb nT (DG T (Ih W.heap.size nT)) M (ae gt nT cT) vN Hp):=hid (hBq.out.below Ep.out);have d2:Wl.cell? (af wr.heap.size 2)=some (.slice (some (af gw 1)) (q+2) qc):=by rw[<-Nv];exact BK wr _ _ 2
      have e1':=(Ep.out.cell (p:=(af gw 1)) Tr).trans c1;have e2':=(Ep.out.cell (p:=(af gw 2)) Tr).trans c2;have e3':=(Ep.out.cell (p:=(af gw 3)) Tr).trans c3;have g0:=Tz.out.cells.1;have hpl:=Tz.out.toks.1;have s3:=Tz.out.toks.cellAt (t1*4+3) (by omega);obtain⟨xt,hxt⟩:∃x,T[t1]?=some x:=⟨_,gE (by rw[HTL.out];exact Gq)⟩;rw[IM hxt (j:=3) (by omega)]at s3;have s3':Wl.cell? (af gt (t1*4+3))=some (.slice (some (af (W.heap.size+t1) 0)) nT nT):=s3;clear s3;have s4:=HSl.out.cell Gq Jc;have s5:Wl.frozen? (af (W.heap.size+t1) t2)=false:=A7 (HSl.out t1 Gq);have hNd:EW Wl.drew bn n f:=by rw[<-Nv];exact HN3.out.below (Cb (ah _ _))
      have L1:=hNd.look (nth l 1) Bg;have L2:=hNd.look (nth l 2) Bg;rw[e1,show 2*(t1:Int) / 2=t1 by omega]at L1;rw[e2,show 2*(t2:Int) / 2=t2 by omega]at L2;obtain⟨b1,hb1⟩:=qE (decide (2*(t1:Int) % 2=1));obtain⟨b2,hb2⟩:=qE (decide (2*(t2:Int) % 2=1));rw[hb1]at L1;rw[hb2]at L2;have L1':=L1;have L2':=L2;clear L1 L2 hNd;obtain⟨sv,hsv⟩:=qE (F4 f (P.take k) t1 t2);rw[hsv]at s4;have HSV:=hid hsv;have HE:Hid (f (nth l 1)=2*(t1:Int)/\f (nth l 2)=2*(t2:Int)):=hid ⟨e1,e2⟩;have alw:(t1:Int)<nT:=by omega
      have alx:(t2:Int)<nT:=by omega
      have Cs:=Ep.out.size;have aly:=λw=>WK b1 (t1:Int) w
      have alz:=λw=>WK b2 (t2:Int) w
      have Ud:(0:Int)< (q:Int)+2:=by omega
      have alA:(1:Int)< (q:Int)+2:=by omega
      have Wi:(2:Int)< (q:Int)+2:=by omega
      have HWl:=hid Nv;clear Nv;clear hN2 hN3 Ni Ks hb1 hb2 hxt hsv e1 e2 hmem Kq hS hBq c1 c2 c3 hpl;go_wp2;rw[HWl.out];clear HWl;refine dy (S:=λw'=>w'.cell? (af wr.heap.size 2)=some (.slice (some (af gw 1)) (q+2) qc)/\w'.cell? (af gw 1)=some (.string (nth l 1))/\w'.cell? (af gw 2)=some (.string (nth l 2))/\(Instr.lookup 322 (.map (some bn)) (.string (nth l 1)) false).run Tryz.prog w'=.ok (.agg #[.bool b1,ab t1]) w'/\(Instr.lookup 322 (.map (some bn)) (.string (nth l 2)) false).run Tryz.prog w'=.ok (.agg #[.bool b2,ab t2]) w') yM ⟨d2,e1',e2',L1',L2'⟩ (λhH=>?_);refine tB 0 hH ?_;refine tB 1 hH ?_;refine tB 2 hH ?_;refine tB 3 hH ?_;refine tB 4 hH ?_;refine tB 5 hH ?_;refine tB 6 hH ?_;refine tB 7 hH ?_;refine tB 8 hH ?_;refine tB 9 hH ?_;refine tB 10 hH ?_;refine tB 11 hH ?_;refine tB 12 hH ?_;refine tB 13 hH ?_;refine tB 14 hH ?_;refine tB 15 hH ?_;refine tL ?_
      refine bq yM ?_ _;clear hH L1' L2'
      by_cases h0:sv=0
      ·subst h0
       have s4':Wl.cell? (af (W.heap.size+t1) t2)=some (ab 0):=s4;clear s4
       go_wp2_with (go_at_call 200;refine(CC.out _ (Cb Ep.out)).mono ?_;rintro e w5 ⟨rfl,zP⟩;have Av:Hid (Below Wl.heap.size Wl w5):=hid (by have h:=zP;exact(Cb (ah _ _)).trans h);have s5':=(Av.out.cell (p:=(af (W.heap.size+t1) t2)) (by exact bu _ _ s4')).trans s4';have fr5:w5.frozen? (af (W.heap.size+t1) t2)=false:=A7 ((HSl.out.below Av.out (by omega)) t1 Gq);clear zP)
       have Ec:=HSl.out.below Av.out (by omega);have hnn:((nv.toNat:Nat):Int)=nv:=xh (by omega);have HS':Hid (Gt (w5.setCell (af (W.heap.size+t1) t2) (ab nv)) W.heap.size nT (F4 f (P.take (k+1)))):=hid (by
        have hv:F4 f (P.take (k+1)) t1 t2=nv.toNat:=by
         rw[HNX.out t1 t2,ay ⟨HSV.out,rfl,HE.out.1,HE.out.2⟩];show(D5 (nth l 3).data.toList).toNat=_;rw[Ua.out]
        have h1:=Ec.put (S':=F4 f (P.take (k+1))) Gq Jc (λi j hij=>by
         rw[HNX.out i j,aq];rintro⟨_,_,h3,h4⟩;have e1:=HE.out.1;have e2:=HE.out.2;simp only at h3 h4;exact hij ⟨by omega,by omega⟩)
        rw[hv,hnn]at h1;exact h1)
       have aef:Hid (Cc (w5.setCell (af (W.heap.size+t1) t2) (ab nv)) B gb nT (DG T (Ih W.heap.size nT)) M (ae gt nT cT) vN Hp):=hid ((Tz.out.below Av.out).setInt (Ec t1 Gq) _);have HB':Hid (Below W.heap.size wo (w5.setCell (af (W.heap.size+t1) t2) (ab nv))):=hid ((((hb.out.trans (Ep.out.mono (by omega))).trans (Av.out.mono (by omega)))).setCell (by show W.heap.size<=W.heap.size+t1;omega) _);clear Ec hnn;exact aee
      ·have hz0:((sv:Int)==0)=false:=by simpa using (show ¬(sv:Int)=0 by omega)
       have HS':Hid (Gt Wl.drew W.heap.size nT (F4 f (P.take (k+1)))):=hid (by
        have e:F4 f (P.take (k+1))=F4 f (P.take k):=by
         funext i j
         rw[HNX.out i j,aq];rintro⟨h1,_,h3,h4⟩;have e1:=HE.out.1;have e2:=HE.out.2;simp only at h3 h4;obtain rfl:i=t1:=by omega
         obtain rfl:j=t2:=by omega
         exact h0 (by rw[<-HSV.out];exact h1)
        rw[e];exact HSl.out.below (Cb (ah Wl.heap.size Wl)) (by omega))
       have aef:Hid (Cc Wl.drew B gb nT (DG T (Ih W.heap.size nT)) M (ae gt nT cT) vN Hp):=hid (Tz.out.below (Cb (ah _ _)));have HB':Hid (Below W.heap.size wo Wl.drew):=hid (hb.out.trans ((Cb Ep.out).mono (by omega)));go_wp2;exact aee
     ·have hns:((sh:Int)==1)=false:=by simpa using (show ¬(sh:Int)=1 by omega)
      have HS':Hid (Gt (wr.alloc (.cells #[ab at_,ab sh,.slice (some (af gw 1)) (q+2) qc] 325)) W.heap.size nT (F4 f (P.take (k+1)))):=hid (by
       have e:F4 f (P.take (k+1))=F4 f (P.take k):=by
        funext t u
        rw[HNX.out t u,aq (λh=>hs1 h.2.1)]
       rw[e];exact hS.out.below (B:=wr.heap.size) (Aj (ah _ _)) (by omega))
      have HB':Hid (Below W.heap.size wo (wr.alloc (.cells #[ab at_,ab sh,.slice (some (af gw 1)) (q+2) qc] 325))):=hid (hb.out.alloc (by omega) _);have aef:=hid (hBq.out.below (Aj (o:=.cells #[ab at_,ab sh,.slice (some (af gw 1)) (q+2) qc] 325) (ah wr.heap.size wr)));clear hS hb Kq hBq;go_wp2;exact aee
    ·have e:k=n:=by omega
     subst e;rw[HN.out,om]at hS;go_wp2
     go_end0
     exact⟨rfl,hBq.out,by rw[<-HF.out];exact hS.out,hK.out.aiG hb.out⟩
end Go.Proofs.YtjjggdcnpndgjaaGreatDoor
