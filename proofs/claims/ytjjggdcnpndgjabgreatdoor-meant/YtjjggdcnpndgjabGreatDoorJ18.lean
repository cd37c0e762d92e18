import Derived.Test.YtjjggdcnpndgjabGreatDoorJ17
set_option linter.unusedSimpArgs false
set_option maxHeartbeats 8000000
set_option maxRecDepth 100000
namespace Go.Proofs.YtjjggdcnpndgjabGreatDoor
open Go.RowKit Go.Shelf Go.WideMaps Go.Maps
variable {B b gb n:Nat}{w:World}
theorem Tryz.infoI3:(Tryz.prog.info? 3).map (fun i=>(i.zero,i.size,i.bytes))=some (some (ab 0),1,8):=by kernel_rfl
theorem SW {p:Value}{l:List ByteArray} (h:EH w p l) (h3:3<=l.length):∃gw q qc cs,p=.slice (some (af gw 1)) (q+2) qc/\q+2<=qc/\w.heap[gw]?=some (.cells cs 9 (0,0))/\w.cell? (af gw 1)=some (.string (nth l 1))/\w.cell? (af gw 2)=some (.string (nth l 2)):=by
 obtain⟨g,n,cap,ad,cs,rfl,h2,h3',h4,h5,h6,h7⟩:=h;have had:=h7 (by omega);subst had;obtain⟨m,rfl⟩:∃m,n=m+2:=⟨n - 2,by omega⟩;exact⟨g,m,cap,cs,rfl,h3',h5,by rw[A0 h5];exact h6 1 (by omega),by rw[A0 h5];exact h6 2 (by omega)⟩
theorem EI.off {w1:World}{m e sz:Nat}{f:ByteArray->Int}{v:Value}{xs:List Value} (h:EI w b m f) (hv:w.ownsRow B e sz v n xs) (hk:A1 w w1 v.ownBlock.toList):EI w1 b m f:=
 h.block (hk.block b h.lt (fun hm=>by
  obtain⟨D,⟨es,clock,h4,_⟩,_⟩:=h;obtain⟨c,hc⟩:=BJ hv (BE hm);rw[hc]at h4;cases h4))
theorem EI.set {m j:Nat}{f:ByteArray->Int}{u:Value} (h:EI w b m f) (hne:gb≠b):EI (w.setCell (af gb j) u) b m f:=h.block (Below.heap_setCell _ _ _ _ (by exact hne.symm))
theorem bF (T:List Tk):D6 T (fun _=>.slice none 0 0)=FJ T:=by
 unfold D6 FJ;have h:T=T.zipIdx.map Prod.fst:=by simp
 conv=>rhs;rw[h,List.flatMap_map]
theorem aU (T:List Tk) (f f':Nat->Value) (t:Nat) (ht:t<T.length) (ho:∀i,i≠t->f' i=f i):(D6 T f).set (t*4+3) (f' t)=D6 T f':=by
 apply List.ext_getElem?;intro i
 by_cases hi:i<T.length*4
 ·obtain⟨x,hx⟩:∃x,T[i / 4]?=some x:=⟨_,gE (by omega)⟩
  have e:i=i / 4*4+i % 4:=by omega
  have h1:=I8 (f:=f) hx (j:=i % 4) (by omega);have h2:=I8 (f:=f') hx (j:=i % 4) (by omega);rw[<-e]at h1 h2;rw[List.getElem?_set,h2]
  by_cases h3:t*4+3=i
  ·have e4:i / 4=t:=by omega
   have e5:i % 4=3:=by omega
   rw[if_pos h3,if_pos (by rw[JH];omega),e4,e5];rfl
  ·rw[if_neg h3,h1]
   by_cases h4:i / 4=t
   ·have h5:i % 4<3:=by omega
    obtain⟨m,hm⟩:=qE (i % 4);rw[hm]at h5 ⊢
    match m,h5 with
    |0,_=>rfl
    |1,_=>rfl
    |2,_=>rfl
   ·rw[ho _ h4]
 ·rw[List.getElem?_eq_none (by rw[List.length_set,JH];omega),List.getElem?_eq_none (by rw[JH];omega)]
theorem BtV.setTok {TC:List Value}{M:List Nm}{gt cT:Nat}{vN:Value}{pv:List Value} (h:BtV w B gb n TC M (ae gt n cT) vN pv) (j:Nat) (u:Value):
  BtV (w.setCell (af gt j) u) B gb n (TC.set j u) M (ae gt n cT) vN pv:=by
 obtain⟨c,hc⟩:=BJ h.toks (g:=gt) rfl;have hne:gb≠gt:=fun e=>A6 h.toks h.blk (by decide) y79Z
 refine⟨(Below.heap_setCell _ _ _ _ (by exact hne)).trans h.blk,h.hb,(h.toks.stored j u).1,C2 h.names hc (by decide),h.pvl,fun i nm p hm hp=>?_⟩;obtain⟨pvs,hr⟩:=h.ruls i nm p hm hp;exact⟨pvs,hr.setOther hc (by decide) (by decide)⟩
theorem SwM.put {S S':Nat->Nat->Nat} (h:SwM w b n S) {t u:Nat} (ht:t<n) (_hu:u<n) (ho:∀i j,¬(i=t/\j=u)->S' i j=S i j):SwM (w.setCell (af (b+t) u) (ab (S' t u:Int))) b n S':=by
 intro i hi
 by_cases e:i=t
 ·subst e
  rw[A5 (h i hi)]
  congr 2
  apply Array.ext';rw[Array.toList_setIfInBounds];apply List.ext_getElem?;intro j;simp only[List.getElem?_set,gM,lM,List.length_range]
  by_cases hj:j<n
  ·rw[List.getElem?_range hj]
   by_cases e2:u=j
   ·subst e2
    rw[if_pos rfl,if_pos hj];rfl
   ·rw[if_neg e2]
    show some (ab (S i j:Int))=some (ab (S' i j:Int));rw[ho i j (fun h=>e2 h.2.symm)]
  ·rw[List.getElem?_eq_none (by simpa using hj)]
   by_cases e2:u=j
   ·rw[if_pos e2,if_neg (by omega)];rfl
   ·rw[if_neg e2];rfl
 ·rw[Below.heap_setCell _ _ _ _ (by show b+i≠b+t;omega),h i hi]
  congr 3
  apply List.map_congr_left;intro j _;rw[ho i j (fun h=>e h.1)]
theorem SwM.below {w1:World}{S:Nat->Nat->Nat} (h:SwM w b n S) (hb:Below B w w1) (hB:b+n<=B):SwM w1 b n S:=fun t ht=>(hb.block (b+t) (by omega)).trans (h t ht)
theorem SV {gw q qc:Nat}{l:List ByteArray} (h:EH w (.slice (some (af gw 1)) (q+2) qc) l) (h4:4<=l.length):1<=q/\w.cell? (af gw 3)=some (.string (nth l 3)):=by
 obtain⟨g,n,cap,ad,cs,e,h2,h3',h4',h5,h6,h7⟩:=h;injection e with e1 e2 e3
 have had:=h7 (by omega);rw[had]at e1;injection e1 with e1
 injection e1 with e1
 subst e1;exact⟨by omega,by rw[A0 h5];exact h6 3 (by omega)⟩
theorem BtV.setInt {TC:List Value}{M:List Nm}{vT vN:Value}{pv:List Value} (h:BtV w B gb n TC M vT vN pv) {j:Nat}{cs:Array Value}{fr:Nat × Nat} (hb:w.heap[b]?=some (.cells cs 3 fr)) (u:Value):
  BtV (w.setCell (af b j) u) B gb n TC M vT vN pv:=by
 have hne:gb≠b:=fun e=>by
  have h1:=h.blk;rw[e,hb]at h1;injection h1 with h1
  injection h1 with _ h1
  exact absurd h1 (by decide)
 refine⟨(Below.heap_setCell _ _ _ _ (by exact hne)).trans h.blk,h.hb,C2 h.toks hb (by decide),C2 h.names hb (by decide),h.pvl,fun i nm p hm hp=>?_⟩;obtain⟨pvs,hr⟩:=h.ruls i nm p hm hp;exact⟨pvs,hr.setOther hb (by decide) (by decide)⟩
theorem A1.thenBelow {a b c:World}{S:List Nat} (h:A1 a b S) (k:Below a.heap.size b c):A1 a c S:=
 ⟨k.os.trans h.os,k.tape.trans h.tape,k.output.trans h.output,lT_ h.size k.size,fun i hi hn=>(k.block i hi).trans (h.block i hi hn)⟩
theorem U6 (b:Bool) (c:Int) (w:World):(Instr.field 105 (.agg #[.bool b,ab c]) 1).run Tryz.prog w=.ok (ab c) w:=by kernel_rfl
theorem bN (n:Nat):madeCells #[ab 0] (n*1)=((List.range n).map fun _=>ab (((fun _ _=>0:Nat->Nat->Nat) 0 0:Nat):Int)).toArray:=by
 have h:=NF 1 (by omega) (fun _:Unit=>[ab 0]) (fun _=>rfl) () n;apply Array.ext';have h2:(madeCells #[ab 0] (n*1)).toList=(List.replicate n ()).flatMap fun _=>[ab 0]:=h
 rw[h2];apply List.ext_getElem?;intro i;have h3:∀m:Nat,((List.replicate m ()).flatMap fun _=>[ab 0])=List.replicate m (ab 0):=by
  intro m
  induction m with
  |zero=>rfl
  |succ m ih=>
   rw[List.replicate_succ,List.flatMap_cons,List.replicate_succ,ih];rfl
 rw[h3,List.getElem?_replicate];simp only[gM]
 by_cases hi:i<n
 ·rw[if_pos hi,List.getElem?_range hi];rfl
 ·rw[if_neg hi,List.getElem?_eq_none (by simpa using hi)];rfl
theorem OD {T:List Tk}{f g:Nat->Value} (h:∀i,i<T.length->f i=g i):D6 T f=D6 T g:=by
 apply List.ext_getElem?;intro i
 by_cases hi:i<T.length*4
 ·obtain⟨x,hx⟩:∃x,T[i / 4]?=some x:=⟨_,gE (by omega)⟩
  have e:i=i / 4*4+i % 4:=by omega
  have h1:=I8 (f:=f) hx (j:=i % 4) (by omega);have h2:=I8 (f:=g) hx (j:=i % 4) (by omega);rw[<-e]at h1 h2;rw[h1,h2,h _ (by omega)]
 ·rw[List.getElem?_eq_none (by rw[JH];omega),List.getElem?_eq_none (by rw[JH];omega)]
theorem Mz18 {P:Prop} (h:P:=by
  go_roundw
  case rel=>exact⟨k+1,by omega,by go_num,HS',HBq',HB'⟩
  case measure=>simp[intOf];omega):P:=h
theorem mO (P:List Ln) (G:Gr) (hg:GOk P G) (hok:LC P) (Wb W:World) (hG:DS Wb) (B0 B gb bn g cap:Nat) (pv:List Value) (hV:LnV Wb B0 (ae g P.length cap) P pv) (hcap:P.length<=cap) (hgl:g<Wb.heap.size) (hbW:Below Wb.heap.size Wb W) (hB:Wb.heap.size<=B)
  (M:List Nm) (vT vN:Value) (pvN:List Value) (hBt:BtV W B gb (tkL P).length (FJ (tkL P)) M vT vN pvN) (hNu:EI W bn P.length (D4 P)):
  Calls Tryz.prog 101 #[ac gb,ae g P.length cap,.map (some bn)] W fun e w'=>e=.returned (.tuple #[])/\
   BtV w' B gb (tkL P).length (D6 (tkL P) (swV W.heap.size (tkL P).length)) M vT vN pvN/\SwM w' W.heap.size (tkL P).length (EO (D4 P) P)/\A1 W w' vT.ownBlock.toList:=by
 obtain⟨i0,hi,hz0,hz1,hz2⟩:=info_parts Tryz.infoI3;obtain⟨T,hT⟩:=qE (tkL P);have hTl:T.length=(B4 P).length:=by rw[<-hT];unfold tkL;simp
 rw[hT]at hBt ⊢;have hT20:T.length<=20:=by rw[hTl];exact hg.nT
 obtain⟨nT,hnT⟩:=qE (T.length);have HTL:Hid (T.length=nT):=hid hnT;rw[hnT]at hBt hTl hT20 ⊢;obtain⟨aT,cT,rfl⟩:∃a c,vT=.slice a nT c:=by
  rcases hBt.toks.2 with⟨h1,h2⟩ | ⟨g,cap,cur,h1,_,_,_⟩
  ·exact⟨none,0,by rw[h1,h2]⟩
  ·exact⟨_,_,h1⟩
 have hsh:0<nT->∃gt,aT=some (af gt 0)/\gt<W.heap.size/\nT<=cT:=fun h0=>by
  obtain⟨g,cap,e,_,h2,h3⟩:=AX hBt.toks h0;injection e with e1 _ e3
  exact⟨g,e1,h2,by omega⟩
 obtain⟨n,hN⟩:=qF (P.length);have hn:=hok.len;rw[<-hN]at hn hcap hV hNu ⊢;have HN:Hid (n=P.length):=hid hN;have HSH:=hid hsh;have HV:=hid hV;have HOK:=hid hok;have HGK:=hid hg;have HG:=hid hG;have HNu:=hid hNu;have HTK:=hid hTl;obtain⟨f,hf⟩:=qF (D4 P);have HF:Hid (f=D4 P):=hid hf;have HBt0:Hid (BtV W B gb nT (D6 T (fun i=>if i<0 then swV W.heap.size nT i else .slice none 0 0)) M (.slice aT nT cT) vN pvN):=hid (by
  have e:D6 T (fun i=>if i<0 then swV W.heap.size nT i else .slice none 0 0)=FJ T:=by
   rw[<-bF];exact OD fun i _=>if_neg (by omega)
  rw[e];exact hBt)
 have hgbW:gb<W.heap.size:=lt_of_block hBt.blk;have HBW:=hid hbW;have HTs:=hid hBt.toks;have HGE:Hid (∀k,k∈(Value.slice aT nT cT).ownBlock.toList->B<=k):=hid (KV hBt.toks);have b00:=hBt.cells.1;have hbsz:=hbW.size;clear hN hsh hV hok hg hG hNu hT hTl hBt hbW hf hnT
 go_enter Tryz.func101,Tryz.ntmps101
 go_wp2
 go_loopw [17] (fun i wr=>∃t:Nat,t<=nT/\i=ab t/\Hid (BtV wr B gb nT (D6 T (fun i=>if i<t then swV W.heap.size nT i else .slice none 0 0)) M (.slice aT nT cT) vN pvN)/\
  Hid (∀i,i<t->wr.heap[W.heap.size+i]?=some (.cells ((List.range nT).map fun _=>ab (((fun _ _=>0:Nat->Nat->Nat) 0 0:Nat):Int)).toArray 3 (0,0)))/\wr.heap.size=W.heap.size+t/\Hid (A1 W wr (Value.slice aT nT cT).ownBlock.toList)) (fun i _=>nT - (intOf i).toNat)
 case atStart=>exact⟨0,Nat.zero_le _,rfl,HBt0,hid (fun i hi=>by omega),rfl,hid (A1.refl _ _)⟩
 case round=>
  clear HBt0 b00;obtain⟨t,ht,rfl,hBt,hZ,hszr,hK⟩:=hrel;obtain⟨wo,rfl⟩:=qF (wr)
  by_cases hlt:t<nT
  ·obtain⟨gt,rfl,hgt,hcT⟩:=HSH.out (by omega)
   have g0:=hBt.out.cells.1;have hgbw:gb<wo.heap.size:=by omega
   have hgtw:gt<wo.heap.size:=by omega
   go_wp2;refine AE (fun w'=>w'.cell? (af gb 0)=some (ae gt nT cT)) y1Z y1Z g0 (fun hH=>?_);simp only[AC,BM,AO];refine tB 0 hH ?_;refine tB 1 hH ?_;refine tB 2 hH ?_;refine tB 3 hH ?_;refine tB 4 hH ?_;refine tB 5 hH ?_;refine tB 6 hH ?_;refine tB 7 hH ?_;refine tB 8 hH ?_;refine tB 9 hH ?_;refine tL ?_;refine tS 10 fun K hK=>?_
   refine tM ?_;rw[if_pos (by rfl)];refine G7 _ (.tmp 29) (.tmp 29) 22 rfl 3 i0 (ab 0) Tryz.underlying22 hi hz0 nT rfl rfl (by rw[hz2];omega) (by omega) ?_;rw[hz1];refine hK.out _ _ ?_ fun hH=>?_
   ·exact A2 _ hH
   clear hK K;refine tL ?_;refine tB 11 hH ?_;refine tB 12 hH ?_;refine tB 13 hH ?_;refine tL ?_;refine wpAnyH_done y1Z ?_ _;clear hH;obtain⟨X,hX⟩:=qE (wo.drew.alloc (Obj.cells (madeCells (ab 0).cells (nT*1)) 3));have hXB:Below wo.heap.size wo X:=by rw[<-hX];exact bal (bdr (Below.refl _ _))
   have hXs:X.heap.size=wo.heap.size+1:=by rw[<-hX,World.size_alloc];rfl
   have hXz:X.heap[wo.heap.size]?=some (.cells ((List.range nT).map fun _=>ab (((fun _ _=>0:Nat->Nat->Nat) 0 0:Nat):Int)).toArray 3 (0,0)):=by
    have h1:=World.alloc_heap_new wo.drew (Obj.cells (madeCells (ab 0).cells (nT*1)) 3);rw[hX,show madeCells (ab 0).cells (nT*1)=_ from bN nT]at h1;exact h1
   have hBX:=hBt.out.below hXB;have hpl:=hBX.toks.1;have x0:=hBX.toks.cellAt (t*4+3) (by omega);rw[gE (by omega)]at x0;obtain⟨y0,hy0⟩:=qE ((D6 T (fun i=>if i<t then swV W.heap.size nT i else .slice none 0 0))[t*4+3]'(by omega));rw[hy0]at x0;have x1:=hBX.toks.frozenAt (t*4+3);have hdw:wo.drew.heap.size=W.heap.size+t:=hszr;rw[hX,hdw];have HB':Hid (BtV (X.setCell (af gt (t*4+3)) (.slice (some (af (W.heap.size+t) 0)) nT nT)) B gb nT (D6 T (fun i=>if i<t+1 then swV W.heap.size nT i else .slice none 0 0)) M (ae gt nT cT) vN pvN):=hid (by
    have h1:=hBX.setTok (t*4+3) (.slice (some (af (W.heap.size+t) 0)) nT nT);have e:=aU T (fun i=>if i<t then swV W.heap.size nT i else .slice none 0 0) (fun i=>if i<t+1 then swV W.heap.size nT i else .slice none 0 0) t (by rw[HTL.out];exact hlt) (fun i hi=>by
     by_cases h2:i<t
     ·simp only[if_pos h2,if_pos (show i<t+1 by omega)]
     ·simp only[if_neg h2,if_neg (show ¬i<t+1 by omega)])
    simp only[if_pos (Nat.lt_succ_self t)]at e;rw[show swV W.heap.size nT t=.slice (some (af (W.heap.size+t) 0)) nT nT from rfl]at e;rw[e]at h1;exact h1)
   have HZ':Hid (∀i,i<t+1->(X.setCell (af gt (t*4+3)) (.slice (some (af (W.heap.size+t) 0)) nT nT)).heap[W.heap.size+i]?=some (.cells ((List.range nT).map fun _=>ab (((fun _ _=>0:Nat->Nat->Nat) 0 0:Nat):Int)).toArray 3 (0,0))):=hid (fun i hi=>by
    refine(Below.heap_setCell _ _ _ _ (by show W.heap.size+i≠gt;omega)).trans ?_
    by_cases h2:i<t
    ·exact(hXB.block _ (by omega)).trans (hZ.out i h2)
    ·rw[show W.heap.size+i=wo.heap.size by omega];exact hXz)
   have HK':Hid (A1 W (X.setCell (af gt (t*4+3)) (.slice (some (af (W.heap.size+t) 0)) nT nT)) (ae gt nT cT).ownBlock.toList):=hid ((hK.out.trans (A1.of_below hXB _)).setCell (by simp[Value.ownBlock]) _);have hsz':(X.setCell (af gt (t*4+3)) (.slice (some (af (W.heap.size+t) 0)) nT nT)).heap.size=W.heap.size+(t+1):=by
    show(X.heap.modify _ _).size=_;rw[Array.size_modify];omega
   clear hX hXB hXs hXz hBX hpl hy0 hdw hZ hK hBt;show wpList _ _ _ _ _ _;go_wp2
   go_roundw
   case rel=>exact⟨t+1,by omega,by go_num,HB',HZ',hsz',HK'⟩
   case measure=>simp[intOf];omega
  ·have e:t=nT:=by omega
   rw[e]at hBt hZ hszr;clear e ht;have HS0:Hid (SwM wo W.heap.size nT (EO f (P.take 0))):=hid (fun i hi=>hZ.out i hi);have HB1:Hid (BtV wo B gb nT (D6 T (swV W.heap.size nT)) M (.slice aT nT cT) vN pvN):=hid (by
    rw[OD (g:=fun i=>if i<nT then swV W.heap.size nT i else .slice none 0 0) (fun i hi=>by rw[if_pos (by rw[HTL.out]at hi;exact hi)])];exact hBt.out)
   have HN1:Hid (EI wo bn n f):=hid (by rw[HF.out];exact HNu.out.off HTs.out hK.out);have HBW1:Hid (Below Wb.heap.size Wb wo):=hid (HBW.out.trans (hK.out.below hbsz (fun q hq=>lT_ hB (HGE.out q hq))));have hbnW:bn<W.heap.size:=HNu.out.lt;clear hZ hBt HNu;go_wp2
   go_loopw [36] (fun i wq=>∃k:Nat,k<=n/\i=ab k/\Hid (SwM wq W.heap.size nT (EO f (P.take k)))/\Hid (BtV wq B gb nT (D6 T (swV W.heap.size nT)) M (.slice aT nT cT) vN pvN)/\Hid (Below W.heap.size wo wq)) (fun i _=>n - (intOf i).toNat)
   case atStart=>exact⟨0,Nat.zero_le _,rfl,HS0,HB1,hid (Below.refl _ _)⟩
   case round=>
    clear HS0 HB1;obtain⟨k,hk,rfl,hS,hBq,hb⟩:=hrel;have hszq:=hb.out.size;have hWq:Below Wb.heap.size Wb wr:=HBW1.out.trans (hb.out.mono (by omega))
    by_cases hlt2:k<n
    ·obtain⟨x,hx⟩:∃x,P[k]?=some x:=⟨_,gE y8Z⟩
     have hpos:∀y∈P,y.2.1=1->1<=K2 y:=fun y hy h1=>by
      have:=K5 (HGK.out.swn y hy h1).1;unfold K2;omega
     have hnext:=fun t u=>kZ f hx hpos t u
     have hxok:=HOK.out.ok x (mG hx);have hx2:=HOK.out.sh x (mG hx);have hus:=HOK.out.usz x (mG hx);obtain⟨p,hp,hWV,k0,k1,k2⟩:=(HV.out.below hWq).at hx;have hl3:3<=x.2.2.length:=hxok.1;obtain⟨gw,q,qc,csw,rfl,hqc,hbw,c1,c2⟩:=SW hWV hl3;have hgw:=lt_of_block hbw;have HWV:=hid hWV;have HX:=hid hx;have HNX:=hid hnext;obtain⟨at_,sh,l⟩:=x;simp only at k0 k1 k2 hx2 c1 c2 hl3 hus;have hgr:g<wr.heap.size:=lL hgl hWq.size;clear hp hxok hWV hx hpos hnext
     by_cases hs1:sh=1
     ·subst hs1
      have hmem:=mG HX.out;have hl4:l.length=4:=(HGK.out.swn _ hmem rfl).2;have hnum:DI (nth l 3)=true:=(HGK.out.swn _ hmem rfl).1;obtain⟨t1,ht1,e1⟩:=bV HGK.out (HGK.out.swk _ hmem rfl).1 (HGK.out.swm _ hmem rfl).1;obtain⟨t2,ht2,e2⟩:=bV HGK.out (HGK.out.swk _ hmem rfl).2 (HGK.out.swm _ hmem rfl).2;simp only at e1 e2;rw[<-HF.out]at e1 e2;rw[<-HTK.out]at ht1 ht2;obtain⟨gt,rfl,hgt,hcT⟩:=HSH.out (by omega);have hu1:(nth l 1).size<=4000:=hus _ (by show nth l 1∈ [nth l 1,nth l 2];simp);have hu2:(nth l 2).size<=4000:=hus _ (by show nth l 2∈ [nth l 1,nth l 2];simp);have hN2:EI wr bn n f:=HN1.out.block (hb.out.block bn hbnW);have hN3:EI (wr.alloc (.cells #[ab at_,ab 1,.slice (some (af gw 1)) (q+2) qc] 194)) bn n f:=hN2.below (bal (Below.refl _ _));have HN3:=hid hN3;obtain⟨hq1,c3⟩:=SV HWV.out (by show 4<=l.length;omega);have hval:=K5 hnum;have hs3:=(PP hnum).1;have HNM:=hid hnum;obtain⟨nv,hnv⟩:=qE (CV (nth l 3).data.toList)
      rw[hnv]at hval;have CC:Hid (∀w',Below wr.heap.size wr w'->Calls Tryz.prog 98 #[.string (nth l 3)] w' fun e w''=>e=.returned (.tuple #[ab nv,.bool true])/\Below w'.heap.size w' w''):=hid fun w' hb'=>by
       refine(NK (nth l 3) w' (HG.out.below (hWq.trans (hb'.mono hWq.size)) HG.out.size) (by omega)).mono ?_;rintro e w'' ⟨⟨m,rfl,hm⟩,hb''⟩;rw[hm HNM.out,HNM.out,hnv];exact⟨rfl,hb''⟩
      have HNV:=hid hnv;obtain⟨Wl,hWl⟩:=qE (wr.alloc (.cells #[ab at_,ab 1,.slice (some (af gw 1)) (q+2) qc] 194));have HBl:Hid (Below wr.heap.size wr Wl):=hid (by rw[<-hWl];exact bal (Below.refl _ _));have HSl:Hid (SwM Wl W.heap.size nT (EO f (P.take k))):=hid (hS.out.below HBl.out (by omega));have HBt:Hid (BtV Wl B gb nT (D6 T (swV W.heap.size nT)) M (ae gt nT cT) vN pvN):=hid (hBq.out.below HBl.out);have d2:Wl.cell? (af wr.heap.size 2)=some (.slice (some (af gw 1)) (q+2) qc):=by rw[<-hWl];exact BG wr _ _ 2
      have e1':=(HBl.out.cell (p:=(af gw 1)) y47Z).trans c1;have e2':=(HBl.out.cell (p:=(af gw 2)) y47Z).trans c2;have e3':=(HBl.out.cell (p:=(af gw 3)) y47Z).trans c3;have g0:=HBt.out.cells.1;have hpl:=HBt.out.toks.1;have s3:=HBt.out.toks.cellAt (t1*4+3) (by omega);obtain⟨xt,hxt⟩:∃x,T[t1]?=some x:=⟨_,gE (by rw[HTL.out];exact ht1)⟩;rw[I8 hxt (j:=3) (by omega)]at s3;have s3':Wl.cell? (af gt (t1*4+3))=some (.slice (some (af (W.heap.size+t1) 0)) nT nT):=s3;clear s3;have s4:=HSl.out.cell ht1 ht2;have s5:Wl.frozen? (af (W.heap.size+t1) t2)=false:=A3 (HSl.out t1 ht1);have hNd:EI Wl.drew bn n f:=by rw[<-hWl];exact HN3.out.below (bdr (Below.refl _ _))
      have L1:=hNd.look (nth l 1) y3Z;have L2:=hNd.look (nth l 2) y3Z;rw[e1,show 2*(t1:Int) / 2=t1 by omega]at L1;rw[e2,show 2*(t2:Int) / 2=t2 by omega]at L2;obtain⟨b1,hb1⟩:=qE (decide (2*(t1:Int) % 2=1));obtain⟨b2,hb2⟩:=qE (decide (2*(t2:Int) % 2=1));rw[hb1]at L1;rw[hb2]at L2;have L1':=L1;have L2':=L2;clear L1 L2 hNd;obtain⟨sv,hsv⟩:=qE (EO f (P.take k) t1 t2);rw[hsv]at s4;have HSV:=hid hsv;have HE:Hid (f (nth l 1)=2*(t1:Int)/\f (nth l 2)=2*(t2:Int)):=hid ⟨e1,e2⟩;have hlt1:(t1:Int)<nT:=by omega
      have hlt2':(t2:Int)<nT:=by omega
      have hwl:=HBl.out.size;have hfd1:=fun w=>U6 b1 (t1:Int) w
      have hfd2:=fun w=>U6 b2 (t2:Int) w
      have hq0:(0:Int)< (q:Int)+2:=by omega
      have hq1':(1:Int)< (q:Int)+2:=by omega
      have hq2:(2:Int)< (q:Int)+2:=by omega
      have HWl:=hid hWl;clear hWl;clear hN2 hN3 hnum hnv hb1 hb2 hxt hsv e1 e2 hmem hus hS hBq c1 c2 c3 hpl;go_wp2;rw[HWl.out];clear HWl;refine wp_region_held_drew (S:=fun w'=>w'.cell? (af wr.heap.size 2)=some (.slice (some (af gw 1)) (q+2) qc)/\w'.cell? (af gw 1)=some (.string (nth l 1))/\w'.cell? (af gw 2)=some (.string (nth l 2))/\(Instr.lookup 191 (.map (some bn)) (.string (nth l 1)) false).run Tryz.prog w'=.ok (.agg #[.bool b1,ab t1]) w'/\(Instr.lookup 191 (.map (some bn)) (.string (nth l 2)) false).run Tryz.prog w'=.ok (.agg #[.bool b2,ab t2]) w') y1Z ⟨d2,e1',e2',L1',L2'⟩ (fun hH=>?_);refine tB 0 hH ?_;refine tB 1 hH ?_;refine tB 2 hH ?_;refine tB 3 hH ?_;refine tB 4 hH ?_;refine tB 5 hH ?_;refine tB 6 hH ?_;refine tB 7 hH ?_;refine tB 8 hH ?_;refine tB 9 hH ?_;refine tB 10 hH ?_;refine tB 11 hH ?_;refine tB 12 hH ?_;refine tB 13 hH ?_;refine tB 14 hH ?_;refine tB 15 hH ?_;refine tL ?_
      refine wpAnyH_done y1Z ?_ _;clear hH L1' L2'
      by_cases h0:sv=0
      ·subst h0
       have s4':Wl.cell? (af (W.heap.size+t1) t2)=some (ab 0):=s4;clear s4
       go_wp2_with (go_at_call 98;refine(CC.out _ (bdr HBl.out)).mono ?_;rintro e w5 ⟨rfl,hb5⟩;have HB5:Hid (Below Wl.heap.size Wl w5):=hid (by have h:=hb5;exact(bdr (Below.refl _ _)).trans h);have s5':=(HB5.out.cell (p:=(af (W.heap.size+t1) t2)) (by exact World.block_lt_of_cell? _ _ s4')).trans s4';have fr5:w5.frozen? (af (W.heap.size+t1) t2)=false:=A3 ((HSl.out.below HB5.out (by omega)) t1 ht1);clear hb5)
       have hS5:=HSl.out.below HB5.out (by omega);have hnn:((nv.toNat:Nat):Int)=nv:=Int.toNat_of_nonneg (by omega);have HS':Hid (SwM (w5.setCell (af (W.heap.size+t1) t2) (ab nv)) W.heap.size nT (EO f (P.take (k+1)))):=hid (by
        have hv:EO f (P.take (k+1)) t1 t2=nv.toNat:=by
         rw[HNX.out t1 t2,if_pos ⟨HSV.out,rfl,HE.out.1,HE.out.2⟩];show(CV (nth l 3).data.toList).toNat=_;rw[HNV.out]
        have h1:=hS5.put (S':=EO f (P.take (k+1))) ht1 ht2 (fun i j hij=>by
         rw[HNX.out i j,if_neg];rintro⟨_,_,h3,h4⟩;have e1:=HE.out.1;have e2:=HE.out.2;simp only at h3 h4;exact hij ⟨by omega,by omega⟩)
        rw[hv,hnn]at h1;exact h1)
       have HBq':Hid (BtV (w5.setCell (af (W.heap.size+t1) t2) (ab nv)) B gb nT (D6 T (swV W.heap.size nT)) M (ae gt nT cT) vN pvN):=hid ((HBt.out.below HB5.out).setInt (hS5 t1 ht1) _);have HB':Hid (Below W.heap.size wo (w5.setCell (af (W.heap.size+t1) t2) (ab nv))):=hid ((((hb.out.trans (HBl.out.mono (by omega))).trans (HB5.out.mono (by omega)))).setCell (by show W.heap.size<=W.heap.size+t1;omega) _);clear hS5 hnn;exact Mz18
      ·have hz0:((sv:Int)==0)=false:=by simpa using (show ¬(sv:Int)=0 by omega)
       have HS':Hid (SwM Wl.drew W.heap.size nT (EO f (P.take (k+1)))):=hid (by
        have e:EO f (P.take (k+1))=EO f (P.take k):=by
         funext i j
         rw[HNX.out i j,if_neg];rintro⟨h1,_,h3,h4⟩;have e1:=HE.out.1;have e2:=HE.out.2;simp only at h3 h4;obtain rfl:i=t1:=by omega
         obtain rfl:j=t2:=by omega
         exact h0 (by rw[<-HSV.out];exact h1)
        rw[e];exact HSl.out.below (bdr (Below.refl Wl.heap.size Wl)) (by omega))
       have HBq':Hid (BtV Wl.drew B gb nT (D6 T (swV W.heap.size nT)) M (ae gt nT cT) vN pvN):=hid (HBt.out.below (bdr (Below.refl _ _)));have HB':Hid (Below W.heap.size wo Wl.drew):=hid (hb.out.trans ((bdr HBl.out).mono (by omega)));go_wp2;exact Mz18
     ·have hns:((sh:Int)==1)=false:=by simpa using (show ¬(sh:Int)=1 by omega)
      have HS':Hid (SwM (wr.alloc (.cells #[ab at_,ab sh,.slice (some (af gw 1)) (q+2) qc] 194)) W.heap.size nT (EO f (P.take (k+1)))):=hid (by
       have e:EO f (P.take (k+1))=EO f (P.take k):=by
        funext t u
        rw[HNX.out t u,if_neg (fun h=>hs1 h.2.1)]
       rw[e];exact hS.out.below (B:=wr.heap.size) (bal (Below.refl _ _)) (by omega))
      have HB':Hid (Below W.heap.size wo (wr.alloc (.cells #[ab at_,ab sh,.slice (some (af gw 1)) (q+2) qc] 194))):=hid (hb.out.alloc (by omega) _);have HBq':=hid (hBq.out.below (bal (o:=.cells #[ab at_,ab sh,.slice (some (af gw 1)) (q+2) qc] 194) (Below.refl wr.heap.size wr)));clear hS hb hus hBq;go_wp2;exact Mz18
    ·have e:k=n:=by omega
     subst e;rw[HN.out,List.take_length]at hS;go_wp2
     go_end0
     exact⟨rfl,hBq.out,by rw[<-HF.out];exact hS.out,hK.out.thenBelow hb.out⟩
end Go.Proofs.YtjjggdcnpndgjabGreatDoor
