import Derived.Test.YtjjggdcnpndgjaaGreatDoorHJ34
set_option linter.unusedSimpArgs false
set_option maxHeartbeats 8000000
set_option maxRecDepth 100000
namespace Go.Proofs.YtjjggdcnpndgjaaGreatDoor
open Go.RowKit Go.Shelf
variable {B Bn L1 gp sb wb:Nat}{E:List ze}{P:Program}{W w:World}{v:Value}
section
attribute [local go_sem] Oper.semAt_some
theorem Tryz.infoB310:(Tryz.prog.info? 310).map (λi=>(i.zero,i.size,i.bytes))=some (some (.slice none 0 0),1,24):=by kernel_rfl
theorem Tryz.infoC351:(Tryz.prog.info? 351).map (λi=>(i.zero,i.size,i.bytes))=some (some (.agg #[.slice none 0 0,.slice none 0 0]),2,48):=by kernel_rfl
theorem XN {F:Fence}{n:Nat}{c:Code}{Q:Exit->Act->World->Prop}{a:Act} (h:c.wpIn F n P (EX λa w=>Q .normal a w) a w):c.wpIn F n P Q a w:=
 wpIn_mono h λe a w h=>by cases e <;> first |exact h |exact h.elim
theorem WZ  (w:World) (t ty:TypeId) (base:Nat) (e:TypeId) (i:TypeInfo) (z:Value) (size bytes:Nat) (ht:P.underlying t=some (.slice e)) (hi:P.info? e=some i) (hz:i.zero=some z)
  (hsize:i.size=size) (hby:i.bytes=bytes) (hzs:z.cells.size=size) (hsz:0<size)
  (g0 n Sz:Nat) (xs:List Value) (hown:w.ownsRow base e size (ae g0 n Sz) n xs)
  (ad:Addr) (m c:Nat) (news:List Value) (hl:news.length=m*size) (hnews:∀j u,news[j]?=some u->w.cell? (ad.add j)=some u) (h1:∀u∈news,u.oneCell'=true)
  (hm:0<m) (h63:n+m<=maxLen) (hbytes:(n+m)*bytes<=140737488355328) (hbase:base<=w.heap.size) (H:Nat) (hH:w.heap.size=H):
  ∃g cap w',(Builtin.append_ #[t,t] ty #[ae g0 n Sz,.slice (some ad) m c]).run P w=.ok (ae g (n+m) cap) w'/\
   w'.ownsRow base e size (ae g (n+m) cap) (n+m) (xs++news)/\w.grownBy w' (some g0)/\(g0=g\/g=H)/\g<w'.heap.size/\∀j u,xs[j]?=some u->w'.cell? (af g0 j)=some u:=by
 obtain⟨g,cap,w',hr,h2,h3,h4,h5⟩:=run_append_lies (P:=P) w t ty base e i z size bytes ht hi hz hsize hby hzs hsz _ n xs hown ad m c news hl hnews h1 hm h63 hbytes hbase H hH;have h4':g0=g\/g=H:=h4.imp (λe=>by simpa[Value.ownBlock] using e) id;have hg0:g0<w.heap.size:=CJ hown rfl;have hat:∀j u,xs[j]?=some u->w.cell? (af g0 j)=some u:=λj u hj=>(qd hown j (by have:=(yS.1 hj).1;have:=hown.1;omega)).trans hj
 refine⟨g,cap,w',hr,h2,h3,h4',h5,λj u hj=>?_⟩
 by_cases hc:Sz<n+m
 ·have h6:=run_append_grow (P:=P) w t ty e i z ht hi hz (af g0 0) n Sz xs (by rw[hsize];exact hown.1) (λj v hv=>by rw[Addr.add_lit,jl];exact hat j v hv) ad m c news (by rw[hsize];exact hl) hnews hc (by unfold maxLen at h63;omega) (by rw[hby];exact growslice_fits hc hbytes)
  rw[hr]at h6;injection h6 with _ h7
  rw[h7];exact(((ah w.heap.size w.drew).alloc (yF _) _).cell (p:=(af g0 j)) (by exact hg0)).trans (hat j u hj)
 ·rcases hown.2 with⟨h0,_⟩ | ⟨g1,ajE,cur,hv,hb,hg,hle,hmx,aag,htk⟩
  ·cases h0
  ·injection hv with hv1 _ hv3
   injection hv1 with hv1
   injection hv1 with hv1
   subst hv1;subst hv3;have h6:=run_append_room (P:=P) w t ty e i ht hi g0 n Sz cur hg ad m c news (by rw[hsize];exact hl) hnews h1 (by omega) (by rw[hsize,hl,aag,<-Nat.add_mul];exact oh _ (by omega));rw[hr]at h6;injection h6 with h7 _
   injection h7 with h7
   injection h7 with h7
   injection h7 with h7
   subst h7;have hj':=(yS.1 hj).1;exact(qd h2 j (by have:=hown.1;have:n*size<=(n+m)*size:=oh _ (by omega);omega)).trans (by rw[aL hj'];exact hj)
theorem ZB {o:Oper}{a:Act}{K:Act->World->Prop}{Q:Exit->Act->World->Prop} (s x:Operand) (t:TypeId)
  (ho:o.op=.call {callee:=.builtin .append,args:= #[s,x],argTypes:= #[t,t]})
  (base:Nat) (e:TypeId) (i:TypeInfo) (z:Value) (size bytes:Nat) (ht:P.underlying t=some (.slice e)) (hi:P.info? e=some i) (hz:i.zero=some z)
  (hsize:i.size=size) (hby:i.bytes=bytes) (hzs:z.cells.size=size) (hsz:0<size)
  (g0 n Sz:Nat) (xs:List Value) (hs:a.eval s=ae g0 n Sz) (hown:w.ownsRow base e size (ae g0 n Sz) n xs)
  (ad:Addr) (m c:Nat) (news:List Value) (hx:a.eval x=.slice (some ad) m c) (hl:news.length=m*size) (hnews:∀j u,news[j]?=some u->w.cell? (ad.add j)=some u) (h1:∀u∈news,u.oneCell'=true)
  (hm:0<m) (h63:n+m<=maxLen) (hbytes:(n+m)*bytes<=140737488355328) (hbase:base<=w.heap.size) (H:Nat) (hH:w.heap.size=H)
  (h:∀g cap w',w'.ownsRow base e size (ae g (n+m) cap) (n+m) (xs++news)->w.grownBy w' (some g0)->(g0=g\/g=H)->g<w'.heap.size->(∀j u,xs[j]?=some u->w'.cell? (af g0 j)=some u)->K (a.put o.dst (ae g (n+m) cap)) w'):o.wp P a w K Q:=by
 obtain⟨g,cap,w',hr,h2,h3,h4,h5,h6⟩:=WZ (P:=P) w t o.type base e i z size bytes ht hi hz hsize hby hzs hsz g0 n Sz xs hown ad m c news hl hnews h1 hm h63 hbytes hbase H hH;unfold Oper.wp execOp;simp only[ho,resolve,invoke,builtin,Sem.run_bind,Sem.run_pure,Result.andThen_ok,List.map_toArray,jv,ur,hs,hx,hr];exact h g cap w' h2 h3 h4 h5 h6
theorem nF (w:World) (A B C D:Array Value) (tA tB tC tD:Nat)  (hW:(((w.alloc (.cells A tA)).alloc (.cells B tB)).alloc (.cells C tC)).alloc (.cells D tD)=W):
  W.heap[w.heap.size]?=some (.cells A tA (0,0))/\W.heap[w.heap.size+1]?=some (.cells B tB (0,0))/\W.heap[w.heap.size+2]?=some (.cells C tC (0,0))/\W.heap[w.heap.size+3]?=some (.cells D tD (0,0))/\Below w.heap.size w W/\W.heap.size=w.heap.size+4:=by
 subst hW;have h1:=ay w (.cells A tA);have h2:=ay (w.alloc (.cells A tA)) (.cells B tB);have h3:=ay ((w.alloc (.cells A tA)).alloc (.cells B tB)) (.cells C tC);have h4:=ay (((w.alloc (.cells A tA)).alloc (.cells B tB)).alloc (.cells C tC)) (.cells D tD);simp only[bg]at h2 h3 h4;refine⟨?_,?_,?_,?_,(((((ah _ w).alloc (yF _) _).alloc (by simp) _).alloc yM _).alloc yM _),by simp⟩
 ·exact(dm _ _ _ (by simp <;> omega)).trans ((dm _ _ _ (by simp <;> omega)).trans ((dm _ _ _ (by simp)).trans h1))
 ·exact(dm _ _ _ (by simp <;> omega)).trans ((dm _ _ _ (by simp)).trans h2)
 ·exact(dm _ _ _ (by simp)).trans h3
 ·exact h4
structure iX (w W:World) (T:zn) (row:List Nat) (rv vd:Value) (i:Nat):Prop where
 blk:W.heap[w.heap.size+2]?=some (.cells #[ac T.tb,rv,vd,.slice none 0 0,.slice none 0 0,.slice none 0 0] 306 (0,0))
 row:D7 W w.heap.size vd (De T.N row i)
 b0:W.heap[w.heap.size]?=some (.cells #[rv] 45 (0,0))
 b3:W.heap[w.heap.size+3]?=some (.cells #[ac (w.heap.size+2)] 270 (0,0))
 bel:Below w.heap.size w W
def JA (gp Bn L1:Nat) (A B:World):Prop:=B.heap[Bn]?=A.heap[Bn]?/\((∃C,A.heap[gp]?=some (.cells C 310 (0,0))/\C.size=L1)->∃C,B.heap[gp]?=some (.cells C 310 (0,0))/\C.size=L1)
def LY (gp Bn L1:Nat) (W:World):Prop:=W.cell? (af Bn 0)=some (ae gp L1 L1)/\∃C,W.heap[gp]?=some (.cells C 310 (0,0))/\C.size=L1
theorem JA.trans {A B C:World} (h:JA gp Bn L1 A B) (k:JA gp Bn L1 B C):JA gp Bn L1 A C:=⟨k.1.trans h.1,λx=>k.2 (h.2 x)⟩
theorem JA.put  (h1:gp<B) (h2:Bn<B) (W:World) (l:Nat) (o o':Obj) (hl:B<=l) (_:W.heap[l]?=some o) (_:o.isCells=false):JA gp Bn L1 W (W.putObj l o'):=
 ⟨rz (by omega),λ⟨C,h3,h4⟩=>⟨C,(rz (by omega)).trans h3,h4⟩⟩
theorem LY.next  (A B:World) (h:LY gp Bn L1 A) (k:JA gp Bn L1 A B):LY gp Bn L1 B:=⟨(jd k.1).trans h.1,k.2 h.2⟩
theorem LY.read  (W:World) (h:LY gp Bn L1 W):∃ad cap,W.cell? (af Bn 0)=some (.slice ad L1 cap)/\L1<=cap/\∀i,i<L1->∃g off a,ad=some (af g off)/\True/\W.cell? (af g (off+i))=some a:=by
 obtain⟨h1,C,h2,h3⟩:=h;exact⟨_,_,h1,yF _,λi hi=>⟨gp,0,C[i],rfl,trivial,by rw[jl];exact(A0 h2).trans (jt (by omega))⟩⟩
theorem kX {T:zn} (hI:T.In w) {row:List Nat}{rv:Value} (hrw:Cw w w.heap.size rv row) (hrl:∀x∈row,x<T.N.nT) (Gx:row.length<=100) (Fv:0< (BD T.N.rules).1.length):
  Calls Tryz.prog 144 #[ac T.tb,rv] w λe w'=>∃(Q:zu) (cn ct:Nat->Nat->Nat->Wt),e=.returned (ac Q.wb)/\Q.T=T/\Q.row=row/\Q.yQ=(BD T.N.rules).1/\Q.hds=M5 T.N.nN (BD T.N.rules).2/\Q.In w'/\M4 Q w' 0 cn ct/\Below w.heap.size w w':=by
 obtain⟨iI,Io,Ip,Iq,Ir⟩:=jc Tryz.infoX3;obtain⟨iP,hiP,aa8,aa9,aba⟩:=jc Tryz.infoC351;obtain⟨iR,Pv,Pw,Px,Py⟩:=jc Tryz.infoB310;obtain⟨d0,d1,_⟩:=hI.tv.Ar;have zW:=hI.bd;have Bk:T.tb<w.heap.size:=zW.tb;have Cj:=hI.fc.gr.Aj;have Ss:Hid (T.In w):=hid hI;have Yl:Hid (Cw w w.heap.size rv row):=hid hrw;have La:Hid (∀x∈row,x<T.N.nT):=hid hrl;obtain⟨L,hL⟩:=qF (row.length);have HL:=hid hL;obtain⟨aR,cR,Ai,Eb,hcs⟩:=hrw;have agI:L<=100:=by omega
 rw[<-hL]at Ai Eb hcs;have HRc:=hid hcs;subst Ai;clear hI hrl hL Gx hcs;refine(mq (n:=4)).1 ?_;refine qg Tryz.func144 rfl trivial ?_ rfl;simp only[Tryz.ntmps144,iz,lC,iw,Nat.reduceAdd,Nat.reduceSub,jg,jh,ju,jo,eu,ig]
 gi_wp2_with fail
 obtain⟨W1,hW1⟩:=qE ((((w.alloc (.cells #[.slice aR L cR] 45)).alloc (.cells #[ab 0] 3)).alloc (.cells #[ac T.tb,.slice aR L cR,ae (w.heap.size+1) 1 1,.slice none 0 0,.slice none 0 0,.slice none 0 0] 306)).alloc (.cells #[.pointer (some (af (w.heap.size+1+1) 0))] 270));rw[hW1];have Lt:Hid (iX w W1 T row (.slice aR L cR) (ae (w.heap.size+1) 1 1) 0):=hid (by
  obtain⟨z1,z2,z3,z4,z5,z6⟩:=nF w _ _ _ _ _ _ _ _ hW1;refine⟨z3,?_,z1,z4,z5⟩;have h1:=PL (w.alloc (.cells #[.slice aR L cR] 45)) #[ab 0] 1 1 3 w.heap.size (by simp) zX rfl;rw[bg]at h1;exact YJ h1 (z2.trans (by have:=ay (w.alloc (.cells #[.slice aR L cR] 45)) (.cells #[ab 0] 3);rw[bg]at this;exact this.symm)))
 clear hW1;have c0:W1.cell? (af w.heap.size 0)=some (.slice aR L cR):=(A0 Lt.out.b0).trans rfl
 gi_wp2
 clear c0
 gi_loopw [17] (λz wr=>∃(i:Nat) (vd:Value),i<=L/\z=ab i/\Hid (iX w wr T row (.slice aR L cR) vd i)) (λz _=>L - (intOf z).toNat)
 case atStart=>exact⟨0,_,bu _,rfl,Lt⟩
 case round=>
  clear Lt;obtain⟨i,vd,hi,rfl,hsv⟩:=hrel
  by_cases hlt:i<L
  ·obtain⟨x,hx⟩:∃x,row[i]?=some x:=⟨_,gE Zs⟩
   have Jm:x<T.N.nT:=La.out x (mG hx);obtain⟨g,off,rfl,Bf,Fj⟩:=HRc.out (by omega);have hbel:=hsv.out.bel;have cx:wr.cell? (af g (off+i))=some (ab x):=(hbel.cell (by exact Bf)).trans (Fj i x hx);have hld:0< (De T.N row i).length:=by rw[MP];omega
   obtain⟨gd,cd,rfl,_⟩:=AX hsv.out.row hld;have hN:=Ss.out.fc.gr.ok;have hdi:AU T.N (row.take i)<=9900:=JO hN La.out (by rw[<-HL.out];exact agI) i;have hdr:=hN.abY x Jm;have hnx:=U5 (N:=T.N) hx;have cd0:=D7.at (l:=De T.N row i) hsv.out.row (bC (yF i));obtain⟨gT,gs,cs,Gm,agJ,cdr,_⟩:=Ss.out.fc.gr.Wc x Jm;have agJ:gT<w.heap.size:=by have:=zW.n0;omega
   have cdr:=(hbel.cell (p:=(af gT (x*4+2))) (by exact agJ)).trans cdr;have Sw:=(hbel.cell (p:=(af T.tb 0)) (by exact Bk)).trans d0;rw[Gm]at Sw;have cb3:wr.cell? (af (w.heap.size+3) 0)=some (ac (w.heap.size+2)):=(A0 hsv.out.b3).trans rfl;have cw0:wr.cell? (af (w.heap.size+2) 0)=some (ac T.tb):=(A0 hsv.out.blk).trans rfl;have cw2:wr.cell? (af (w.heap.size+2) 2)=some (ae gd (De T.N row i).length cd):=(A0 hsv.out.blk).trans rfl;have hrow:wr.ownsRow w.heap.size 3 1 (ae gd (De T.N row i).length cd) (De T.N row i).length (D8 (De T.N row i)):=hsv.out.row;have og3:some (w.heap.size+3)≠(ae gd (De T.N row i).length cd).ownBlock:=λe=>A5 hrow hsv.out.b3 (by decide) e.symm
   have og2:some (w.heap.size+2)≠(ae gd (De T.N row i).length cd).ownBlock:=λe=>A5 hrow hsv.out.blk (by decide) e.symm
   have Qz:some T.tb≠(ae gd (De T.N row i).length cd).ownBlock:=λe=>by have:=(hrow.lt _ e.symm).1;omega
   have ogt:some gT≠(ae gd (De T.N row i).length cd).ownBlock:=λe=>by have:=(hrow.lt _ e.symm).1;omega
   obtain⟨kd,hkd⟩:=qF ((De T.N row i).length);rw[<-hkd]at cw2 hrow og3 og2 Qz ogt;have alG:i<kd:=by rw[hkd,MP];omega
   have alH:kd<=101:=by rw[hkd,MP];omega
   have alI:((i:Int)< (kd:Int)):=by omega
   have HKd:=hid hkd;obtain⟨d,hd⟩:=qE (AU T.N (row.take i));have ajF:Hid ((De T.N row i)[i]?=some d):=hid (by rw[<-hd];exact bC (yF i));obtain⟨dr,hdr'⟩:=qE (T.N.drop x);obtain⟨nT,zo⟩:=qF (T.N.nT);have HNx:Hid (De T.N row (i+1)=De T.N row i++ [d+dr]):=hid (by rw[qV,hnx,hd,hdr']);rw[hd]at cd0 hdi;rw[hdr']at cdr hdr;rw[<-zo]at Sw Jm Cj;have hs:=hsv.out.bel.size;have aej:w.heap.size+3<wr.heap.size:=ak hsv.out.b3;have hdw:IntKind.i64.wrap ((d:Int)+(dr:Int))=(d:Int)+(dr:Int):=by rw[Cy];omega
   have Da:=hid hrow;have En:=hid hsv.out;have hxi:((x:Int)< (nT:Int)):=by omega
   clear hsv hrow hx Fj hbel hld hN hnx Gm hd hdr' zo hkd d0
   gi_wp2
   refine XN ((xe (n:=4)).2 ?_);refine AE (λw'=>w'.cell? (af (w.heap.size+3) 0)=some (ac (w.heap.size+2))/\w'.cell? (af (w.heap.size+2) 0)=some (ac T.tb)/\w'.cell? (af (w.heap.size+2) 2)=some (ae gd kd cd)/\w'.cell? (af gd i)=some (ab d)/\w'.cell? (af T.tb 0)=some (ae gT nT T.yl)/\w'.cell? (af gT (x*4+2))=some (ab dr)) hmx yg ⟨cb3,cw0,cw2,cd0,Sw,cdr⟩ (λhH=>?_);simp only[AB,BM,AO];refine tB 0 hH ?_;refine tL ?_;refine tB 1 hH ?_;refine tL ?_;refine tB 2 hH ?_;refine tL ?_;refine tB 3 hH ?_;refine tL ?_;refine tB 4 hH ?_;refine tL ?_;refine tB 5 hH ?_;refine tL ?_;refine tB 6 hH ?_;refine tL ?_;refine tB 7 hH ?_;refine tL ?_;refine tB 8 hH ?_;refine tL ?_;refine tB 9 hH ?_;refine tL ?_;refine tB 10 hH ?_;refine tL ?_;refine tB 11 hH ?_;refine tL ?_;refine tB 12 hH ?_;refine tL ?_;refine tB 13 hH ?_;refine tL ?_;refine tB 14 hH ?_;refine tL ?_;refine tB 15 hH ?_;refine tL ?_
   refine tB 16 hH ?_;refine tL ?_;refine tB 17 hH ?_;refine tL ?_;refine tB 18 hH ?_;refine tL ?_;refine tB 19 hH ?_;refine tL ?_;refine tB 20 hH ?_;refine tL ?_;refine tB 21 hH ?_;refine tL ?_;refine tB 22 hH ?_;refine tL ?_;refine tB 23 hH ?_;refine tL ?_;refine tB 24 hH ?_;refine tL ?_;refine tB 25 hH ?_;refine tL ?_;refine tS 26 λK hK=>?_
   refine tM ?_;go_simp;refine hK.out _ _ ?_ λhH=>?_
   ·exact⟨A2 _ hH.1,A2 _ hH.2.1,A2 _ hH.2.2.1,A2 _ hH.2.2.2.1,A2 _ hH.2.2.2.2.1,A2 _ hH.2.2.2.2.2⟩
   clear hK K;refine tL ?_;refine tS 27 λK hK=>?_
   refine tM ?_;rw[aq (by rfl)];refine ZB (.tmp 26) (.tmp 48) 45 rfl w.heap.size 3 iI (ab 0) 1 8 Tryz.underlying45 Io Ip Iq Ir rfl (by decide) gd kd cd _ rfl (Da.out.alloc _) (af wr.heap.size 0) 1 1 [ab (d+dr:Nat)] rfl rfl (dh (fr:=(0,0)) (dw wr _)) Fb (by omega) zX (by omega) yM _ rfl ?_;intro g2 cap2 w7 hown hgrow hat Bv hold;refine hK.out _ _ ?_ λhH=>?_
   ·exact⟨(hgrow.cell_far _ yM (by exact og3)).trans hH.1,(hgrow.cell_far _ yM (by exact og2)).trans hH.2.1,(hgrow.cell_far _ yM (by exact og2)).trans hH.2.2.1,hold i _ (MJ (ajF.out)),(hgrow.cell_far _ yM Na).trans hH.2.2.2.2.1,(hgrow.cell_far _ yM (by exact ogt)).trans hH.2.2.2.2.2⟩
   clear hK K;refine tL ?_;refine tB 28 hH ?_;refine tL ?_;refine tB 29 hH ?_;refine tL ?_;refine tB 30 hH ?_;refine tL ?_;refine bk yg ?_ _;clear hH;have hkeep:=EN (Wa:=(wr.alloc (.cells #[ab (d+dr:Nat)] 3)).drew) (j:=2) ((A1.refl wr []).alloc _).drew En.out.blk (by decide) Da.out hown hgrow;obtain⟨z1,z2,z3,z4⟩:=hkeep;have zc:w7.cell? (af (w.heap.size+2) 2)=some (ae gd kd cd):=by rw[HKd.out];exact(A0 z1).trans rfl
   have zf:=A3 (j:=2) z1;have HZ:=hid (And.intro z2 (And.intro z3 z4));clear z1 z2 z3 z4 hown hgrow hat Bv hold cb3 cw0 cw2 cd0 Sw cdr;show wpList _ _ _ _ _ _;go_wp2;obtain⟨W5,Dc⟩:=qE (w7.setCell (af (w.heap.size+2) 2) (ae g2 (kd+1) cap2));rw[Dc]at HZ ⊢;clear Dc zc zf;have Si:Hid (iX w W5 T row (.slice (some (af g off)) L cR) (ae g2 (kd+1) cap2) (i+1)):=hid (by
    obtain⟨z2,z3,z4⟩:=HZ.out;have hS:∀q∈(w.heap.size+2)::(ae gd kd cd).ownBlock.toList,q=w.heap.size+2\/q=gd:=λq hq=>by simpa[Value.ownBlock] using hq
    have hgd:=(Da.out.lt gd rfl).1;refine⟨z2,?_,(z4.block _ (by omega) (λhm=>?_)).trans En.out.b0,(z4.block _ aej (λhm=>?_)).trans En.out.b3,En.out.bel.trans (z4.below (by omega) (λq hq=>?_))⟩
    ·unfold D7
     rw[HNx.out,lA,GK,<-HKd.out];exact z3
    ·rcases hS _ hm with e |e
     ·omega
     ·exact A5 Da.out En.out.b0 (by decide) aab
    ·rcases hS _ hm with e |e
     ·omega
     ·exact A5 Da.out En.out.b3 (by decide) aab
    ·rcases hS _ hq with e |e <;> omega)
   refine FA (Q:=λ_ _ _=>False) ?_
   gi_wp2
   go_roundw
   case rel=>exact⟨i+1,_,by omega,by go_num,Si⟩
   case measure=>simp[intOf];omega
  ·have En:Hid (iX w wr T row (.slice aR L cR) vd L):=hid (by have h:=hsv.out;rwa [show i=L by omega]at h)
   clear hsv;have hbel:=En.out.bel;have aej:w.heap.size+3<wr.heap.size:=ak En.out.b3;have hIr:=Ss.out.below zW hbel;have acD:T.Bd (w.heap.size+2):=⟨y5 zW.n0 (by omega),lL zW.tb (by omega),lL zW.kb (by omega)⟩;have acA:Hid (Calls Tryz.prog 188 #[ac (w.heap.size+2)] wr λe w'=>e=.returned (.tuple #[])/\∃gh vT hv,GS w' wr.heap.size (w.heap.size+2) gh (ac T.tb) (.slice aR L cR) vd T.N.nN vT hv (BD T.N.rules).1 (BD T.N.rules).2/\A1 wr w' [w.heap.size+2]):=hid (bI hIr En.out.blk acD);have cb3:wr.cell? (af (w.heap.size+3) 0)=some (ac (w.heap.size+2)):=(A0 En.out.b3).trans rfl;clear hIr hbel
   gi_wp2_with (refine⟨trivial,?_⟩;gi_at_call 188;refine((mq (n:=3)).2 acA.out).mono ?_;rintro e W6 ⟨rfl,gh,vT,hv,hcv,Bc⟩;have H6:=hid (And.intro hcv Bc);clear hcv Bc)
   have Uf:=H6.out.2.size;have e3:W6.heap[w.heap.size+3]?=some (.cells #[ac (w.heap.size+2)] 270 (0,0)):=(H6.out.2.block _ aej (by simp)).trans En.out.b3;have e0:W6.heap[w.heap.size]?=some (.cells #[.slice aR L cR] 45 (0,0)):=(H6.out.2.block _ (by omega) (by simp)).trans En.out.b0;have f3:W6.cell? (af (w.heap.size+3) 0)=some (ac (w.heap.size+2)):=(A0 e3).trans rfl;have f0:W6.cell? (af w.heap.size 0)=some (.slice aR L cR):=(A0 e0).trans rfl;have f5:W6.cell? (af (w.heap.size+2) 5)=some (.slice none 0 0):=(A0 H6.out.1.blk).trans rfl;clear cb3 acA;refine XN ((xe (n:=4)).2 ?_);obtain⟨L1,Cb⟩:=qF (L+1);have hLi:IntKind.i64.wrap ((L:Int)+1)=(L1:Int):=by rw[Cy];omega
   have alJ:L1<=101:=by omega
   have Xa:=hid Cb;clear Cb;refine AE (λw'=>w'.cell? (af (w.heap.size+3) 0)=some (ac (w.heap.size+2))/\w'.cell? (af w.heap.size 0)=some (.slice aR L cR)) hmx yg ⟨f3,f0⟩ (λhH=>?_);simp only[AB,BM,AO];refine tB 0 hH ?_;refine tL ?_;refine tB 1 hH ?_;refine tL ?_;refine tB 2 hH ?_;refine tL ?_;refine tB 3 hH ?_;refine tL ?_;refine tS 4 λK hK=>?_
   refine tM ?_;rw[aq (by rfl)];refine G7 _ (.tmp 58) (.tmp 58) 304 rfl 310 iR (.slice none 0 0) Tryz.underlying304 Pv Pw L1 rfl rfl (by rw[Py];omega) (by omega) ?_;rw[Px];refine hK.out _ _ ?_ λhH=>?_
   ·exact⟨A2 _ hH.1,A2 _ hH.2⟩
   clear hK K;refine tL ?_;refine tB 5 hH ?_;refine tL ?_;refine tB 6 hH ?_;refine tL ?_;refine tB 7 hH ?_;refine tL ?_;refine bk yg ?_ _;clear hH hLi;have hmk:W6.drew.alloc (.cells (madeCells (Value.slice none 0 0).cells (L1*1)) 310)=(W6.alloc (.cells (madeCells #[.slice none 0 0] L1) 310)).drew:=by rw[Nat.mul_one];rfl
   rw[hmk];clear hmk;obtain⟨W7,Ym⟩:=qE ((W6.alloc (.cells (madeCells #[.slice none 0 0] L1) 310)).drew);have Bo:A1 W6 W7 []:=by rw[<-Ym];exact((A1.refl W6 []).alloc _).drew
   have hg7:W7.heap[W6.heap.size]?=some (.cells (madeCells #[.slice none 0 0] L1) 310 (0,0)):=by rw[<-Ym];exact ay W6 _
   have hs7:W6.heap.size<W7.heap.size:=ak hg7;rw[Ym];have Cm:=(Bo.block (w.heap.size+2) (by omega) (by simp)).trans H6.out.1.blk;have f5':W7.cell? (af (w.heap.size+2) 5)=some (.slice none 0 0):=(A0 Cm).trans rfl;have z5':W7.frozen? (af (w.heap.size+2) 5)=false:=A3 Cm;have HX:=hid (And.intro Bo (And.intro hg7 Cm));clear Ym Bo hg7 Cm f5 f3 f0;show wpList _ _ _ _ _ _;go_wp2;obtain⟨W8,Mm⟩:=qE (W7.setCell (af (w.heap.size+2) 5) (ae W6.heap.size L1 L1));have Ff:A1 W7 W8 [w.heap.size+2]:=by rw[<-Mm];exact(A1.refl W7 [w.heap.size+2]).setCell (by simp) _
   have Be:W8.heap[w.heap.size+2]?=some (.cells #[ac T.tb,.slice aR L cR,vd,vT,ae gh T.N.nN T.N.nN,ae W6.heap.size L1 L1] 306 (0,0)):=by rw[<-Mm];exact A6 (j:=5) HX.out.2.2 _
   rw[Mm];clear Mm f5' z5';have acE:A1 W6 W8 [w.heap.size+2]:=(HX.out.1.mono (λq h=>by cases h)).trans Ff;have hs8:=Ff.size;have hg8:W8.heap[W6.heap.size]?=some (.cells (madeCells #[.slice none 0 0] L1) 310 (0,0)):=(Ff.block _ hs7 yM).trans HX.out.2.1;have aek:Below w.heap.size w W6:=En.out.bel.trans (H6.out.2.below (by omega) (λq hq=>by rw[mS.1 hq];omega));have hI6:=Ss.out.below zW aek;have hQ8:∃Q:zu,Q.T=T/\Q.wb=w.heap.size+2/\Q.row=row/\Q.yQ=(BD T.N.rules).1/\Q.hds=M5 T.N.nN (BD T.N.rules).2/\Q.gp=W6.heap.size/\Q.In W8:=by
    obtain⟨gd,cd,gt,ct,h⟩:=wK (row:=row) (gp:=W6.heap.size) (Br:=w.heap.size) hI6 acD (by omega) H6.out.1
     (A7 En.out.row H6.out.2 (λg hg hm=>A5 En.out.row En.out.blk (by decide) (by rw[hg,mS.1 hm])) |> (λh=>by rw[<-HL.out];exact h))
     ((Yl.out.below aek).mono (by omega)) acE (yF _) (by omega) Fv (by rw[<-HL.out,<-Xa.out];exact Be) La.out (by rw[<-HL.out];exact agI)
    exact⟨_,rfl,rfl,rfl,rfl,rfl,rfl,h⟩
   have e38:W8.heap[w.heap.size+3]?=some (.cells #[ac (w.heap.size+2)] 270 (0,0)):=(acE.block _ (by omega) (by simp)).trans e3;have e08:W8.heap[w.heap.size]?=some (.cells #[.slice aR L cR] 45 (0,0)):=(acE.block _ (by omega) (by simp)).trans e0;have agK:Below w.heap.size w W8:=aek.trans (acE.below (by omega) (λq hq=>by rw[mS.1 hq];omega));obtain⟨Q,hQT,hQb,Dx,hQt,hQh,hQg,hQ⟩:=hQ8;refine FA (Q:=λ_ _ _=>False) ?_;have Yk:W8.cell? (af (w.heap.size+3) 0)=some (ac (w.heap.size+2)):=(A0 e38).trans rfl;have c58:W8.cell? (af (w.heap.size+2) 5)=some (ae W6.heap.size L1 L1):=(A0 Be).trans rfl;have hQL:Q.row.length+1=L1:=by rw[Dx,Xa.out,HL.out]
   have HQ8:Hid (Q.In W8):=hid hQ;have HQe:Hid (Q.T=T/\Q.wb=w.heap.size+2/\Q.row=row/\Q.yQ=(BD T.N.rules).1/\Q.hds=M5 T.N.nN (BD T.N.rules).2/\Q.gp=W6.heap.size):=hid ⟨hQT,hQb,Dx,hQt,hQh,hQg⟩;have Oh:=hid hQL;have Xe:Hid (W8.heap[w.heap.size+2]?=_):=hid Be;have ajG:=hid agK;clear hQT hQb Dx hQt hQh hQg hQ hQL Be agK
   gi_wp2_with (refine⟨trivial,?_⟩;gi_at_call 189;refine(rW Fence.wide 3 trivial rfl _ _ _ _).mono ?_;rintro e W9' ⟨rfl,rfl⟩)
   obtain⟨W9,Mo⟩:=qE (W8.alloc (.cells #[ae W6.heap.size L1 L1] 304));have Cu:A1 W8 W9 []:=by rw[<-Mo];exact(A1.refl W8 []).alloc _
   have Yn:W9.heap[W8.heap.size]?=some (.cells #[ae W6.heap.size L1 L1] 304 (0,0)):=by rw[<-Mo];exact ay W8 _
   have hs9:W8.heap.size<W9.heap.size:=ak Yn;have hg9:=(Cu.block W6.heap.size (by omega) (by simp)).trans hg8;rw[Mo];clear Mo Yk c58;refine WP (F:=Fence.wide) rfl (by omega) (gf:=215) (lb:= #[ac W8.heap.size]) rfl trivial (qo Tryz.func215 yg rfl)
    (enc:=NY (L:=L1) (P:=λ_ _=>True)) (λ_=>rfl) (Ord:=λpre=>TJ L1 (pre.map (·.1.1))) (S:=λys=>ys.map (·.1.1)=(List.range L1).reverse) (K:=JA W6.heap.size W8.heap.size L1)
    (λl J W hb hY h0=>oP 3 (by omega) l W8.heap.size L1 (by omega) (λ_ _=>True) (JA W6.heap.size W8.heap.size L1) (LY W6.heap.size W8.heap.size L1) LY.next LY.read J W hY ⟨(hb.cell (p:=(af W8.heap.size 0)) (by exact hs9)).trans ((A0 Yn).trans rfl),_,(hb.block _ (by omega)).trans hg9,by simp[vu]⟩ h0)
    JA.trans (JA.put (by omega) (by omega))
    (fun(pre:List (BX L1 (λ_ _=>True))) W=>∃cn ct,M4 Q W (L1 - pre.length) cn ct/\(∃C,W.heap[W6.heap.size]?=some (.cells C 310 (0,0))/\C.size=L1)/\Below W6.heap.size W8 W/\W9.heap.size<=W.heap.size) ?own ?h0 ?a1 ?assign ?body ?done
   case assign=>
    intro l x W' R hR;simp only[NY]
    gi_wp2
    exact hR
   case own=>
    rintro pre A C row ⟨cn,ct,h1,⟨C1,h2,h2'⟩,h3,h4⟩ hg hr;have hk:A1 A C row.toList:=(A1.refl A row.toList).grown hg (λq e=>.inl Ld);exact⟨cn,ct,h1.step hg (λr e=>(hr r e).2),⟨C1,FT h2 hg (λr e=>(hr r e).2),h2'⟩,h3.grown hg (by omega) (λq e=>by have:=(hr q e).1;omega),y5 h4 hg.size⟩
   case h0=>
    refine⟨λ_ _ _=>(AC,0),λ_ _ _=>(AC,0),⟨λa b h1 h2 h3=>?_,λa b h1 h2 h3=>?_,λ_ _ _=>⟨yF _,bu _⟩,λ_ _ _=>⟨yF _,bu _⟩⟩,⟨_,hg9,by simp[vu]⟩,Cu.below (by omega) (λq h=>by cases h),yF _⟩
    ·have:=Oh.out;simp at h1;omega
    ·have:=Oh.out;simp at h1;omega
   case done=>
    rintro D ys W hDs hys ⟨cn,ct,hp,_,hbl,hsz⟩ hD;have hlen:L1 - ys.length=0:=by have h:=congrArg List.length hys;simp at h;omega
    rw[hlen]at hp;have k3:W.cell? (af (w.heap.size+3) 0)=some (ac (w.heap.size+2)):=(hbl.cell acT).trans ((A0 e38).trans rfl);have HP:=hid hp;have Db:=hid hbl;have HD:=hid hD;clear hp hbl hlen hys hD
    gi_wp2
    refine⟨by simp,.inl ⟨_,_,rfl,uo HD.out,?_⟩⟩;have hkp:Below W9.heap.size W (W.putObj D (.deferred none)):=(ah _ W).grown (qa _ D (.deferred none)) (by omega) (λk e=>by cases e;omega);obtain⟨q1,q2,q3,q4,q5,q6⟩:=HQe.out;refine⟨_,yE rfl _ _ _,Q,cn,ct,by rw[q2];rfl,q1,q3,q4,q5,HQ8.out.below (by rw[q6];exact Db.out.trans (hkp.mono (by omega))),HP.out.step (qa _ D (.deferred none)) (λr e=>by cases e;exact⟨_,HD.out,rfl⟩),ajG.out.trans ((Db.out.mono (by omega)).trans (hkp.mono (by omega)))⟩
   case body=>
    rintro l pre ⟨⟨s,v⟩,hx⟩ W ⟨cn,ct,hp,⟨C,hC,hCs⟩,hbl,hsz⟩ abr;rw[ew]at abr;obtain⟨_,h6⟩:=TJ.snoc abr;rw[lM]at h6;have h6:pre.length+s+1=L1:=h6;have hp:M4 Q W (s+1) cn ct:=by rw[show L1 - pre.length=s+1 by omega]at hp;exact hp
    have hsL:s<L1:=by omega
    have hsi:((s:Int)< (L1:Int)):=by omega
    have k3:W.cell? (af (w.heap.size+3) 0)=some (ac (w.heap.size+2)):=(hbl.cell acT).trans ((A0 e38).trans rfl);have k0:W.cell? (af w.heap.size 0)=some (.slice aR L cR):=(hbl.cell (by show w.heap.size<W6.heap.size;omega)).trans ((A0 e08).trans rfl);have k5:W.cell? (af (w.heap.size+2) 5)=some (ae W6.heap.size L1 L1):=(hbl.cell (by show w.heap.size+2<W6.heap.size;omega)).trans ((A0 Xe.out).trans rfl);have hLw:IntKind.i64.wrap ((L:Int)+1)=(L1:Int):=by have:=Xa.out;rw[Cy];omega
    have Bh:Hid (pre.length+s+1=L1):=hid h6;have HP:=hid hp;have Yo:=hid (And.intro hC hCs);have Db:=hid hbl;clear abr h6 hp hC hCs hbl
    gi_wp2
    refine BZ (λw'=>w'.cell? (af (w.heap.size+3) 0)=some (ac (w.heap.size+2))/\w'.cell? (af (w.heap.size+2) 5)=some (ae W6.heap.size L1 L1)/\w'.cell? (af w.heap.size 0)=some (.slice aR L cR)) hmx yg Ka yg ⟨k3,k5,k0⟩ (λhH=>?_);simp only[AB,BM,AO];refine tB 0 hH ?_;refine tL ?_;refine tB 1 hH ?_;refine tL ?_;refine tB 2 hH ?_;refine tL ?_;refine tB 3 hH ?_;refine tL ?_;refine tB 4 hH ?_;refine tL ?_;refine tB 5 hH ?_;refine tL ?_;refine tB 6 hH ?_;refine tL ?_;refine tB 7 hH ?_;refine tL ?_;refine tS 8 λK hK=>?_
    refine tM ?_;rw[aq (by rfl)];refine G7 _ (.tmp 76) (.tmp 76) 310 rfl 351 iP (.agg #[.slice none 0 0,.slice none 0 0]) Tryz.underlying310 hiP aa8 L1 rfl rfl (by rw[aba];omega) (by omega) ?_;rw[aa9];refine hK.out _ _ ?_ λhH=>?_
    ·exact⟨A2 _ hH.1,A2 _ hH.2.1,A2 _ hH.2.2⟩
    clear hK K;refine tL ?_;refine tB 9 hH ?_;refine tL ?_;refine tB 10 hH ?_;refine tL ?_;refine bk yg ?_ _;clear hH hLw;have hmk:W.drew.alloc (.cells (madeCells (Value.agg #[.slice none 0 0,.slice none 0 0]).cells (L1*2)) 351)=(W.alloc (.cells (madeCells #[.slice none 0 0,.slice none 0 0] (L1*2)) 351)).drew:=rfl;rw[hmk];clear hmk;obtain⟨WA,hWA⟩:=qE ((W.alloc (.cells (madeCells #[.slice none 0 0,.slice none 0 0] (L1*2)) 351)).drew);have hkA:A1 W WA []:=by rw[<-hWA];exact((A1.refl W []).alloc _).drew
    have hiA:WA.heap[W.heap.size]?=some (.cells (madeCells #[.slice none 0 0,.slice none 0 0] (L1*2)) 351 (0,0)):=by rw[<-hWA];exact ay W _
    have hsA:W.heap.size<WA.heap.size:=ak hiA;have hgA:WA.heap[W6.heap.size]?=some (.cells C 310 (0,0)):=(hkA.block _ (by omega) (by simp)).trans Yo.out.1;rw[hWA];have agL:s<C.size:=by have:=Yo.out.2;omega
    obtain⟨vs,hvs⟩:∃z,C[s]?=some z:=⟨C[s],jt agL⟩;have kgs:WA.cell? (af W6.heap.size s)=some vs:=(A0 hgA).trans hvs;have kfs:WA.frozen? (af W6.heap.size s)=false:=A3 hgA;have Ru:=hid (And.intro hkA (And.intro hiA hgA));clear hWA hkA hiA hgA k3 k0 k5 hvs agL;show wpList _ _ _ _ _ _;go_wp2;obtain⟨Uy,acF⟩:=qE (WA.setCell (af W6.heap.size s) (ae W.heap.size L1 L1));have hk1:A1 WA Uy [W6.heap.size]:=by rw[<-acF];exact(A1.refl WA _).setCell (by simp) _
    have Av:Uy.heap[W6.heap.size]?=some (.cells (C.setIfInBounds s (ae W.heap.size L1 L1)) 310 (0,0)):=by rw[<-acF];exact A6 (j:=s) Ru.out.2.2 _
    rw[acF];clear acF kgs kfs;have hi1:=(hk1.block W.heap.size hsA yM).trans Ru.out.2.1;have Pn:A1 W Uy [W6.heap.size]:=(Ru.out.1.mono (λq h=>by cases h)).trans hk1;have hs1:=hk1.size;have Ck:Hid (RC Q Uy W.heap.size s s cn ct):=hid (by
     have e:=HQe.out.2.2.2.2.2;refine HP.out.row (by rw[e];exact Pn) (by rw[e];omega) rfl (by omega) ?_ (λj hj=>?_) ⟨_,hi1,by rw[Oh.out];simp[vu]⟩
     ·rw[e,Oh.out,A0 Av,qm,aq rfl,aq (by rw[Yo.out.2];exact hsL)]
     ·rw[e,A0 Av,A0 Yo.out.1,dz (xP hj)])
    have Aa:Hid (A1 W Uy [W6.heap.size]):=hid Pn;have HG1:Hid (Uy.heap[W6.heap.size]?=_):=hid Av;have HI1:Hid (Uy.heap[W.heap.size]?=_):=hid hi1;clear hi1 Pn hk1 Av
    gi_wp2
    gi_loopw [9] (λz wn=>∃(k:Nat) (cn ct:Nat->Nat->Nat->Wt),s<=k/\k<=L1/\z=ab k/\Hid (RC Q wn W.heap.size s k cn ct)/\Hid (A1 Uy wn [W.heap.size])) (λz _=>L1 - (intOf z).toNat)
    case atStart=>exact⟨s,cn,ct,yF _,by omega,rfl,Ck,hid (A1.refl _ _)⟩
    case round=>
     obtain⟨k,cn',ct',hsk,hkL,rfl,hrw,y7⟩:=hrel;have zY:Below W6.heap.size W8 wr:=Db.out.trans ((Aa.out.below (by omega) (λq hq=>by rw[mS.1 hq];exact yF _)).trans (y7.out.below (by omega) (λq hq=>by rw[mS.1 hq];omega)));have k3:wr.cell? (af (w.heap.size+3) 0)=some (ac (w.heap.size+2)):=(zY.cell acT).trans ((A0 e38).trans rfl);have k0:wr.cell? (af w.heap.size 0)=some (.slice aR L cR):=(zY.cell (by show w.heap.size<W6.heap.size;omega)).trans ((A0 e08).trans rfl);have hLL:L1=L+1:=Xa.out
     by_cases hlk:k<=L
     ·have hli:((k:Int)<=(L:Int)):=by omega
      obtain⟨Cg,hCg,ael⟩:=hrw.out.blk;have HWp:Hid (Calls Tryz.prog 190 #[ac (w.heap.size+2),ab s,ab k] wr λe w'=>e=.returned (.tuple #[])/\∃(nm ta:Nat->Wt) (C':Array Value),Qq Q w' W.heap.size s (k+1) (AK cn' s k nm) (AK ct' s k ta)/\FX nm/\FX ta/\EH Q.T.N (BJ Q.yQ) (FJ Q.hds) Q.row (AK cn' s k nm) (AK ct' s k ta) s k/\A1 wr w' [W.heap.size]/\w'.heap[W.heap.size]?=some (.cells C' 351 (0,0))/\C'.size=Cg.size):=hid (by
       obtain⟨q1,q2,q3,q4,q5,q6⟩:=HQe.out;have hQn:Q.In wr:=HQ8.out.below (by rw[q6];exact zY);have h:=WS hQn (by rw[q4];exact(PP T.N.rules).ok) hrw.out.kn hrw.out.sn hrw.out.st hsk (by have:=Oh.out;omega) (by rw[q4];exact Fv) hCg ael;rw[q2]at h;exact h)
      have ajH:Hid (Cg.size=(Q.row.length+1)*2):=hid ael;have hkk:k+1<=L1:=by omega
      clear zY hCg ael hLL
      gi_wp2_with (refine⟨trivial,?_⟩;gi_at_call 190;refine(ym l ((mq (n:=1)).2 HWp.out)).mono ?_;rintro e W2 ⟨rfl,nm,ta,C',g1,g2,g3,g4,g5,g6,g7⟩;have H2:=hid (And.intro (hrw.out.next g1 g2 g3 g4 g5 ⟨C',g6,g7.trans ajH.out⟩) g5);clear g1 g2 g3 g4 g5 g6 g7)
      gi_wp2
      go_roundw
      case rel=>exact⟨_,_,_,_,_,_,_,_,_,_,_,⟨k+1,_,_,by omega,by omega,by go_num,hid H2.out.1,hid (y7.out.trans H2.out.2)⟩,rfl⟩
      case measure=>
       show L1 - (intOf (ab ((k:Int)+1))).toNat<L1 - (intOf (ab (k:Int))).toNat;simp[intOf];omega
     ·have hli:¬((k:Int)<=(L:Int)):=by omega
      have Gy:k=L1:=by omega
      have HD:Hid (M4 Q wr s cn' ct'):=hid (by
       have h:=hrw.out;rw[Gy,<-Oh.out]at h;exact h.done)
      clear hrw Gy hLL
      gi_wp2
      have hs2:=y7.out.size;have hg2:wr.heap[W6.heap.size]?=some (.cells (C.setIfInBounds s (ae W.heap.size L1 L1)) 310 (0,0)):=(y7.out.block _ (by omega) yM).trans HG1.out;refine⟨(G6 Aa.out (λq hq=>?_)).trans (G6 y7.out (λq hq=>?_)),⟨?_,λ_=>⟨_,hg2,by simpa using Yo.out.2⟩⟩,?_⟩
      ·rw[mS.1 hq];exact⟨_,_,_,Yo.out.1⟩
      ·rw[mS.1 hq];exact⟨_,_,_,HI1.out⟩
      ·exact(y7.out.block _ (by omega) yM).trans (Aa.out.block _ (by omega) yM)
      ·have e:L1 - (pre++ [(⟨(s,v),hx⟩:BX L1 (λ_ _=>True))]).length=s:=by have:=Bh.out;simp;omega
       exact⟨⟨cn',ct',by rw[e];exact HD.out⟩,⟨_,hg2,by simpa using Yo.out.2⟩,zY,by omega⟩
end
theorem Tryz.infoB201:(Tryz.prog.info? 201).map (λi=>(i.zero,i.size,i.bytes))=some (some (.agg #[ab 0,ab 0,ab 0,ab 0,ab 0]),5,40):=by kernel_rfl
def EC (e:ze):List Value:=[ab e.loc,ab e.kind,ab e.old,ab e.new,ab e.cost]
def DM (l:List ze):List Value:=l.flatMap EC
theorem WN (a b:List ze):DM (a++b)=DM a++DM b:=by unfold DM;rw[mg]
theorem dS (e:ze):DM [e]=EC e:=by unfold DM;simp
theorem A4 {w':World}{p:Addr} (hb:Below w.heap.size w w') (h:w.cell? p=some v):w'.cell? p=some v:=(hb.cell (bq w _ h)).trans h
structure DI (W:World) (sb B wb:Nat) (v:Value) (E:List ze):Prop where
 blk:W.heap[sb]?=some (.cells #[ac wb,v] 273 (0,0))
 row:W.ownsRow B 201 5 v E.length (DM E)
 Yp:B<=sb
theorem DI.keeps {W':World}{S:List Nat} (h:DI W sb B wb v E) (hk:A1 W W' S) (h1:sb∉S) (h2:∀g,v.ownBlock=some g->g∉S):DI W' sb B wb v E:=
 ⟨(hk.block sb (ak h.blk) h1).trans h.blk,A7 h.row hk h2,h.Yp⟩
theorem DI.kind  (h:DI W sb B wb v E):∀k∈sb::v.ownBlock.toList,B<=k/\∃c e f,W.heap[k]?=some (.cells c e f)/\(e=273\/e=201):=λk hk=>by
 rcases bh.1 hk with e |e
 ·subst e;exact⟨h.Yp,_,_,_,h.blk,.inl rfl⟩
 ·have e:v.ownBlock=some k:=by simpa using e
  obtain⟨c,h1⟩:=BI h.row e;exact⟨(h.row.lt k e).1,_,_,_,h1,.inr rfl⟩
theorem DI.add {Wa w1:World}{v':Value}{e:ze} (h:DI W sb B wb v E) (hka:A1 W Wa []) (hgrow:Wa.grownBy w1 v.ownBlock) (hown:w1.ownsRow B 201 5 v' (E.length+1) (DM E++EC e)):
  w1.heap[sb]?=some (.cells #[ac wb,v] 273 (0,0))/\DI (w1.setCell (af sb 1) v') sb B wb v' (E++ [e])/\A1 W (w1.setCell (af sb 1) v') (sb::v.ownBlock.toList):=by
 obtain⟨z1,z2,z3,z4⟩:=EN (j:=1) hka h.blk (by decide) h.row hown hgrow;refine⟨z1,⟨z2,?_,h.Yp⟩,z4⟩;rw[lA,ey,WN,dS];exact z3
end Go.Proofs.YtjjggdcnpndgjaaGreatDoor
