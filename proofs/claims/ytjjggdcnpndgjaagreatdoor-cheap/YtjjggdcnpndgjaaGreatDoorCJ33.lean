import Derived.Test.YtjjggdcnpndgjaaGreatDoorCJ32
set_option linter.unusedSimpArgs false
set_option maxHeartbeats 8000000
set_option maxRecDepth 100000
namespace Go.Proofs.YtjjggdcnpndgjaaGreatDoor
open Go.RowKit Go.Shelf
variable {B Bn L1 gp sb wb:Nat}{E:List Ab}{P:Program}{W w:World}{v:Value}
section
attribute [local go_sem] Oper.semAt_some
theorem Tryz.infoB310:(Tryz.prog.info? 310).map (λi=>(i.zero,i.size,i.bytes))=some (some (.slice none 0 0),1,24):=by kernel_rfl
theorem Tryz.infoC351:(Tryz.prog.info? 351).map (λi=>(i.zero,i.size,i.bytes))=some (some (.agg #[.slice none 0 0,.slice none 0 0]),2,48):=by kernel_rfl
theorem YN {F:Fence}{n:Nat}{c:Code}{Q:Exit->Act->World->Prop}{a:Act} (h:c.wpIn F n P (FA λa w=>Q .normal a w) a w):c.wpIn F n P Q a w:=
 wpIn_mono h λe a w h=>by cases e <;> first |exact h |exact h.elim
theorem XB  (w:World) (t ty:TypeId) (base:Nat) (e:TypeId) (i:TypeInfo) (z:Value) (size bytes:Nat) (ht:P.underlying t=some (.slice e)) (hi:P.info? e=some i) (hz:i.zero=some z)
  (hsize:i.size=size) (hby:i.bytes=bytes) (hzs:z.cells.size=size) (hsz:0<size)
  (g0 n Vh:Nat) (xs:List Value) (hown:w.ownsRow base e size (ae g0 n Vh) n xs)
  (ad:Addr) (m c:Nat) (news:List Value) (hl:news.length=m*size) (hnews:∀j u,news[j]?=some u->w.cell? (ad.add j)=some u) (h1:∀u∈news,u.oneCell'=true)
  (hm:0<m) (h63:n+m<=maxLen) (hbytes:(n+m)*bytes<=140737488355328) (hbase:base<=w.heap.size) (H:Nat) (hH:w.heap.size=H):
  ∃g cap w',(Builtin.append_ #[t,t] ty #[ae g0 n Vh,.slice (some ad) m c]).run P w=.ok (ae g (n+m) cap) w'/\
   w'.ownsRow base e size (ae g (n+m) cap) (n+m) (xs++news)/\w.grownBy w' (some g0)/\(g0=g\/g=H)/\g<w'.heap.size/\∀j u,xs[j]?=some u->w'.cell? (af g0 j)=some u:=by
 obtain⟨g,cap,w',hr,h2,h3,h4,h5⟩:=run_append_lies (P:=P) w t ty base e i z size bytes ht hi hz hsize hby hzs hsz _ n xs hown ad m c news hl hnews h1 hm h63 hbytes hbase H hH;have h4':g0=g\/g=H:=h4.imp (λe=>by simpa[Value.ownBlock] using e) id;have hg0:g0<w.heap.size:=D8 hown rfl;have hat:∀j u,xs[j]?=some u->w.cell? (af g0 j)=some u:=λj u hj=>(qq hown j (by have:=(zM.1 hj).1;have:=hown.1;omega)).trans hj
 refine⟨g,cap,w',hr,h2,h3,h4',h5,λj u hj=>?_⟩
 by_cases hc:Vh<n+m
 ·have h6:=run_append_grow (P:=P) w t ty e i z ht hi hz (af g0 0) n Vh xs (by rw[hsize];exact hown.1) (λj v hv=>by rw[Addr.add_lit,ju];exact hat j v hv) ad m c news (by rw[hsize];exact hl) hnews hc (by unfold maxLen at h63;omega) (by rw[hby];exact growslice_fits hc hbytes)
  rw[hr]at h6;injection h6 with _ h7
  rw[h7];exact(((ah w.heap.size w.drew).alloc (zn _) _).cell (p:=(af g0 j)) (by exact hg0)).trans (hat j u hj)
 ·rcases hown.2 with⟨h0,_⟩ | ⟨g1,akc,cur,hv,hb,hg,hle,hmx,aaV,htk⟩
  ·cases h0
  ·injection hv with hv1 _ hv3
   injection hv1 with hv1
   injection hv1 with hv1
   subst hv1;subst hv3;have h6:=run_append_room (P:=P) w t ty e i ht hi g0 n Vh cur hg ad m c news (by rw[hsize];exact hl) hnews h1 (by omega) (by rw[hsize,hl,aaV,<-Nat.add_mul];exact oy _ (by omega));rw[hr]at h6;injection h6 with h7 _
   injection h7 with h7
   injection h7 with h7
   injection h7 with h7
   subst h7;have hj':=(zM.1 hj).1;exact(qq h2 j (by have:=hown.1;have:n*size<=(n+m)*size:=oy _ (by omega);omega)).trans (by rw[aL hj'];exact hj)
theorem ZY {o:Oper}{a:Act}{K:Act->World->Prop}{Q:Exit->Act->World->Prop} (s x:Operand) (t:TypeId)
  (ho:o.op=.call {callee:=.builtin .append,args:= #[s,x],argTypes:= #[t,t]})
  (base:Nat) (e:TypeId) (i:TypeInfo) (z:Value) (size bytes:Nat) (ht:P.underlying t=some (.slice e)) (hi:P.info? e=some i) (hz:i.zero=some z)
  (hsize:i.size=size) (hby:i.bytes=bytes) (hzs:z.cells.size=size) (hsz:0<size)
  (g0 n Vh:Nat) (xs:List Value) (hs:a.eval s=ae g0 n Vh) (hown:w.ownsRow base e size (ae g0 n Vh) n xs)
  (ad:Addr) (m c:Nat) (news:List Value) (hx:a.eval x=.slice (some ad) m c) (hl:news.length=m*size) (hnews:∀j u,news[j]?=some u->w.cell? (ad.add j)=some u) (h1:∀u∈news,u.oneCell'=true)
  (hm:0<m) (h63:n+m<=maxLen) (hbytes:(n+m)*bytes<=140737488355328) (hbase:base<=w.heap.size) (H:Nat) (hH:w.heap.size=H)
  (h:∀g cap w',w'.ownsRow base e size (ae g (n+m) cap) (n+m) (xs++news)->w.grownBy w' (some g0)->(g0=g\/g=H)->g<w'.heap.size->(∀j u,xs[j]?=some u->w'.cell? (af g0 j)=some u)->K (a.put o.dst (ae g (n+m) cap)) w'):o.wp P a w K Q:=by
 obtain⟨g,cap,w',hr,h2,h3,h4,h5,h6⟩:=XB (P:=P) w t o.type base e i z size bytes ht hi hz hsize hby hzs hsz g0 n Vh xs hown ad m c news hl hnews h1 hm h63 hbytes hbase H hH;unfold Oper.wp execOp;simp only[ho,resolve,invoke,builtin,Sem.run_bind,Sem.run_pure,Result.andThen_ok,List.map_toArray,jx,um,hs,hx,hr];exact h g cap w' h2 h3 h4 h5 h6
theorem mI (w:World) (A B C D:Array Value) (tA tB tC tD:Nat)  (hW:(((w.alloc (.cells A tA)).alloc (.cells B tB)).alloc (.cells C tC)).alloc (.cells D tD)=W):
  W.heap[w.heap.size]?=some (.cells A tA (0,0))/\W.heap[w.heap.size+1]?=some (.cells B tB (0,0))/\W.heap[w.heap.size+2]?=some (.cells C tC (0,0))/\W.heap[w.heap.size+3]?=some (.cells D tD (0,0))/\Below w.heap.size w W/\W.heap.size=w.heap.size+4:=by
 subst hW;have h1:=bg w (.cells A tA);have h2:=bg (w.alloc (.cells A tA)) (.cells B tB);have h3:=bg ((w.alloc (.cells A tA)).alloc (.cells B tB)) (.cells C tC);have h4:=bg (((w.alloc (.cells A tA)).alloc (.cells B tB)).alloc (.cells C tC)) (.cells D tD);simp only[bh]at h2 h3 h4;refine⟨?_,?_,?_,?_,(((((ah _ w).alloc (zn _) _).alloc (by simp) _).alloc zG _).alloc zG _),by simp⟩
 ·exact(dw _ _ _ (by simp <;> omega)).trans ((dw _ _ _ (by simp <;> omega)).trans ((dw _ _ _ (by simp)).trans h1))
 ·exact(dw _ _ _ (by simp <;> omega)).trans ((dw _ _ _ (by simp)).trans h2)
 ·exact(dw _ _ _ (by simp)).trans h3
 ·exact h4
structure jV (w W:World) (T:Am) (row:List Nat) (rv vd:Value) (i:Nat):Prop where
 blk:W.heap[w.heap.size+2]?=some (.cells #[ac T.tb,rv,vd,.slice none 0 0,.slice none 0 0,.slice none 0 0] 306 (0,0))
 row:DQ W w.heap.size vd (Eu T.N row i)
 b0:W.heap[w.heap.size]?=some (.cells #[rv] 45 (0,0))
 b3:W.heap[w.heap.size+3]?=some (.cells #[ac (w.heap.size+2)] 270 (0,0))
 On:Below w.heap.size w W
def JS (gp Bn L1:Nat) (A B:World):Prop:=B.heap[Bn]?=A.heap[Bn]?/\((∃C,A.heap[gp]?=some (.cells C 310 (0,0))/\C.size=L1)->∃C,B.heap[gp]?=some (.cells C 310 (0,0))/\C.size=L1)
def MA (gp Bn L1:Nat) (W:World):Prop:=W.cell? (af Bn 0)=some (ae gp L1 L1)/\∃C,W.heap[gp]?=some (.cells C 310 (0,0))/\C.size=L1
theorem JS.trans {A B C:World} (h:JS gp Bn L1 A B) (k:JS gp Bn L1 B C):JS gp Bn L1 A C:=⟨k.1.trans h.1,λx=>k.2 (h.2 x)⟩
theorem JS.put  (h1:gp<B) (h2:Bn<B) (W:World) (l:Nat) (o o':Obj) (hl:B<=l) (_:W.heap[l]?=some o) (_:o.isCells=false):JS gp Bn L1 W (W.putObj l o'):=
 ⟨ue (by omega),λ⟨C,h3,h4⟩=>⟨C,(ue (by omega)).trans h3,h4⟩⟩
theorem MA.next  (A B:World) (h:MA gp Bn L1 A) (k:JS gp Bn L1 A B):MA gp Bn L1 B:=⟨(jh k.1).trans h.1,k.2 h.2⟩
theorem MA.read  (W:World) (h:MA gp Bn L1 W):∃ad cap,W.cell? (af Bn 0)=some (.slice ad L1 cap)/\L1<=cap/\∀i,i<L1->∃g off a,ad=some (af g off)/\True/\W.cell? (af g (off+i))=some a:=by
 obtain⟨h1,C,h2,h3⟩:=h;exact⟨_,_,h1,zn _,λi hi=>⟨gp,0,C[i],rfl,trivial,by rw[ju];exact(A0 h2).trans (jw (by omega))⟩⟩
theorem lY {T:Am} (hI:T.In w) {row:List Nat}{rv:Value} (hrw:Em w w.heap.size rv row) (hrl:∀x∈row,x<T.N.nT) (Jp:row.length<=100) (Hz:0< (BH T.N.rules).1.length):
  Calls Tryz.prog 144 #[ac T.tb,rv] w λe w'=>∃(Q:Aq) (cn ct:Nat->Nat->Nat->Wt),e=.returned (ac Q.wb)/\Q.T=T/\Q.row=row/\Q.zK=(BH T.N.rules).1/\Q.hds=MH T.N.nN (BH T.N.rules).2/\Q.In w'/\MG Q w' 0 cn ct/\Below w.heap.size w w':=by
 obtain⟨iI,Ii,Ij,Ik,Il⟩:=iy Tryz.infoX3;obtain⟨iP,hiP,abP,abQ,abR⟩:=iy Tryz.infoC351;obtain⟨iR,Rs,Rt,Ru,Rv⟩:=iy Tryz.infoB310;obtain⟨d0,d1,_⟩:=hI.tv.Cq;have Bo:=hI.bd;have Dh:T.tb<w.heap.size:=Bo.tb;have Dx:=hI.fc.gr.Ch;have Vb:Hid (T.In w):=hid hI;have Vi:Hid (Em w w.heap.size rv row):=hid hrw;have Ms:Hid (∀x∈row,x<T.N.nT):=hid hrl;obtain⟨L,hL⟩:=qF (row.length);have HL:=hid hL;obtain⟨aR,cR,Cn,Fy,hcs⟩:=hrw;have ahj:L<=100:=by omega
 rw[<-hL]at Cn Fy hcs;have HRc:=hid hcs;subst Cn;clear hI hrl hL Jp hcs;refine(nk (n:=4)).1 ?_;refine qw Tryz.func144 rfl trivial ?_ rfl;simp only[Tryz.ntmps144,jf,lC,jd,Nat.reduceAdd,Nat.reduceSub,jm,jo,jy,jr,ey,iw]
 gi_wp2_with fail
 obtain⟨W1,hW1⟩:=qE ((((w.alloc (.cells #[.slice aR L cR] 45)).alloc (.cells #[ab 0] 3)).alloc (.cells #[ac T.tb,.slice aR L cR,ae (w.heap.size+1) 1 1,.slice none 0 0,.slice none 0 0,.slice none 0 0] 306)).alloc (.cells #[.pointer (some (af (w.heap.size+1+1) 0))] 270));rw[hW1];have Nj:Hid (jV w W1 T row (.slice aR L cR) (ae (w.heap.size+1) 1 1) 0):=hid (by
  obtain⟨z1,z2,z3,z4,z5,z6⟩:=mI w _ _ _ _ _ _ _ _ hW1;refine⟨z3,?_,z1,z4,z5⟩;have h1:=LM (w.alloc (.cells #[.slice aR L cR] 45)) #[ab 0] 1 1 3 w.heap.size (by simp) Bg rfl;rw[bh]at h1;exact ZM h1 (z2.trans (by have:=bg (w.alloc (.cells #[.slice aR L cR] 45)) (.cells #[ab 0] 3);rw[bh]at this;exact this.symm)))
 clear hW1;have c0:W1.cell? (af w.heap.size 0)=some (.slice aR L cR):=(A0 Nj.out.b0).trans rfl
 gi_wp2
 clear c0
 gi_loopw [17] (λz wr=>∃(i:Nat) (vd:Value),i<=L/\z=ab i/\Hid (jV w wr T row (.slice aR L cR) vd i)) (λz _=>L - (intOf z).toNat)
 case atStart=>exact⟨0,_,dh _,rfl,Nj⟩
 case round=>
  clear Nj;obtain⟨i,vd,hi,rfl,hsv⟩:=hrel
  by_cases hlt:i<L
  ·obtain⟨x,hx⟩:∃x,row[i]?=some x:=⟨_,gE aaF⟩
   have Kf:x<T.N.nT:=Ms.out x (mG hx);obtain⟨g,off,rfl,Bu,Er⟩:=HRc.out (by omega);have hbel:=hsv.out.On;have cx:wr.cell? (af g (off+i))=some (ab x):=(hbel.cell (by exact Bu)).trans (Er i x hx);have hld:0< (Eu T.N row i).length:=by rw[MY];omega
   obtain⟨gd,cd,rfl,_⟩:=B4 hsv.out.row hld;have hN:=Vb.out.fc.gr.ok;have hdi:AY T.N (row.take i)<=9900:=K1 hN Ms.out (by rw[<-HL.out];exact ahj) i;have hdr:=hN.acM x Kf;have hnx:=VD (N:=T.N) hx;have cd0:=DQ.at (l:=Eu T.N row i) hsv.out.row (bR (zn i));obtain⟨gT,gs,cs,Je,ahk,cdr,_⟩:=Vb.out.fc.gr.Zb x Kf;have ahk:gT<w.heap.size:=by have:=Bo.n0;omega
   have cdr:=(hbel.cell (p:=(af gT (x*4+2))) (by exact ahk)).trans cdr;have Ve:=(hbel.cell (p:=(af T.tb 0)) (by exact Dh)).trans d0;rw[Je]at Ve;have cb3:wr.cell? (af (w.heap.size+3) 0)=some (ac (w.heap.size+2)):=(A0 hsv.out.b3).trans rfl;have cw0:wr.cell? (af (w.heap.size+2) 0)=some (ac T.tb):=(A0 hsv.out.blk).trans rfl;have cw2:wr.cell? (af (w.heap.size+2) 2)=some (ae gd (Eu T.N row i).length cd):=(A0 hsv.out.blk).trans rfl;have hrow:wr.ownsRow w.heap.size 3 1 (ae gd (Eu T.N row i).length cd) (Eu T.N row i).length (DJ (Eu T.N row i)):=hsv.out.row;have og3:some (w.heap.size+3)≠(ae gd (Eu T.N row i).length cd).ownBlock:=λe=>A9 hrow hsv.out.b3 (by decide) e.symm
   have og2:some (w.heap.size+2)≠(ae gd (Eu T.N row i).length cd).ownBlock:=λe=>A9 hrow hsv.out.blk (by decide) e.symm
   have Tp:some T.tb≠(ae gd (Eu T.N row i).length cd).ownBlock:=λe=>by have:=(hrow.lt _ e.symm).1;omega
   have ogt:some gT≠(ae gd (Eu T.N row i).length cd).ownBlock:=λe=>by have:=(hrow.lt _ e.symm).1;omega
   obtain⟨kd,hkd⟩:=qF ((Eu T.N row i).length);rw[<-hkd]at cw2 hrow og3 og2 Tp ogt;have amh:i<kd:=by rw[hkd,MY];omega
   have ami:kd<=101:=by rw[hkd,MY];omega
   have amj:((i:Int)< (kd:Int)):=by omega
   have HKd:=hid hkd;obtain⟨d,hd⟩:=qE (AY T.N (row.take i));have akd:Hid ((Eu T.N row i)[i]?=some d):=hid (by rw[<-hd];exact bR (zn i));obtain⟨dr,hdr'⟩:=qE (T.N.drop x);obtain⟨nT,Ac⟩:=qF (T.N.nT);have HNx:Hid (Eu T.N row (i+1)=Eu T.N row i++ [d+dr]):=hid (by rw[rS,hnx,hd,hdr']);rw[hd]at cd0 hdi;rw[hdr']at cdr hdr;rw[<-Ac]at Ve Kf Dx;have hs:=hsv.out.On.size;have ae5:w.heap.size+3<wr.heap.size:=ak hsv.out.b3;have hdw:IntKind.i64.wrap ((d:Int)+(dr:Int))=(d:Int)+(dr:Int):=by rw[Db];omega
   have Dl:=hid hrow;have Gj:=hid hsv.out;have hxi:((x:Int)< (nT:Int)):=by omega
   clear hsv hrow hx Er hbel hld hN hnx Je hd hdr' Ac hkd d0
   gi_wp2
   refine YN ((xz (n:=4)).2 ?_);refine AH (λw'=>w'.cell? (af (w.heap.size+3) 0)=some (ac (w.heap.size+2))/\w'.cell? (af (w.heap.size+2) 0)=some (ac T.tb)/\w'.cell? (af (w.heap.size+2) 2)=some (ae gd kd cd)/\w'.cell? (af gd i)=some (ab d)/\w'.cell? (af T.tb 0)=some (ae gT nT T.yT)/\w'.cell? (af gT (x*4+2))=some (ab dr)) hmx yM ⟨cb3,cw0,cw2,cd0,Ve,cdr⟩ (λhH=>?_);simp only[AG,BP,AR];refine tB 0 hH ?_;refine tL ?_;refine tB 1 hH ?_;refine tL ?_;refine tB 2 hH ?_;refine tL ?_;refine tB 3 hH ?_;refine tL ?_;refine tB 4 hH ?_;refine tL ?_;refine tB 5 hH ?_;refine tL ?_;refine tB 6 hH ?_;refine tL ?_;refine tB 7 hH ?_;refine tL ?_;refine tB 8 hH ?_;refine tL ?_;refine tB 9 hH ?_;refine tL ?_;refine tB 10 hH ?_;refine tL ?_;refine tB 11 hH ?_;refine tL ?_;refine tB 12 hH ?_;refine tL ?_;refine tB 13 hH ?_;refine tL ?_;refine tB 14 hH ?_;refine tL ?_;refine tB 15 hH ?_;refine tL ?_
   refine tB 16 hH ?_;refine tL ?_;refine tB 17 hH ?_;refine tL ?_;refine tB 18 hH ?_;refine tL ?_;refine tB 19 hH ?_;refine tL ?_;refine tB 20 hH ?_;refine tL ?_;refine tB 21 hH ?_;refine tL ?_;refine tB 22 hH ?_;refine tL ?_;refine tB 23 hH ?_;refine tL ?_;refine tB 24 hH ?_;refine tL ?_;refine tB 25 hH ?_;refine tL ?_;refine tS 26 λK hK=>?_
   refine tM ?_;go_simp;refine hK.out _ _ ?_ λhH=>?_
   ·exact⟨A6 _ hH.1,A6 _ hH.2.1,A6 _ hH.2.2.1,A6 _ hH.2.2.2.1,A6 _ hH.2.2.2.2.1,A6 _ hH.2.2.2.2.2⟩
   clear hK K;refine tL ?_;refine tS 27 λK hK=>?_
   refine tM ?_;rw[ay (by rfl)];refine ZY (.tmp 26) (.tmp 48) 45 rfl w.heap.size 3 iI (ab 0) 1 8 Tryz.underlying45 Ii Ij Ik Il rfl (by decide) gd kd cd _ rfl (Dl.out.alloc _) (af wr.heap.size 0) 1 1 [ab (d+dr:Nat)] rfl rfl (dn (fr:=(0,0)) (dz wr _)) Gl (by omega) Bg (by omega) zG _ rfl ?_;intro g2 cap2 w7 hown hgrow hat Cu hold;refine hK.out _ _ ?_ λhH=>?_
   ·exact⟨(hgrow.cell_far _ zG (by exact og3)).trans hH.1,(hgrow.cell_far _ zG (by exact og2)).trans hH.2.1,(hgrow.cell_far _ zG (by exact og2)).trans hH.2.2.1,hold i _ (MQ (akd.out)),(hgrow.cell_far _ zG Oz).trans hH.2.2.2.2.1,(hgrow.cell_far _ zG (by exact ogt)).trans hH.2.2.2.2.2⟩
   clear hK K;refine tL ?_;refine tB 28 hH ?_;refine tL ?_;refine tB 29 hH ?_;refine tL ?_;refine tB 30 hH ?_;refine tL ?_;refine bq yM ?_ _;clear hH;have hkeep:=EY (Wa:=(wr.alloc (.cells #[ab (d+dr:Nat)] 3)).drew) (j:=2) ((A5.refl wr []).alloc _).drew Gj.out.blk (by decide) Dl.out hown hgrow;obtain⟨z1,z2,z3,z4⟩:=hkeep;have zc:w7.cell? (af (w.heap.size+2) 2)=some (ae gd kd cd):=by rw[HKd.out];exact(A0 z1).trans rfl
   have zf:=A7 (j:=2) z1;have HZ:=hid (And.intro z2 (And.intro z3 z4));clear z1 z2 z3 z4 hown hgrow hat Cu hold cb3 cw0 cw2 cd0 Ve cdr;show wpList _ _ _ _ _ _;go_wp2;obtain⟨W5,Bj⟩:=qE (w7.setCell (af (w.heap.size+2) 2) (ae g2 (kd+1) cap2));rw[Bj]at HZ ⊢;clear Bj zc zf;have Uv:Hid (jV w W5 T row (.slice (some (af g off)) L cR) (ae g2 (kd+1) cap2) (i+1)):=hid (by
    obtain⟨z2,z3,z4⟩:=HZ.out;have hS:∀q∈(w.heap.size+2)::(ae gd kd cd).ownBlock.toList,q=w.heap.size+2\/q=gd:=λq hq=>by simpa[Value.ownBlock] using hq
    have hgd:=(Dl.out.lt gd rfl).1;refine⟨z2,?_,(z4.block _ (by omega) (λhm=>?_)).trans Gj.out.b0,(z4.block _ ae5 (λhm=>?_)).trans Gj.out.b3,Gj.out.On.trans (z4.below (by omega) (λq hq=>?_))⟩
    ·unfold DQ
     rw[HNx.out,lA,GW,<-HKd.out];exact z3
    ·rcases hS _ hm with e |e
     ·omega
     ·exact A9 Dl.out Gj.out.b0 (by decide) aaP
    ·rcases hS _ hm with e |e
     ·omega
     ·exact A9 Dl.out Gj.out.b3 (by decide) aaP
    ·rcases hS _ hq with e |e <;> omega)
   refine FH (Q:=λ_ _ _=>False) ?_
   gi_wp2
   go_roundw
   case rel=>exact⟨i+1,_,by omega,by go_num,Uv⟩
   case measure=>simp[intOf];omega
  ·have Gj:Hid (jV w wr T row (.slice aR L cR) vd L):=hid (by have h:=hsv.out;rwa [show i=L by omega]at h)
   clear hsv;have hbel:=Gj.out.On;have ae5:w.heap.size+3<wr.heap.size:=ak Gj.out.b3;have hIr:=Vb.out.below Bo hbel;have ady:T.Bd (w.heap.size+2):=⟨zV Bo.n0 (by omega),lL Bo.tb (by omega),lL Bo.kb (by omega)⟩;have ads:Hid (Calls Tryz.prog 188 #[ac (w.heap.size+2)] wr λe w'=>e=.returned (.tuple #[])/\∃gh vT hv,I5 w' wr.heap.size (w.heap.size+2) gh (ac T.tb) (.slice aR L cR) vd T.N.nN vT hv (BH T.N.rules).1 (BH T.N.rules).2/\A5 wr w' [w.heap.size+2]):=hid (aP hIr Gj.out.blk ady);have cb3:wr.cell? (af (w.heap.size+3) 0)=some (ac (w.heap.size+2)):=(A0 Gj.out.b3).trans rfl;clear hIr hbel
   gi_wp2_with (refine⟨trivial,?_⟩;gi_at_call 188;refine((nk (n:=3)).2 ads.out).mono ?_;rintro e W6 ⟨rfl,gh,vT,hv,hcv,Cp⟩;have H6:=hid (And.intro hcv Cp);clear hcv Cp)
   have Wy:=H6.out.2.size;have e3:W6.heap[w.heap.size+3]?=some (.cells #[ac (w.heap.size+2)] 270 (0,0)):=(H6.out.2.block _ ae5 (by simp)).trans Gj.out.b3;have e0:W6.heap[w.heap.size]?=some (.cells #[.slice aR L cR] 45 (0,0)):=(H6.out.2.block _ (by omega) (by simp)).trans Gj.out.b0;have f3:W6.cell? (af (w.heap.size+3) 0)=some (ac (w.heap.size+2)):=(A0 e3).trans rfl;have f0:W6.cell? (af w.heap.size 0)=some (.slice aR L cR):=(A0 e0).trans rfl;have f5:W6.cell? (af (w.heap.size+2) 5)=some (.slice none 0 0):=(A0 H6.out.1.blk).trans rfl;clear cb3 ads;refine YN ((xz (n:=4)).2 ?_);obtain⟨L1,Fh⟩:=qF (L+1);have hLi:IntKind.i64.wrap ((L:Int)+1)=(L1:Int):=by rw[Db];omega
   have amk:L1<=101:=by omega
   have Zs:=hid Fh;clear Fh;refine AH (λw'=>w'.cell? (af (w.heap.size+3) 0)=some (ac (w.heap.size+2))/\w'.cell? (af w.heap.size 0)=some (.slice aR L cR)) hmx yM ⟨f3,f0⟩ (λhH=>?_);simp only[AG,BP,AR];refine tB 0 hH ?_;refine tL ?_;refine tB 1 hH ?_;refine tL ?_;refine tB 2 hH ?_;refine tL ?_;refine tB 3 hH ?_;refine tL ?_;refine tS 4 λK hK=>?_
   refine tM ?_;rw[ay (by rfl)];refine GK _ (.tmp 58) (.tmp 58) 304 rfl 310 iR (.slice none 0 0) Tryz.underlying304 Rs Rt L1 rfl rfl (by rw[Rv];omega) (by omega) ?_;rw[Ru];refine hK.out _ _ ?_ λhH=>?_
   ·exact⟨A6 _ hH.1,A6 _ hH.2⟩
   clear hK K;refine tL ?_;refine tB 5 hH ?_;refine tL ?_;refine tB 6 hH ?_;refine tL ?_;refine tB 7 hH ?_;refine tL ?_;refine bq yM ?_ _;clear hH hLi;have hmk:W6.drew.alloc (.cells (madeCells (Value.slice none 0 0).cells (L1*1)) 310)=(W6.alloc (.cells (madeCells #[.slice none 0 0] L1) 310)).drew:=by rw[yG];rfl
   rw[hmk];clear hmk;obtain⟨W7,hW7⟩:=qE ((W6.alloc (.cells (madeCells #[.slice none 0 0] L1) 310)).drew);have Di:A5 W6 W7 []:=by rw[<-hW7];exact((A5.refl W6 []).alloc _).drew
   have hg7:W7.heap[W6.heap.size]?=some (.cells (madeCells #[.slice none 0 0] L1) 310 (0,0)):=by rw[<-hW7];exact bg W6 _
   have hs7:W6.heap.size<W7.heap.size:=ak hg7;rw[hW7];have Eb:=(Di.block (w.heap.size+2) (by omega) (by simp)).trans H6.out.1.blk;have f5':W7.cell? (af (w.heap.size+2) 5)=some (.slice none 0 0):=(A0 Eb).trans rfl;have z5':W7.frozen? (af (w.heap.size+2) 5)=false:=A7 Eb;have HX:=hid (And.intro Di (And.intro hg7 Eb));clear hW7 Di hg7 Eb f5 f3 f0;show wpList _ _ _ _ _ _;go_wp2;obtain⟨W8,Oe⟩:=qE (W7.setCell (af (w.heap.size+2) 5) (ae W6.heap.size L1 L1));have Ho:A5 W7 W8 [w.heap.size+2]:=by rw[<-Oe];exact(A5.refl W7 [w.heap.size+2]).setCell (by simp) _
   have Cm:W8.heap[w.heap.size+2]?=some (.cells #[ac T.tb,.slice aR L cR,vd,vT,ae gh T.N.nN T.N.nN,ae W6.heap.size L1 L1] 306 (0,0)):=by rw[<-Oe];exact AA (j:=5) HX.out.2.2 _
   rw[Oe];clear Oe f5' z5';have adz:A5 W6 W8 [w.heap.size+2]:=(HX.out.1.mono (λq h=>by cases h)).trans Ho;have hs8:=Ho.size;have hg8:W8.heap[W6.heap.size]?=some (.cells (madeCells #[.slice none 0 0] L1) 310 (0,0)):=(Ho.block _ hs7 zG).trans HX.out.2.1;have ae6:Below w.heap.size w W6:=Gj.out.On.trans (H6.out.2.below (by omega) (λq hq=>by rw[mS.1 hq];omega));have hI6:=Vb.out.below Bo ae6;have hQ8:∃Q:Aq,Q.T=T/\Q.wb=w.heap.size+2/\Q.row=row/\Q.zK=(BH T.N.rules).1/\Q.hds=MH T.N.nN (BH T.N.rules).2/\Q.gp=W6.heap.size/\Q.In W8:=by
    obtain⟨gd,cd,gt,ct,h⟩:=x6 (row:=row) (gp:=W6.heap.size) (Br:=w.heap.size) hI6 ady (by omega) H6.out.1
     (AC Gj.out.row H6.out.2 (λg hg hm=>A9 Gj.out.row Gj.out.blk (by decide) (by rw[hg,mS.1 hm])) |> (λh=>by rw[<-HL.out];exact h))
     ((Vi.out.below ae6).mono (by omega)) adz (zn _) (by omega) Hz (by rw[<-HL.out,<-Zs.out];exact Cm) Ms.out (by rw[<-HL.out];exact ahj)
    exact⟨_,rfl,rfl,rfl,rfl,rfl,rfl,h⟩
   have e38:W8.heap[w.heap.size+3]?=some (.cells #[ac (w.heap.size+2)] 270 (0,0)):=(adz.block _ (by omega) (by simp)).trans e3;have e08:W8.heap[w.heap.size]?=some (.cells #[.slice aR L cR] 45 (0,0)):=(adz.block _ (by omega) (by simp)).trans e0;have ahl:Below w.heap.size w W8:=ae6.trans (adz.below (by omega) (λq hq=>by rw[mS.1 hq];omega));obtain⟨Q,hQT,hQb,Fu,hQt,hQh,hQg,hQ⟩:=hQ8;refine FH (Q:=λ_ _ _=>False) ?_;have c38:W8.cell? (af (w.heap.size+3) 0)=some (ac (w.heap.size+2)):=(A0 e38).trans rfl;have c58:W8.cell? (af (w.heap.size+2) 5)=some (ae W6.heap.size L1 L1):=(A0 Cm).trans rfl;have hQL:Q.row.length+1=L1:=by rw[Fu,Zs.out,HL.out]
   have HQ8:Hid (Q.In W8):=hid hQ;have HQe:Hid (Q.T=T/\Q.wb=w.heap.size+2/\Q.row=row/\Q.zK=(BH T.N.rules).1/\Q.hds=MH T.N.nN (BH T.N.rules).2/\Q.gp=W6.heap.size):=hid ⟨hQT,hQb,Fu,hQt,hQh,hQg⟩;have Qj:=hid hQL;have Se:Hid (W8.heap[w.heap.size+2]?=_):=hid Cm;have ake:=hid ahl;clear hQT hQb Fu hQt hQh hQg hQ hQL Cm ahl
   gi_wp2_with (refine⟨trivial,?_⟩;gi_at_call 189;refine(qX Fence.wide 3 trivial rfl _ _ _ _).mono ?_;rintro e W9' ⟨rfl,rfl⟩)
   obtain⟨W9,Jm⟩:=qE (W8.alloc (.cells #[ae W6.heap.size L1 L1] 304));have Ek:A5 W8 W9 []:=by rw[<-Jm];exact(A5.refl W8 []).alloc _
   have hb9:W9.heap[W8.heap.size]?=some (.cells #[ae W6.heap.size L1 L1] 304 (0,0)):=by rw[<-Jm];exact bg W8 _
   have hs9:W8.heap.size<W9.heap.size:=ak hb9;have hg9:=(Ek.block W6.heap.size (by omega) (by simp)).trans hg8;rw[Jm];clear Jm c38 c58;refine XR (F:=Fence.wide) rfl (by omega) (gf:=215) (lb:= #[ac W8.heap.size]) rfl trivial (rq Tryz.func215 yM rfl)
    (enc:=O6 (L:=L1) (P:=λ_ _=>True)) (λ_=>rfl) (Ord:=λpre=>UG L1 (pre.map (·.1.1))) (S:=λys=>ys.map (·.1.1)=(List.range L1).reverse) (K:=JS W6.heap.size W8.heap.size L1)
    (λl J W hb hY h0=>mK 3 (by omega) l W8.heap.size L1 (by omega) (λ_ _=>True) (JS W6.heap.size W8.heap.size L1) (MA W6.heap.size W8.heap.size L1) MA.next MA.read J W hY ⟨(hb.cell (p:=(af W8.heap.size 0)) (by exact hs9)).trans ((A0 hb9).trans rfl),_,(hb.block _ (by omega)).trans hg9,by simp[vh]⟩ h0)
    JS.trans (JS.put (by omega) (by omega))
    (fun(pre:List (BX L1 (λ_ _=>True))) W=>∃cn ct,MG Q W (L1 - pre.length) cn ct/\(∃C,W.heap[W6.heap.size]?=some (.cells C 310 (0,0))/\C.size=L1)/\Below W6.heap.size W8 W/\W9.heap.size<=W.heap.size) ?own ?h0 ?a1 ?assign ?body ?done
   case assign=>
    intro l x W' R hR;simp only[O6]
    gi_wp2
    exact hR
   case own=>
    rintro pre A C row ⟨cn,ct,h1,⟨C1,h2,h2'⟩,h3,h4⟩ hg hr;have hk:A5 A C row.toList:=(A5.refl A row.toList).grown hg (λq e=>.inl Mv);exact⟨cn,ct,h1.step hg (λr e=>(hr r e).2),⟨C1,G5 h2 hg (λr e=>(hr r e).2),h2'⟩,h3.grown hg (by omega) (λq e=>by have:=(hr q e).1;omega),zV h4 hg.size⟩
   case h0=>
    refine⟨λ_ _ _=>(AJ,0),λ_ _ _=>(AJ,0),⟨λa b h1 h2 h3=>?_,λa b h1 h2 h3=>?_,λ_ _ _=>⟨zn _,dh _⟩,λ_ _ _=>⟨zn _,dh _⟩⟩,⟨_,hg9,by simp[vh]⟩,Ek.below (by omega) (λq h=>by cases h),zn _⟩
    ·have:=Qj.out;simp at h1;omega
    ·have:=Qj.out;simp at h1;omega
   case done=>
    rintro D ys W Iq hys ⟨cn,ct,hp,_,hbl,hsz⟩ hD;have hlen:L1 - ys.length=0:=by have h:=congrArg List.length hys;simp at h;omega
    rw[hlen]at hp;have k3:W.cell? (af (w.heap.size+3) 0)=some (ac (w.heap.size+2)):=(hbl.cell adM).trans ((A0 e38).trans rfl);have HP:=hid hp;have Ep:=hid hbl;have HD:=hid hD;clear hp hbl hlen hys hD
    gi_wp2
    refine⟨by simp,.inl ⟨_,_,rfl,uz HD.out,?_⟩⟩;have hkp:Below W9.heap.size W (W.putObj D (.deferred none)):=(ah _ W).grown (qo _ D (.deferred none)) (by omega) (λk e=>by cases e;omega);obtain⟨q1,q2,q3,q4,q5,q6⟩:=HQe.out;refine⟨_,zm rfl _ _ _,Q,cn,ct,by rw[q2];rfl,q1,q3,q4,q5,HQ8.out.below (by rw[q6];exact Ep.out.trans (hkp.mono (by omega))),HP.out.step (qo _ D (.deferred none)) (λr e=>by cases e;exact⟨_,HD.out,rfl⟩),ake.out.trans ((Ep.out.mono (by omega)).trans (hkp.mono (by omega)))⟩
   case body=>
    rintro l pre ⟨⟨s,v⟩,hx⟩ W ⟨cn,ct,hp,⟨C,hC,hCs⟩,hbl,hsz⟩ ab8;rw[fq]at ab8;obtain⟨_,h6⟩:=UG.snoc ab8;rw[lM]at h6;have h6:pre.length+s+1=L1:=h6;have hp:MG Q W (s+1) cn ct:=by rw[show L1 - pre.length=s+1 by omega]at hp;exact hp
    have hsL:s<L1:=by omega
    have hsi:((s:Int)< (L1:Int)):=by omega
    have k3:W.cell? (af (w.heap.size+3) 0)=some (ac (w.heap.size+2)):=(hbl.cell adM).trans ((A0 e38).trans rfl);have k0:W.cell? (af w.heap.size 0)=some (.slice aR L cR):=(hbl.cell (by show w.heap.size<W6.heap.size;omega)).trans ((A0 e08).trans rfl);have k5:W.cell? (af (w.heap.size+2) 5)=some (ae W6.heap.size L1 L1):=(hbl.cell (by show w.heap.size+2<W6.heap.size;omega)).trans ((A0 Se.out).trans rfl);have hLw:IntKind.i64.wrap ((L:Int)+1)=(L1:Int):=by have:=Zs.out;rw[Db];omega
    have De:Hid (pre.length+s+1=L1):=hid h6;have HP:=hid hp;have HCb:=hid (And.intro hC hCs);have Ep:=hid hbl;clear ab8 h6 hp hC hCs hbl
    gi_wp2
    refine CV (λw'=>w'.cell? (af (w.heap.size+3) 0)=some (ac (w.heap.size+2))/\w'.cell? (af (w.heap.size+2) 5)=some (ae W6.heap.size L1 L1)/\w'.cell? (af w.heap.size 0)=some (.slice aR L cR)) hmx yM Lv yM ⟨k3,k5,k0⟩ (λhH=>?_);simp only[AG,BP,AR];refine tB 0 hH ?_;refine tL ?_;refine tB 1 hH ?_;refine tL ?_;refine tB 2 hH ?_;refine tL ?_;refine tB 3 hH ?_;refine tL ?_;refine tB 4 hH ?_;refine tL ?_;refine tB 5 hH ?_;refine tL ?_;refine tB 6 hH ?_;refine tL ?_;refine tB 7 hH ?_;refine tL ?_;refine tS 8 λK hK=>?_
    refine tM ?_;rw[ay (by rfl)];refine GK _ (.tmp 76) (.tmp 76) 310 rfl 351 iP (.agg #[.slice none 0 0,.slice none 0 0]) Tryz.underlying310 hiP abP L1 rfl rfl (by rw[abR];omega) (by omega) ?_;rw[abQ];refine hK.out _ _ ?_ λhH=>?_
    ·exact⟨A6 _ hH.1,A6 _ hH.2.1,A6 _ hH.2.2⟩
    clear hK K;refine tL ?_;refine tB 9 hH ?_;refine tL ?_;refine tB 10 hH ?_;refine tL ?_;refine bq yM ?_ _;clear hH hLw;have hmk:W.drew.alloc (.cells (madeCells (Value.agg #[.slice none 0 0,.slice none 0 0]).cells (L1*2)) 351)=(W.alloc (.cells (madeCells #[.slice none 0 0,.slice none 0 0] (L1*2)) 351)).drew:=rfl;rw[hmk];clear hmk;obtain⟨WA,hWA⟩:=qE ((W.alloc (.cells (madeCells #[.slice none 0 0,.slice none 0 0] (L1*2)) 351)).drew);have hkA:A5 W WA []:=by rw[<-hWA];exact((A5.refl W []).alloc _).drew
    have hiA:WA.heap[W.heap.size]?=some (.cells (madeCells #[.slice none 0 0,.slice none 0 0] (L1*2)) 351 (0,0)):=by rw[<-hWA];exact bg W _
    have hsA:W.heap.size<WA.heap.size:=ak hiA;have hgA:WA.heap[W6.heap.size]?=some (.cells C 310 (0,0)):=(hkA.block _ (by omega) (by simp)).trans HCb.out.1;rw[hWA];have ahm:s<C.size:=by have:=HCb.out.2;omega
    obtain⟨vs,hvs⟩:∃z,C[s]?=some z:=⟨C[s],jw ahm⟩;have kgs:WA.cell? (af W6.heap.size s)=some vs:=(A0 hgA).trans hvs;have kfs:WA.frozen? (af W6.heap.size s)=false:=A7 hgA;have HX2:=hid (And.intro hkA (And.intro hiA hgA));clear hWA hkA hiA hgA k3 k0 k5 hvs ahm;show wpList _ _ _ _ _ _;go_wp2;obtain⟨Xv,adA⟩:=qE (WA.setCell (af W6.heap.size s) (ae W.heap.size L1 L1));have hk1:A5 WA Xv [W6.heap.size]:=by rw[<-adA];exact(A5.refl WA _).setCell (by simp) _
    have Bw:Xv.heap[W6.heap.size]?=some (.cells (C.setIfInBounds s (ae W.heap.size L1 L1)) 310 (0,0)):=by rw[<-adA];exact AA (j:=s) HX2.out.2.2 _
    rw[adA];clear adA kgs kfs;have hi1:=(hk1.block W.heap.size hsA zG).trans HX2.out.2.1;have Rm:A5 W Xv [W6.heap.size]:=(HX2.out.1.mono (λq h=>by cases h)).trans hk1;have hs1:=hk1.size;have Dq:Hid (QU Q Xv W.heap.size s s cn ct):=hid (by
     have e:=HQe.out.2.2.2.2.2;refine HP.out.row (by rw[e];exact Rm) (by rw[e];omega) rfl (by omega) ?_ (λj hj=>?_) ⟨_,hi1,by rw[Qj.out];simp[vh]⟩
     ·rw[e,Qj.out,A0 Bw,rj,ay rfl,ay (by rw[HCb.out.2];exact hsL)]
     ·rw[e,A0 Bw,A0 HCb.out.1,eu (yB hj)])
    have Bt:Hid (A5 W Xv [W6.heap.size]):=hid Rm;have Xr:Hid (Xv.heap[W6.heap.size]?=_):=hid Bw;have HI1:Hid (Xv.heap[W.heap.size]?=_):=hid hi1;clear hi1 Rm hk1 Bw
    gi_wp2
    gi_loopw [9] (λz wn=>∃(k:Nat) (cn ct:Nat->Nat->Nat->Wt),s<=k/\k<=L1/\z=ab k/\Hid (QU Q wn W.heap.size s k cn ct)/\Hid (A5 Xv wn [W.heap.size])) (λz _=>L1 - (intOf z).toNat)
    case atStart=>exact⟨s,cn,ct,zn _,by omega,rfl,Dq,hid (A5.refl _ _)⟩
    case round=>
     obtain⟨k,cn',ct',hsk,hkL,rfl,hrw,zW⟩:=hrel;have Bp:Below W6.heap.size W8 wr:=Ep.out.trans ((Bt.out.below (by omega) (λq hq=>by rw[mS.1 hq];exact zn _)).trans (zW.out.below (by omega) (λq hq=>by rw[mS.1 hq];omega)));have k3:wr.cell? (af (w.heap.size+3) 0)=some (ac (w.heap.size+2)):=(Bp.cell adM).trans ((A0 e38).trans rfl);have k0:wr.cell? (af w.heap.size 0)=some (.slice aR L cR):=(Bp.cell (by show w.heap.size<W6.heap.size;omega)).trans ((A0 e08).trans rfl);have hLL:L1=L+1:=Zs.out
     by_cases hlk:k<=L
     ·have hli:((k:Int)<=(L:Int)):=by omega
      obtain⟨Cg,hCg,ae7⟩:=hrw.out.blk;have HWp:Hid (Calls Tryz.prog 190 #[ac (w.heap.size+2),ab s,ab k] wr λe w'=>e=.returned (.tuple #[])/\∃(nm ta:Nat->Wt) (C':Array Value),Tb Q w' W.heap.size s (k+1) (AP cn' s k nm) (AP ct' s k ta)/\GE nm/\GE ta/\ET Q.T.N (BR Q.zK) (FY Q.hds) Q.row (AP cn' s k nm) (AP ct' s k ta) s k/\A5 wr w' [W.heap.size]/\w'.heap[W.heap.size]?=some (.cells C' 351 (0,0))/\C'.size=Cg.size):=hid (by
       obtain⟨q1,q2,q3,q4,q5,q6⟩:=HQe.out;have hQn:Q.In wr:=HQ8.out.below (by rw[q6];exact Bp);have h:=WS hQn (by rw[q4];exact(Q8 T.N.rules).ok) hrw.out.kn hrw.out.sn hrw.out.st hsk (by have:=Qj.out;omega) (by rw[q4];exact Hz) hCg ae7;rw[q2]at h;exact h)
      have akf:Hid (Cg.size=(Q.row.length+1)*2):=hid ae7;have hkk:k+1<=L1:=by omega
      clear Bp hCg ae7 hLL
      gi_wp2_with (refine⟨trivial,?_⟩;gi_at_call 190;refine(yV l ((nk (n:=1)).2 HWp.out)).mono ?_;rintro e W2 ⟨rfl,nm,ta,C',g1,g2,g3,g4,g5,g6,g7⟩;have H2:=hid (And.intro (hrw.out.next g1 g2 g3 g4 g5 ⟨C',g6,g7.trans akf.out⟩) g5);clear g1 g2 g3 g4 g5 g6 g7)
      gi_wp2
      go_roundw
      case rel=>exact⟨_,_,_,_,_,_,_,_,_,_,_,⟨k+1,_,_,by omega,by omega,by go_num,hid H2.out.1,hid (zW.out.trans H2.out.2)⟩,rfl⟩
      case measure=>
       show L1 - (intOf (ab ((k:Int)+1))).toNat<L1 - (intOf (ab (k:Int))).toNat;simp[intOf];omega
     ·have hli:¬((k:Int)<=(L:Int)):=by omega
      have Jq:k=L1:=by omega
      have HD:Hid (MG Q wr s cn' ct'):=hid (by
       have h:=hrw.out;rw[Jq,<-Qj.out]at h;exact h.done)
      clear hrw Jq hLL
      gi_wp2
      have hs2:=zW.out.size;have hg2:wr.heap[W6.heap.size]?=some (.cells (C.setIfInBounds s (ae W.heap.size L1 L1)) 310 (0,0)):=(zW.out.block _ (by omega) zG).trans Xr.out;refine⟨(GG Bt.out (λq hq=>?_)).trans (GG zW.out (λq hq=>?_)),⟨?_,λ_=>⟨_,hg2,by simpa using HCb.out.2⟩⟩,?_⟩
      ·rw[mS.1 hq];exact⟨_,_,_,HCb.out.1⟩
      ·rw[mS.1 hq];exact⟨_,_,_,HI1.out⟩
      ·exact(zW.out.block _ (by omega) zG).trans (Bt.out.block _ (by omega) zG)
      ·have e:L1 - (pre++ [(⟨(s,v),hx⟩:BX L1 (λ_ _=>True))]).length=s:=by have:=De.out;simp;omega
       exact⟨⟨cn',ct',by rw[e];exact HD.out⟩,⟨_,hg2,by simpa using HCb.out.2⟩,Bp,by omega⟩
end
theorem Tryz.infoB201:(Tryz.prog.info? 201).map (λi=>(i.zero,i.size,i.bytes))=some (some (.agg #[ab 0,ab 0,ab 0,ab 0,ab 0]),5,40):=by kernel_rfl
def EC (e:Ab):List Value:=[ab e.loc,ab e.kind,ab e.old,ab e.new,ab e.cost]
def DW (l:List Ab):List Value:=l.flatMap EC
theorem XI (a b:List Ab):DW (a++b)=DW a++DW b:=by unfold DW;rw[mo]
theorem eE (e:Ab):DW [e]=EC e:=by unfold DW;simp
theorem A8 {w':World}{p:Addr} (hb:Below w.heap.size w w') (h:w.cell? p=some v):w'.cell? p=some v:=(hb.cell (bu w _ h)).trans h
structure DT (W:World) (sb B wb:Nat) (v:Value) (E:List Ab):Prop where
 blk:W.heap[sb]?=some (.cells #[ac wb,v] 273 (0,0))
 row:W.ownsRow B 201 5 v E.length (DW E)
 sbB:B<=sb
theorem DT.keeps {W':World}{S:List Nat} (h:DT W sb B wb v E) (hk:A5 W W' S) (h1:sb∉S) (h2:∀g,v.ownBlock=some g->g∉S):DT W' sb B wb v E:=
 ⟨(hk.block sb (ak h.blk) h1).trans h.blk,AC h.row hk h2,h.sbB⟩
theorem DT.kind  (h:DT W sb B wb v E):∀k∈sb::v.ownBlock.toList,B<=k/\∃c e f,W.heap[k]?=some (.cells c e f)/\(e=273\/e=201):=λk hk=>by
 rcases bk.1 hk with e |e
 ·subst e;exact⟨h.sbB,_,_,_,h.blk,.inl rfl⟩
 ·have e:v.ownBlock=some k:=by simpa using e
  obtain⟨c,h1⟩:=BQ h.row e;exact⟨(h.row.lt k e).1,_,_,_,h1,.inr rfl⟩
theorem DT.add {Wa w1:World}{v':Value}{e:Ab} (h:DT W sb B wb v E) (hka:A5 W Wa []) (hgrow:Wa.grownBy w1 v.ownBlock) (hown:w1.ownsRow B 201 5 v' (E.length+1) (DW E++EC e)):
  w1.heap[sb]?=some (.cells #[ac wb,v] 273 (0,0))/\DT (w1.setCell (af sb 1) v') sb B wb v' (E++ [e])/\A5 W (w1.setCell (af sb 1) v') (sb::v.ownBlock.toList):=by
 obtain⟨z1,z2,z3,z4⟩:=EY (j:=1) hka h.blk (by decide) h.row hown hgrow;refine⟨z1,⟨z2,?_,h.sbB⟩,z4⟩;rw[lA,fu,XI,eE];exact z3
end Go.Proofs.YtjjggdcnpndgjaaGreatDoor
