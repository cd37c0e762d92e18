import Derived.Test.YtjjggdcnpndgjabGreatDoorJ33
set_option linter.unusedSimpArgs false
set_option maxHeartbeats 8000000
set_option maxRecDepth 100000
namespace Go.Proofs.YtjjggdcnpndgjabGreatDoor
open Go.RowKit Go.Shelf
variable {B Bn L1 gp sb wb:Nat}{E:List EdP}{P:Program}{W w:World}{v:Value}
section
attribute [local go_sem] Oper.semAt_some
theorem Tryz.infoB172:(Tryz.prog.info? 172).map (fun i=>(i.zero,i.size,i.bytes))=some (some (.slice none 0 0),1,24):=by kernel_rfl
theorem Tryz.infoC210:(Tryz.prog.info? 210).map (fun i=>(i.zero,i.size,i.bytes))=some (some (.agg #[.slice none 0 0,.slice none 0 0]),2,48):=by kernel_rfl
theorem YU {F:Fence}{n:Nat}{c:Code}{Q:Exit->Act->World->Prop}{a:Act} (h:c.wpIn F n P (ER fun a w=>Q .normal a w) a w):c.wpIn F n P Q a w:=
 wpIn_mono h fun e a w h=>by cases e <;> first |exact h |exact h.elim
theorem WQ  (w:World) (t ty:TypeId) (base:Nat) (e:TypeId) (i:TypeInfo) (z:Value) (size bytes:Nat) (ht:P.underlying t=some (.slice e)) (hi:P.info? e=some i) (hz:i.zero=some z)
  (hsize:i.size=size) (hby:i.bytes=bytes) (hzs:z.cells.size=size) (hsz:0<size)
  (g0 n cap0:Nat) (xs:List Value) (hown:w.ownsRow base e size (ae g0 n cap0) n xs)
  (ad:Addr) (m c:Nat) (news:List Value) (hl:news.length=m*size) (hnews:∀j u,news[j]?=some u->w.cell? (ad.add j)=some u) (h1:∀u∈news,u.oneCell'=true)
  (hm:0<m) (h63:n+m<=maxLen) (hbytes:(n+m)*bytes<=140737488355328) (hbase:base<=w.heap.size) (H:Nat) (hH:w.heap.size=H):
  ∃g cap w',(Builtin.append_ #[t,t] ty #[ae g0 n cap0,.slice (some ad) m c]).run P w=.ok (ae g (n+m) cap) w'/\
   w'.ownsRow base e size (ae g (n+m) cap) (n+m) (xs++news)/\w.grownBy w' (some g0)/\(g0=g\/g=H)/\g<w'.heap.size/\∀j u,xs[j]?=some u->w'.cell? (af g0 j)=some u:=by
 obtain⟨g,cap,w',hr,h2,h3,h4,h5⟩:=run_append_lies (P:=P) w t ty base e i z size bytes ht hi hz hsize hby hzs hsz _ n xs hown ad m c news hl hnews h1 hm h63 hbytes hbase H hH;have h4':g0=g\/g=H:=h4.imp (fun e=>by simpa[Value.ownBlock] using e) id;have hg0:g0<w.heap.size:=CK hown rfl;have hat:∀j u,xs[j]?=some u->w.cell? (af g0 j)=some u:=fun j u hj=>(World.ownsRow.cellAt hown j (by have:=(gS_.1 hj).1;have:=hown.1;omega)).trans hj
 refine⟨g,cap,w',hr,h2,h3,h4',h5,fun j u hj=>?_⟩
 by_cases hc:cap0<n+m
 ·have h6:=run_append_grow (P:=P) w t ty e i z ht hi hz (af g0 0) n cap0 xs (by rw[hsize];exact hown.1) (fun j v hv=>by rw[Addr.add_lit,Nat.zero_add];exact hat j v hv) ad m c news (by rw[hsize];exact hl) hnews hc (by unfold maxLen at h63;omega) (by rw[hby];exact growslice_fits hc hbytes)
  rw[hr]at h6;injection h6 with _ h7
  rw[h7];exact(((Below.refl w.heap.size w.drew).alloc (lR_ _) _).cell (p:=(af g0 j)) (by exact hg0)).trans (hat j u hj)
 ·rcases hown.2 with⟨h0,_⟩ | ⟨g1,cap1,cur,hv,hb,hg,hle,hmx,hsz2,htk⟩
  ·cases h0
  ·injection hv with hv1 _ hv3
   injection hv1 with hv1
   injection hv1 with hv1
   subst hv1;subst hv3;have h6:=run_append_room (P:=P) w t ty e i ht hi g0 n cap0 cur hg ad m c news (by rw[hsize];exact hl) hnews h1 (by omega) (by rw[hsize,hl,hsz2,<-Nat.add_mul];exact Nat.mul_le_mul_right _ (by omega));rw[hr]at h6;injection h6 with h7 _
   injection h7 with h7
   injection h7 with h7
   injection h7 with h7
   subst h7;have hj':=(gS_.1 hj).1;exact(World.ownsRow.cellAt h2 j (by have:=hown.1;have:n*size<=(n+m)*size:=Nat.mul_le_mul_right _ (by omega);omega)).trans (by rw[aL hj'];exact hj)
theorem YX {o:Oper}{a:Act}{K:Act->World->Prop}{Q:Exit->Act->World->Prop} (s x:Operand) (t:TypeId)
  (ho:o.op=.call {callee:=.builtin .append,args:= #[s,x],argTypes:= #[t,t]})
  (base:Nat) (e:TypeId) (i:TypeInfo) (z:Value) (size bytes:Nat) (ht:P.underlying t=some (.slice e)) (hi:P.info? e=some i) (hz:i.zero=some z)
  (hsize:i.size=size) (hby:i.bytes=bytes) (hzs:z.cells.size=size) (hsz:0<size)
  (g0 n cap0:Nat) (xs:List Value) (hs:a.eval s=ae g0 n cap0) (hown:w.ownsRow base e size (ae g0 n cap0) n xs)
  (ad:Addr) (m c:Nat) (news:List Value) (hx:a.eval x=.slice (some ad) m c) (hl:news.length=m*size) (hnews:∀j u,news[j]?=some u->w.cell? (ad.add j)=some u) (h1:∀u∈news,u.oneCell'=true)
  (hm:0<m) (h63:n+m<=maxLen) (hbytes:(n+m)*bytes<=140737488355328) (hbase:base<=w.heap.size) (H:Nat) (hH:w.heap.size=H)
  (h:∀g cap w',w'.ownsRow base e size (ae g (n+m) cap) (n+m) (xs++news)->w.grownBy w' (some g0)->(g0=g\/g=H)->g<w'.heap.size->(∀j u,xs[j]?=some u->w'.cell? (af g0 j)=some u)->K (a.put o.dst (ae g (n+m) cap)) w'):o.wp P a w K Q:=by
 obtain⟨g,cap,w',hr,h2,h3,h4,h5,h6⟩:=WQ (P:=P) w t o.type base e i z size bytes ht hi hz hsize hby hzs hsz g0 n cap0 xs hown ad m c news hl hnews h1 hm h63 hbytes hbase H hH;unfold Oper.wp execOp;simp only[ho,resolve,invoke,builtin,Sem.run_bind,Sem.run_pure,Result.andThen_ok,List.map_toArray,List.map_cons,List.map_nil,hs,hx,hr];exact h g cap w' h2 h3 h4 h5 h6
theorem nD (w:World) (A B C D:Array Value) (tA tB tC tD:Nat)  (hW:(((w.alloc (.cells A tA)).alloc (.cells B tB)).alloc (.cells C tC)).alloc (.cells D tD)=W):
  W.heap[w.heap.size]?=some (.cells A tA (0,0))/\W.heap[w.heap.size+1]?=some (.cells B tB (0,0))/\W.heap[w.heap.size+2]?=some (.cells C tC (0,0))/\W.heap[w.heap.size+3]?=some (.cells D tD (0,0))/\Below w.heap.size w W/\W.heap.size=w.heap.size+4:=by
 subst hW;have h1:=World.alloc_heap_new w (.cells A tA);have h2:=World.alloc_heap_new (w.alloc (.cells A tA)) (.cells B tB);have h3:=World.alloc_heap_new ((w.alloc (.cells A tA)).alloc (.cells B tB)) (.cells C tC);have h4:=World.alloc_heap_new (((w.alloc (.cells A tA)).alloc (.cells B tB)).alloc (.cells C tC)) (.cells D tD);simp only[World.size_alloc]at h2 h3 h4;refine⟨?_,?_,?_,?_,(((((Below.refl _ w).alloc (lR_ _) _).alloc (by simp) _).alloc y2Z _).alloc y2Z _),by simp⟩
 ·exact(Below.heap_alloc _ _ _ (by simp <;> omega)).trans ((Below.heap_alloc _ _ _ (by simp <;> omega)).trans ((Below.heap_alloc _ _ _ (by simp)).trans h1))
 ·exact(Below.heap_alloc _ _ _ (by simp <;> omega)).trans ((Below.heap_alloc _ _ _ (by simp)).trans h2)
 ·exact(Below.heap_alloc _ _ _ (by simp)).trans h3
 ·exact h4
structure gJ (w W:World) (T:Tab) (row:List Nat) (rv vd:Value) (i:Nat):Prop where
 blk:W.heap[w.heap.size+2]?=some (.cells #[ac T.tb,rv,vd,.slice none 0 0,.slice none 0 0,.slice none 0 0] 168 (0,0))
 row:D8 W w.heap.size vd (dpL T.N row i)
 b0:W.heap[w.heap.size]?=some (.cells #[rv] 22 (0,0))
 b3:W.heap[w.heap.size+3]?=some (.cells #[ac (w.heap.size+2)] 130 (0,0))
 bel:Below w.heap.size w W
def JB (gp Bn L1:Nat) (A B:World):Prop:=B.heap[Bn]?=A.heap[Bn]?/\((∃C,A.heap[gp]?=some (.cells C 172 (0,0))/\C.size=L1)->∃C,B.heap[gp]?=some (.cells C 172 (0,0))/\C.size=L1)
def M0 (gp Bn L1:Nat) (W:World):Prop:=W.cell? (af Bn 0)=some (ae gp L1 L1)/\∃C,W.heap[gp]?=some (.cells C 172 (0,0))/\C.size=L1
theorem JB.trans {A B C:World} (h:JB gp Bn L1 A B) (k:JB gp Bn L1 B C):JB gp Bn L1 A C:=⟨k.1.trans h.1,fun x=>k.2 (h.2 x)⟩
theorem JB.put  (h1:gp<B) (h2:Bn<B) (W:World) (l:Nat) (o o':Obj) (hl:B<=l) (_:W.heap[l]?=some o) (_:o.isCells=false):JB gp Bn L1 W (W.putObj l o'):=
 ⟨World.putObj_heap_other (by omega),fun⟨C,h3,h4⟩=>⟨C,(World.putObj_heap_other (by omega)).trans h3,h4⟩⟩
theorem M0.next  (A B:World) (h:M0 gp Bn L1 A) (k:JB gp Bn L1 A B):M0 gp Bn L1 B:=⟨(World.cell?_of_block k.1).trans h.1,k.2 h.2⟩
theorem M0.read  (W:World) (h:M0 gp Bn L1 W):∃ad cap,W.cell? (af Bn 0)=some (.slice ad L1 cap)/\L1<=cap/\∀i,i<L1->∃g off a,ad=some (af g off)/\True/\W.cell? (af g (off+i))=some a:=by
 obtain⟨h1,C,h2,h3⟩:=h;exact⟨_,_,h1,lR_ _,fun i hi=>⟨gp,0,C[i],rfl,trivial,by rw[Nat.zero_add];exact(A0 h2).trans (Array.getElem?_eq_getElem (by omega))⟩⟩
theorem oQ {T:Tab} (hI:T.In w) {row:List Nat}{rv:Value} (hrw:RwV w w.heap.size rv row) (hrl:∀x∈row,x<T.N.nT) (h100:row.length<=100) (hr0:0< (BD T.N.rules).1.length):
  Calls Tryz.prog 49 #[ac T.tb,rv] w fun e w'=>∃(Q:Wts) (cn ct:Nat->Nat->Nat->Wt),e=.returned (ac Q.wb)/\Q.T=T/\Q.row=row/\Q.tls=(BD T.N.rules).1/\Q.hds=M6 T.N.nN (BD T.N.rules).2/\Q.In w'/\M5 Q w' 0 cn ct/\Below w.heap.size w w':=by
 obtain⟨iI,hiI,hzI0,hzI1,hzI2⟩:=info_parts Tryz.infoX3;obtain⟨iP,hiP,hzP0,hzP1,hzP2⟩:=info_parts Tryz.infoC210;obtain⟨iR,hiR,hzR0,hzR1,hzR2⟩:=info_parts Tryz.infoB172;obtain⟨d0,d1,_⟩:=hI.tv.heads;have hBd:=hI.bd;have htl:T.tb<w.heap.size:=hBd.tb;have hT20:=hI.fc.gr.leT;have HIn:Hid (T.In w):=hid hI;have HRw:Hid (RwV w w.heap.size rv row):=hid hrw;have HRl:Hid (∀x∈row,x<T.N.nT):=hid hrl;obtain⟨L,hL⟩:=qF (row.length);have HL:=hid hL;obtain⟨aR,cR,hrv,hcR,hcs⟩:=hrw;have hL100:L<=100:=by omega
 rw[<-hL]at hrv hcR hcs;have HRc:=hid hcs;subst hrv;clear hI hrl hL h100 hcs;refine(callsIn_wide (n:=4)).1 ?_;refine callsIn_of_wp_marks Tryz.func49 rfl trivial ?_ rfl;simp only[Tryz.ntmps49,List.size_toArray,lC,List.length_nil,Nat.reduceAdd,Nat.reduceSub,Array.replicate_succ,Array.replicate_zero,List.push_toArray,List.append_toArray,List.nil_append,List.cons_append]
 gi_wp2_with fail
 obtain⟨W1,hW1⟩:=qE ((((w.alloc (.cells #[.slice aR L cR] 22)).alloc (.cells #[ab 0] 3)).alloc (.cells #[ac T.tb,.slice aR L cR,ae (w.heap.size+1) 1 1,.slice none 0 0,.slice none 0 0,.slice none 0 0] 168)).alloc (.cells #[.pointer (some (af (w.heap.size+1+1) 0))] 130));rw[hW1];have HS0:Hid (gJ w W1 T row (.slice aR L cR) (ae (w.heap.size+1) 1 1) 0):=hid (by
  obtain⟨z1,z2,z3,z4,z5,z6⟩:=nD w _ _ _ _ _ _ _ _ hW1;refine⟨z3,?_,z1,z4,z5⟩;have h1:=PG (w.alloc (.cells #[.slice aR L cR] 22)) #[ab 0] 1 1 3 w.heap.size (by simp) y3Z rfl;rw[World.size_alloc]at h1;exact X2 h1 (z2.trans (by have:=World.alloc_heap_new (w.alloc (.cells #[.slice aR L cR] 22)) (.cells #[ab 0] 3);rw[World.size_alloc]at this;exact this.symm)))
 clear hW1;have c0:W1.cell? (af w.heap.size 0)=some (.slice aR L cR):=(A0 HS0.out.b0).trans rfl
 gi_wp2
 clear c0
 gi_loopw [17] (fun z wr=>∃(i:Nat) (vd:Value),i<=L/\z=ab i/\Hid (gJ w wr T row (.slice aR L cR) vd i)) (fun z _=>L - (intOf z).toNat)
 case atStart=>exact⟨0,_,Nat.zero_le _,rfl,HS0⟩
 case round=>
  clear HS0;obtain⟨i,vd,hi,rfl,hsv⟩:=hrel
  by_cases hlt:i<L
  ·obtain⟨x,hx⟩:∃x,row[i]?=some x:=⟨_,gE y32Z⟩
   have hxT:x<T.N.nT:=HRl.out x (mG hx);obtain⟨g,off,rfl,hgl,hgc⟩:=HRc.out (by omega);have hbel:=hsv.out.bel;have cx:wr.cell? (af g (off+i))=some (ab x):=(hbel.cell (by exact hgl)).trans (hgc i x hx);have hld:0< (dpL T.N row i).length:=by rw[MS];omega
   obtain⟨gd,cd,rfl,_⟩:=AX hsv.out.row hld;have hN:=HIn.out.fc.gr.ok;have hdi:AU T.N (row.take i)<=9900:=JQ hN HRl.out (by rw[<-HL.out];exact hL100) i;have hdr:=hN.drop2 x hxT;have hnx:=UO (N:=T.N) hx;have cd0:=D8.at (l:=dpL T.N row i) hsv.out.row (bL (lR_ i));obtain⟨gT,gs,cs,hgT,hgTl,cdr,_⟩:=HIn.out.fc.gr.toks2 x hxT;have hgTl:gT<w.heap.size:=by have:=hBd.n0;omega
   have cdr:=(hbel.cell (p:=(af gT (x*4+2))) (by exact hgTl)).trans cdr;have ct0:=(hbel.cell (p:=(af T.tb 0)) (by exact htl)).trans d0;rw[hgT]at ct0;have cb3:wr.cell? (af (w.heap.size+3) 0)=some (ac (w.heap.size+2)):=(A0 hsv.out.b3).trans rfl;have cw0:wr.cell? (af (w.heap.size+2) 0)=some (ac T.tb):=(A0 hsv.out.blk).trans rfl;have cw2:wr.cell? (af (w.heap.size+2) 2)=some (ae gd (dpL T.N row i).length cd):=(A0 hsv.out.blk).trans rfl;have hrow:wr.ownsRow w.heap.size 3 1 (ae gd (dpL T.N row i).length cd) (dpL T.N row i).length (D9 (dpL T.N row i)):=hsv.out.row;have og3:some (w.heap.size+3)≠(ae gd (dpL T.N row i).length cd).ownBlock:=fun e=>A6 hrow hsv.out.b3 (by decide) e.symm
   have og2:some (w.heap.size+2)≠(ae gd (dpL T.N row i).length cd).ownBlock:=fun e=>A6 hrow hsv.out.blk (by decide) e.symm
   have ogT:some T.tb≠(ae gd (dpL T.N row i).length cd).ownBlock:=fun e=>by have:=(hrow.lt _ e.symm).1;omega
   have ogt:some gT≠(ae gd (dpL T.N row i).length cd).ownBlock:=fun e=>by have:=(hrow.lt _ e.symm).1;omega
   obtain⟨kd,hkd⟩:=qF ((dpL T.N row i).length);rw[<-hkd]at cw2 hrow og3 og2 ogT ogt;have hkd1:i<kd:=by rw[hkd,MS];omega
   have hkd2:kd<=101:=by rw[hkd,MS];omega
   have hkdi:((i:Int)< (kd:Int)):=by omega
   have HKd:=hid hkd;obtain⟨d,hd⟩:=qE (AU T.N (row.take i));have dpAt:Hid ((dpL T.N row i)[i]?=some d):=hid (by rw[<-hd];exact bL (lR_ i));obtain⟨dr,hdr'⟩:=qE (T.N.drop x);obtain⟨nT,hnT⟩:=qF (T.N.nT);have HNx:Hid (dpL T.N row (i+1)=dpL T.N row i++ [d+dr]):=hid (by rw[pV,hnx,hd,hdr']);rw[hd]at cd0 hdi;rw[hdr']at cdr hdr;rw[<-hnT]at ct0 hxT hT20;have hs:=hsv.out.bel.size;have hwrs:w.heap.size+3<wr.heap.size:=lt_of_block hsv.out.b3;have hdw:IntKind.i64.wrap ((d:Int)+(dr:Int))=(d:Int)+(dr:Int):=by rw[w64];omega
   have HRow:=hid hrow;have HSv:=hid hsv.out;have hxi:((x:Int)< (nT:Int)):=by omega
   clear hsv hrow hx hgc hbel hld hN hnx hgT hd hdr' hnT hkd d0
   gi_wp2
   refine YU ((wpIn_wide (n:=4)).2 ?_);refine AE (fun w'=>w'.cell? (af (w.heap.size+3) 0)=some (ac (w.heap.size+2))/\w'.cell? (af (w.heap.size+2) 0)=some (ac T.tb)/\w'.cell? (af (w.heap.size+2) 2)=some (ae gd kd cd)/\w'.cell? (af gd i)=some (ab d)/\w'.cell? (af T.tb 0)=some (ae gT nT T.capT)/\w'.cell? (af gT (x*4+2))=some (ab dr)) hmx y1Z ⟨cb3,cw0,cw2,cd0,ct0,cdr⟩ (fun hH=>?_);simp only[AC,BM,AO];refine tB 0 hH ?_;refine tL ?_;refine tB 1 hH ?_;refine tL ?_;refine tB 2 hH ?_;refine tL ?_;refine tB 3 hH ?_;refine tL ?_;refine tB 4 hH ?_;refine tL ?_;refine tB 5 hH ?_;refine tL ?_;refine tB 6 hH ?_;refine tL ?_;refine tB 7 hH ?_;refine tL ?_;refine tB 8 hH ?_;refine tL ?_;refine tB 9 hH ?_;refine tL ?_;refine tB 10 hH ?_;refine tL ?_;refine tB 11 hH ?_;refine tL ?_;refine tB 12 hH ?_;refine tL ?_;refine tB 13 hH ?_;refine tL ?_;refine tB 14 hH ?_;refine tL ?_;refine tB 15 hH ?_;refine tL ?_
   refine tB 16 hH ?_;refine tL ?_;refine tB 17 hH ?_;refine tL ?_;refine tB 18 hH ?_;refine tL ?_;refine tB 19 hH ?_;refine tL ?_;refine tB 20 hH ?_;refine tL ?_;refine tB 21 hH ?_;refine tL ?_;refine tB 22 hH ?_;refine tL ?_;refine tB 23 hH ?_;refine tL ?_;refine tB 24 hH ?_;refine tL ?_;refine tB 25 hH ?_;refine tL ?_;refine tS 26 fun K hK=>?_
   refine tM ?_;go_simp;refine hK.out _ _ ?_ fun hH=>?_
   ·exact⟨A2 _ hH.1,A2 _ hH.2.1,A2 _ hH.2.2.1,A2 _ hH.2.2.2.1,A2 _ hH.2.2.2.2.1,A2 _ hH.2.2.2.2.2⟩
   clear hK K;refine tL ?_;refine tS 27 fun K hK=>?_
   refine tM ?_;rw[if_pos (by rfl)];refine YX (.tmp 26) (.tmp 48) 22 rfl w.heap.size 3 iI (ab 0) 1 8 Tryz.underlying22 hiI hzI0 hzI1 hzI2 rfl (by decide) gd kd cd _ rfl (HRow.out.alloc _) (af wr.heap.size 0) 1 1 [ab (d+dr:Nat)] rfl rfl (World.news_of_block (fr:=(0,0)) (heap_alloc_new wr _)) y4Z (by omega) y3Z (by omega) y2Z _ rfl ?_;intro g2 cap2 w7 hown hgrow hat hlt2 hold;refine hK.out _ _ ?_ fun hH=>?_
   ·exact⟨(hgrow.cell_far _ y2Z (by exact og3)).trans hH.1,(hgrow.cell_far _ y2Z (by exact og2)).trans hH.2.1,(hgrow.cell_far _ y2Z (by exact og2)).trans hH.2.2.1,hold i _ (ME (dpAt.out)),(hgrow.cell_far _ y2Z y35Z).trans hH.2.2.2.2.1,(hgrow.cell_far _ y2Z (by exact ogt)).trans hH.2.2.2.2.2⟩
   clear hK K;refine tL ?_;refine tB 28 hH ?_;refine tL ?_;refine tB 29 hH ?_;refine tL ?_;refine tB 30 hH ?_;refine tL ?_;refine wpAnyH_done y1Z ?_ _;clear hH;have hkeep:=G9 (Wa:=(wr.alloc (.cells #[ab (d+dr:Nat)] 3)).drew) (j:=2) ((A1.refl wr []).alloc _).drew HSv.out.blk (by decide) HRow.out hown hgrow;obtain⟨z1,z2,z3,z4⟩:=hkeep;have zc:w7.cell? (af (w.heap.size+2) 2)=some (ae gd kd cd):=by rw[HKd.out];exact(A0 z1).trans rfl
   have zf:=A3 (j:=2) z1;have HZ:=hid (And.intro z2 (And.intro z3 z4));clear z1 z2 z3 z4 hown hgrow hat hlt2 hold cb3 cw0 cw2 cd0 ct0 cdr;show wpList _ _ _ _ _ _;go_wp2;obtain⟨W5,hW5⟩:=qE (w7.setCell (af (w.heap.size+2) 2) (ae g2 (kd+1) cap2));rw[hW5]at HZ ⊢;clear hW5 zc zf;have HS5:Hid (gJ w W5 T row (.slice (some (af g off)) L cR) (ae g2 (kd+1) cap2) (i+1)):=hid (by
    obtain⟨z2,z3,z4⟩:=HZ.out;have hS:∀q∈(w.heap.size+2)::(ae gd kd cd).ownBlock.toList,q=w.heap.size+2\/q=gd:=fun q hq=>by simpa[Value.ownBlock] using hq
    have hgd:=(HRow.out.lt gd rfl).1;refine⟨z2,?_,(z4.block _ (by omega) (fun hm=>?_)).trans HSv.out.b0,(z4.block _ hwrs (fun hm=>?_)).trans HSv.out.b3,HSv.out.bel.trans (z4.below (by omega) (fun q hq=>?_))⟩
    ·unfold D8
     rw[HNx.out,lA,GI,<-HKd.out];exact z3
    ·rcases hS _ hm with e |e
     ·omega
     ·exact A6 HRow.out HSv.out.b0 (by decide) y79Z
    ·rcases hS _ hm with e |e
     ·omega
     ·exact A6 HRow.out HSv.out.b3 (by decide) y79Z
    ·rcases hS _ hq with e |e <;> omega)
   refine F3 (Q:=fun _ _ _=>False) ?_
   gi_wp2
   go_roundw
   case rel=>exact⟨i+1,_,by omega,by go_num,HS5⟩
   case measure=>simp[intOf];omega
  ·have HSv:Hid (gJ w wr T row (.slice aR L cR) vd L):=hid (by have h:=hsv.out;rwa [show i=L by omega]at h)
   clear hsv;have hbel:=HSv.out.bel;have hwrs:w.heap.size+3<wr.heap.size:=lt_of_block HSv.out.b3;have hIr:=HIn.out.below hBd hbel;have hBd2:T.Bd (w.heap.size+2):=⟨lT_ hBd.n0 (by omega),lL hBd.tb (by omega),lL hBd.kb (by omega)⟩;have HCut:Hid (Calls Tryz.prog 78 #[ac (w.heap.size+2)] wr fun e w'=>e=.returned (.tuple #[])/\∃gh vT hv,GQ w' wr.heap.size (w.heap.size+2) gh (ac T.tb) (.slice aR L cR) vd T.N.nN vT hv (BD T.N.rules).1 (BD T.N.rules).2/\A1 wr w' [w.heap.size+2]):=hid (bE hIr HSv.out.blk hBd2);have cb3:wr.cell? (af (w.heap.size+3) 0)=some (ac (w.heap.size+2)):=(A0 HSv.out.b3).trans rfl;clear hIr hbel
   gi_wp2_with (refine⟨trivial,?_⟩;gi_at_call 78;refine((callsIn_wide (n:=3)).2 HCut.out).mono ?_;rintro e W6 ⟨rfl,gh,vT,hv,hcv,hk6⟩;have H6:=hid (And.intro hcv hk6);clear hcv hk6)
   have hs6:=H6.out.2.size;have e3:W6.heap[w.heap.size+3]?=some (.cells #[ac (w.heap.size+2)] 130 (0,0)):=(H6.out.2.block _ hwrs (by simp)).trans HSv.out.b3;have e0:W6.heap[w.heap.size]?=some (.cells #[.slice aR L cR] 22 (0,0)):=(H6.out.2.block _ (by omega) (by simp)).trans HSv.out.b0;have f3:W6.cell? (af (w.heap.size+3) 0)=some (ac (w.heap.size+2)):=(A0 e3).trans rfl;have f0:W6.cell? (af w.heap.size 0)=some (.slice aR L cR):=(A0 e0).trans rfl;have f5:W6.cell? (af (w.heap.size+2) 5)=some (.slice none 0 0):=(A0 H6.out.1.blk).trans rfl;clear cb3 HCut;refine YU ((wpIn_wide (n:=4)).2 ?_);obtain⟨L1,hL1⟩:=qF (L+1);have hLi:IntKind.i64.wrap ((L:Int)+1)=(L1:Int):=by rw[w64];omega
   have hL12:L1<=101:=by omega
   have HL1:=hid hL1;clear hL1;refine AE (fun w'=>w'.cell? (af (w.heap.size+3) 0)=some (ac (w.heap.size+2))/\w'.cell? (af w.heap.size 0)=some (.slice aR L cR)) hmx y1Z ⟨f3,f0⟩ (fun hH=>?_);simp only[AC,BM,AO];refine tB 0 hH ?_;refine tL ?_;refine tB 1 hH ?_;refine tL ?_;refine tB 2 hH ?_;refine tL ?_;refine tB 3 hH ?_;refine tL ?_;refine tS 4 fun K hK=>?_
   refine tM ?_;rw[if_pos (by rfl)];refine G7 _ (.tmp 58) (.tmp 58) 166 rfl 172 iR (.slice none 0 0) Tryz.underlying166 hiR hzR0 L1 rfl rfl (by rw[hzR2];omega) (by omega) ?_;rw[hzR1];refine hK.out _ _ ?_ fun hH=>?_
   ·exact⟨A2 _ hH.1,A2 _ hH.2⟩
   clear hK K;refine tL ?_;refine tB 5 hH ?_;refine tL ?_;refine tB 6 hH ?_;refine tL ?_;refine tB 7 hH ?_;refine tL ?_;refine wpAnyH_done y1Z ?_ _;clear hH hLi;have hmk:W6.drew.alloc (.cells (madeCells (Value.slice none 0 0).cells (L1*1)) 172)=(W6.alloc (.cells (madeCells #[.slice none 0 0] L1) 172)).drew:=by rw[Nat.mul_one];rfl
   rw[hmk];clear hmk;obtain⟨W7,hW7⟩:=qE ((W6.alloc (.cells (madeCells #[.slice none 0 0] L1) 172)).drew);have hk7:A1 W6 W7 []:=by rw[<-hW7];exact((A1.refl W6 []).alloc _).drew
   have hg7:W7.heap[W6.heap.size]?=some (.cells (madeCells #[.slice none 0 0] L1) 172 (0,0)):=by rw[<-hW7];exact World.alloc_heap_new W6 _
   have hs7:W6.heap.size<W7.heap.size:=lt_of_block hg7;rw[hW7];have hb7:=(hk7.block (w.heap.size+2) (by omega) (by simp)).trans H6.out.1.blk;have f5':W7.cell? (af (w.heap.size+2) 5)=some (.slice none 0 0):=(A0 hb7).trans rfl;have z5':W7.frozen? (af (w.heap.size+2) 5)=false:=A3 hb7;have HX:=hid (And.intro hk7 (And.intro hg7 hb7));clear hW7 hk7 hg7 hb7 f5 f3 f0;show wpList _ _ _ _ _ _;go_wp2;obtain⟨W8,hW8⟩:=qE (W7.setCell (af (w.heap.size+2) 5) (ae W6.heap.size L1 L1));have hk8:A1 W7 W8 [w.heap.size+2]:=by rw[<-hW8];exact(A1.refl W7 [w.heap.size+2]).setCell (by simp) _
   have hb8:W8.heap[w.heap.size+2]?=some (.cells #[ac T.tb,.slice aR L cR,vd,vT,ae gh T.N.nN T.N.nN,ae W6.heap.size L1 L1] 168 (0,0)):=by rw[<-hW8];exact A5 (j:=5) HX.out.2.2 _
   rw[hW8];clear hW8 f5' z5';have hk68:A1 W6 W8 [w.heap.size+2]:=(HX.out.1.mono (fun q h=>by cases h)).trans hk8;have hs8:=hk8.size;have hg8:W8.heap[W6.heap.size]?=some (.cells (madeCells #[.slice none 0 0] L1) 172 (0,0)):=(hk8.block _ hs7 y2Z).trans HX.out.2.1;have hb06:Below w.heap.size w W6:=HSv.out.bel.trans (H6.out.2.below (by omega) (fun q hq=>by rw[mS.1 hq];omega));have hI6:=HIn.out.below hBd hb06;have hQ8:∃Q:Wts,Q.T=T/\Q.wb=w.heap.size+2/\Q.row=row/\Q.tls=(BD T.N.rules).1/\Q.hds=M6 T.N.nN (BD T.N.rules).2/\Q.gp=W6.heap.size/\Q.In W8:=by
    obtain⟨gd,cd,gt,ct,h⟩:=vK (row:=row) (gp:=W6.heap.size) (Br:=w.heap.size) hI6 hBd2 (by omega) H6.out.1
     (A8 HSv.out.row H6.out.2 (fun g hg hm=>A6 HSv.out.row HSv.out.blk (by decide) (by rw[hg,mS.1 hm])) |> (fun h=>by rw[<-HL.out];exact h))
     ((HRw.out.below hb06).mono (by omega)) hk68 (lR_ _) (by omega) hr0 (by rw[<-HL.out,<-HL1.out];exact hb8) HRl.out (by rw[<-HL.out];exact hL100)
    exact⟨_,rfl,rfl,rfl,rfl,rfl,rfl,h⟩
   have e38:W8.heap[w.heap.size+3]?=some (.cells #[ac (w.heap.size+2)] 130 (0,0)):=(hk68.block _ (by omega) (by simp)).trans e3;have e08:W8.heap[w.heap.size]?=some (.cells #[.slice aR L cR] 22 (0,0)):=(hk68.block _ (by omega) (by simp)).trans e0;have hb08:Below w.heap.size w W8:=hb06.trans (hk68.below (by omega) (fun q hq=>by rw[mS.1 hq];omega));obtain⟨Q,hQT,hQb,hQr,hQt,hQh,hQg,hQ⟩:=hQ8;refine F3 (Q:=fun _ _ _=>False) ?_;have c38:W8.cell? (af (w.heap.size+3) 0)=some (ac (w.heap.size+2)):=(A0 e38).trans rfl;have c58:W8.cell? (af (w.heap.size+2) 5)=some (ae W6.heap.size L1 L1):=(A0 hb8).trans rfl;have hQL:Q.row.length+1=L1:=by rw[hQr,HL1.out,HL.out]
   have HQ8:Hid (Q.In W8):=hid hQ;have HQe:Hid (Q.T=T/\Q.wb=w.heap.size+2/\Q.row=row/\Q.tls=(BD T.N.rules).1/\Q.hds=M6 T.N.nN (BD T.N.rules).2/\Q.gp=W6.heap.size):=hid ⟨hQT,hQb,hQr,hQt,hQh,hQg⟩;have HQL:=hid hQL;have HB8:Hid (W8.heap[w.heap.size+2]?=_):=hid hb8;have HB08:=hid hb08;clear hQT hQb hQr hQt hQh hQg hQ hQL hb8 hb08
   gi_wp2_with (refine⟨trivial,?_⟩;gi_at_call 79;refine(rY Fence.wide 3 trivial rfl _ _ _ _).mono ?_;rintro e W9' ⟨rfl,rfl⟩)
   obtain⟨W9,hW9⟩:=qE (W8.alloc (.cells #[ae W6.heap.size L1 L1] 166));have hk9:A1 W8 W9 []:=by rw[<-hW9];exact(A1.refl W8 []).alloc _
   have hb9:W9.heap[W8.heap.size]?=some (.cells #[ae W6.heap.size L1 L1] 166 (0,0)):=by rw[<-hW9];exact World.alloc_heap_new W8 _
   have hs9:W8.heap.size<W9.heap.size:=lt_of_block hb9;have hg9:=(hk9.block W6.heap.size (by omega) (by simp)).trans hg8;rw[hW9];clear hW9 c38 c58;refine WP (F:=Fence.wide) rfl (by omega) (gf:=105) (lb:= #[ac W8.heap.size]) rfl trivial (enters_of Tryz.func105 y1Z rfl)
    (enc:=NX (L:=L1) (P:=fun _ _=>True)) (fun _=>rfl) (Ord:=fun pre=>U2 L1 (pre.map (·.1.1))) (S:=fun ys=>ys.map (·.1.1)=(List.range L1).reverse) (K:=JB W6.heap.size W8.heap.size L1)
    (fun l J W hb hY h0=>oL 3 (by omega) l W8.heap.size L1 (by omega) (fun _ _=>True) (JB W6.heap.size W8.heap.size L1) (M0 W6.heap.size W8.heap.size L1) M0.next M0.read J W hY ⟨(hb.cell (p:=(af W8.heap.size 0)) (by exact hs9)).trans ((A0 hb9).trans rfl),_,(hb.block _ (by omega)).trans hg9,by simp[size_madeCells]⟩ h0)
    JB.trans (JB.put (by omega) (by omega))
    (fun(pre:List (BX L1 (fun _ _=>True))) W=>∃cn ct,M5 Q W (L1 - pre.length) cn ct/\(∃C,W.heap[W6.heap.size]?=some (.cells C 172 (0,0))/\C.size=L1)/\Below W6.heap.size W8 W/\W9.heap.size<=W.heap.size) ?own ?h0 ?a1 ?assign ?body ?done
   case assign=>
    intro l x W' R hR;simp only[NX]
    gi_wp2
    exact hR
   case own=>
    rintro pre A C row ⟨cn,ct,h1,⟨C1,h2,h2'⟩,h3,h4⟩ hg hr;have hk:A1 A C row.toList:=(A1.refl A row.toList).grown hg (fun q e=>.inl y27Z);exact⟨cn,ct,h1.step hg (fun r e=>(hr r e).2),⟨C1,FP h2 hg (fun r e=>(hr r e).2),h2'⟩,h3.grown hg (by omega) (fun q e=>by have:=(hr q e).1;omega),lT_ h4 hg.size⟩
   case h0=>
    refine⟨fun _ _ _=>(AB,0),fun _ _ _=>(AB,0),⟨fun a b h1 h2 h3=>?_,fun a b h1 h2 h3=>?_,fun _ _ _=>⟨lR_ _,Nat.zero_le _⟩,fun _ _ _=>⟨lR_ _,Nat.zero_le _⟩⟩,⟨_,hg9,by simp[size_madeCells]⟩,hk9.below (by omega) (fun q h=>by cases h),lR_ _⟩
    ·have:=HQL.out;simp at h1;omega
    ·have:=HQL.out;simp at h1;omega
   case done=>
    rintro D ys W hDs hys ⟨cn,ct,hp,_,hbl,hsz⟩ hD;have hlen:L1 - ys.length=0:=by have h:=congrArg List.length hys;simp at h;omega
    rw[hlen]at hp;have k3:W.cell? (af (w.heap.size+3) 0)=some (ac (w.heap.size+2)):=(hbl.cell y49Z).trans ((A0 e38).trans rfl);have HP:=hid hp;have HBl:=hid hbl;have HD:=hid hD;clear hp hbl hlen hys hD
    gi_wp2
    refine⟨by simp,.inl ⟨_,_,rfl,run_takeDeferred HD.out,?_⟩⟩;have hkp:Below W9.heap.size W (W.putObj D (.deferred none)):=(Below.refl _ W).grown (grownBy_putObj' _ D (.deferred none)) (by omega) (fun k e=>by cases e;omega);obtain⟨q1,q2,q3,q4,q5,q6⟩:=HQe.out;refine⟨_,results_tmp rfl _ _ _,Q,cn,ct,by rw[q2];rfl,q1,q3,q4,q5,HQ8.out.below (by rw[q6];exact HBl.out.trans (hkp.mono (by omega))),HP.out.step (grownBy_putObj' _ D (.deferred none)) (fun r e=>by cases e;exact⟨_,HD.out,rfl⟩),HB08.out.trans ((HBl.out.mono (by omega)).trans (hkp.mono (by omega)))⟩
   case body=>
    rintro l pre ⟨⟨s,v⟩,hx⟩ W ⟨cn,ct,hp,⟨C,hC,hCs⟩,hbl,hsz⟩ hord;rw[List.map_append]at hord;obtain⟨_,h6⟩:=U2.snoc hord;rw[lM]at h6;have h6:pre.length+s+1=L1:=h6;have hp:M5 Q W (s+1) cn ct:=by rw[show L1 - pre.length=s+1 by omega]at hp;exact hp
    have hsL:s<L1:=by omega
    have hsi:((s:Int)< (L1:Int)):=by omega
    have k3:W.cell? (af (w.heap.size+3) 0)=some (ac (w.heap.size+2)):=(hbl.cell y49Z).trans ((A0 e38).trans rfl);have k0:W.cell? (af w.heap.size 0)=some (.slice aR L cR):=(hbl.cell (by show w.heap.size<W6.heap.size;omega)).trans ((A0 e08).trans rfl);have k5:W.cell? (af (w.heap.size+2) 5)=some (ae W6.heap.size L1 L1):=(hbl.cell (by show w.heap.size+2<W6.heap.size;omega)).trans ((A0 HB8.out).trans rfl);have hLw:IntKind.i64.wrap ((L:Int)+1)=(L1:Int):=by have:=HL1.out;rw[w64];omega
    have HPre:Hid (pre.length+s+1=L1):=hid h6;have HP:=hid hp;have HCb:=hid (And.intro hC hCs);have HBl:=hid hbl;clear hord h6 hp hC hCs hbl
    gi_wp2
    refine C3 (fun w'=>w'.cell? (af (w.heap.size+3) 0)=some (ac (w.heap.size+2))/\w'.cell? (af (w.heap.size+2) 5)=some (ae W6.heap.size L1 L1)/\w'.cell? (af w.heap.size 0)=some (.slice aR L cR)) hmx y1Z y9Z y1Z ⟨k3,k5,k0⟩ (fun hH=>?_);simp only[AC,BM,AO];refine tB 0 hH ?_;refine tL ?_;refine tB 1 hH ?_;refine tL ?_;refine tB 2 hH ?_;refine tL ?_;refine tB 3 hH ?_;refine tL ?_;refine tB 4 hH ?_;refine tL ?_;refine tB 5 hH ?_;refine tL ?_;refine tB 6 hH ?_;refine tL ?_;refine tB 7 hH ?_;refine tL ?_;refine tS 8 fun K hK=>?_
    refine tM ?_;rw[if_pos (by rfl)];refine G7 _ (.tmp 76) (.tmp 76) 172 rfl 210 iP (.agg #[.slice none 0 0,.slice none 0 0]) Tryz.underlying172 hiP hzP0 L1 rfl rfl (by rw[hzP2];omega) (by omega) ?_;rw[hzP1];refine hK.out _ _ ?_ fun hH=>?_
    ·exact⟨A2 _ hH.1,A2 _ hH.2.1,A2 _ hH.2.2⟩
    clear hK K;refine tL ?_;refine tB 9 hH ?_;refine tL ?_;refine tB 10 hH ?_;refine tL ?_;refine wpAnyH_done y1Z ?_ _;clear hH hLw;have hmk:W.drew.alloc (.cells (madeCells (Value.agg #[.slice none 0 0,.slice none 0 0]).cells (L1*2)) 210)=(W.alloc (.cells (madeCells #[.slice none 0 0,.slice none 0 0] (L1*2)) 210)).drew:=rfl;rw[hmk];clear hmk;obtain⟨WA,hWA⟩:=qE ((W.alloc (.cells (madeCells #[.slice none 0 0,.slice none 0 0] (L1*2)) 210)).drew);have hkA:A1 W WA []:=by rw[<-hWA];exact((A1.refl W []).alloc _).drew
    have hiA:WA.heap[W.heap.size]?=some (.cells (madeCells #[.slice none 0 0,.slice none 0 0] (L1*2)) 210 (0,0)):=by rw[<-hWA];exact World.alloc_heap_new W _
    have hsA:W.heap.size<WA.heap.size:=lt_of_block hiA;have hgA:WA.heap[W6.heap.size]?=some (.cells C 172 (0,0)):=(hkA.block _ (by omega) (by simp)).trans HCb.out.1;rw[hWA];have hCs2:s<C.size:=by have:=HCb.out.2;omega
    obtain⟨vs,hvs⟩:∃z,C[s]?=some z:=⟨C[s],Array.getElem?_eq_getElem hCs2⟩;have kgs:WA.cell? (af W6.heap.size s)=some vs:=(A0 hgA).trans hvs;have kfs:WA.frozen? (af W6.heap.size s)=false:=A3 hgA;have HX2:=hid (And.intro hkA (And.intro hiA hgA));clear hWA hkA hiA hgA k3 k0 k5 hvs hCs2;show wpList _ _ _ _ _ _;go_wp2;obtain⟨W1',hW1'⟩:=qE (WA.setCell (af W6.heap.size s) (ae W.heap.size L1 L1));have hk1:A1 WA W1' [W6.heap.size]:=by rw[<-hW1'];exact(A1.refl WA _).setCell (by simp) _
    have hg1:W1'.heap[W6.heap.size]?=some (.cells (C.setIfInBounds s (ae W.heap.size L1 L1)) 172 (0,0)):=by rw[<-hW1'];exact A5 (j:=s) HX2.out.2.2 _
    rw[hW1'];clear hW1' kgs kfs;have hi1:=(hk1.block W.heap.size hsA y2Z).trans HX2.out.2.1;have hkW:A1 W W1' [W6.heap.size]:=(HX2.out.1.mono (fun q h=>by cases h)).trans hk1;have hs1:=hk1.size;have HR1:Hid (QV Q W1' W.heap.size s s cn ct):=hid (by
     have e:=HQe.out.2.2.2.2.2;refine HP.out.row (by rw[e];exact hkW) (by rw[e];omega) rfl (by omega) ?_ (fun j hj=>?_) ⟨_,hi1,by rw[HQL.out];simp[size_madeCells]⟩
     ·rw[e,HQL.out,A0 hg1,Array.getElem?_setIfInBounds,if_pos rfl,if_pos (by rw[HCb.out.2];exact hsL)]
     ·rw[e,A0 hg1,A0 HCb.out.1,Array.getElem?_setIfInBounds_ne (Ne.symm hj)])
    have HK1:Hid (A1 W W1' [W6.heap.size]):=hid hkW;have HG1:Hid (W1'.heap[W6.heap.size]?=_):=hid hg1;have HI1:Hid (W1'.heap[W.heap.size]?=_):=hid hi1;clear hi1 hkW hk1 hg1
    gi_wp2
    gi_loopw [9] (fun z wn=>∃(k:Nat) (cn ct:Nat->Nat->Nat->Wt),s<=k/\k<=L1/\z=ab k/\Hid (QV Q wn W.heap.size s k cn ct)/\Hid (A1 W1' wn [W.heap.size])) (fun z _=>L1 - (intOf z).toNat)
    case atStart=>exact⟨s,cn,ct,lR_ _,by omega,rfl,HR1,hid (A1.refl _ _)⟩
    case round=>
     obtain⟨k,cn',ct',hsk,hkL,rfl,hrw,hkw⟩:=hrel;have hbn:Below W6.heap.size W8 wr:=HBl.out.trans ((HK1.out.below (by omega) (fun q hq=>by rw[mS.1 hq];exact lR_ _)).trans (hkw.out.below (by omega) (fun q hq=>by rw[mS.1 hq];omega)));have k3:wr.cell? (af (w.heap.size+3) 0)=some (ac (w.heap.size+2)):=(hbn.cell y49Z).trans ((A0 e38).trans rfl);have k0:wr.cell? (af w.heap.size 0)=some (.slice aR L cR):=(hbn.cell (by show w.heap.size<W6.heap.size;omega)).trans ((A0 e08).trans rfl);have hLL:L1=L+1:=HL1.out
     by_cases hlk:k<=L
     ·have hli:((k:Int)<=(L:Int)):=by omega
      obtain⟨Cg,hCg,hCg2⟩:=hrw.out.blk;have HWp:Hid (Calls Tryz.prog 80 #[ac (w.heap.size+2),ab s,ab k] wr fun e w'=>e=.returned (.tuple #[])/\∃(nm ta:Nat->Wt) (C':Array Value),KnR Q w' W.heap.size s (k+1) (AK cn' s k nm) (AK ct' s k ta)/\FX nm/\FX ta/\EG Q.T.N (BK Q.tls) (FI Q.hds) Q.row (AK cn' s k nm) (AK ct' s k ta) s k/\A1 wr w' [W.heap.size]/\w'.heap[W.heap.size]?=some (.cells C' 210 (0,0))/\C'.size=Cg.size):=hid (by
       obtain⟨q1,q2,q3,q4,q5,q6⟩:=HQe.out;have hQn:Q.In wr:=HQ8.out.below (by rw[q6];exact hbn);have h:=WU hQn (by rw[q4];exact(P6 T.N.rules).ok) hrw.out.kn hrw.out.sn hrw.out.st hsk (by have:=HQL.out;omega) (by rw[q4];exact hr0) hCg hCg2;rw[q2]at h;exact h)
      have hCg3:Hid (Cg.size=(Q.row.length+1)*2):=hid hCg2;have hkk:k+1<=L1:=by omega
      clear hbn hCg hCg2 hLL
      gi_wp2_with (refine⟨trivial,?_⟩;gi_at_call 80;refine(CallsIn.inRound l ((callsIn_wide (n:=1)).2 HWp.out)).mono ?_;rintro e W2 ⟨rfl,nm,ta,C',g1,g2,g3,g4,g5,g6,g7⟩;have H2:=hid (And.intro (hrw.out.next g1 g2 g3 g4 g5 ⟨C',g6,g7.trans hCg3.out⟩) g5);clear g1 g2 g3 g4 g5 g6 g7)
      gi_wp2
      go_roundw
      case rel=>exact⟨_,_,_,_,_,_,_,_,_,_,_,⟨k+1,_,_,by omega,by omega,by go_num,hid H2.out.1,hid (hkw.out.trans H2.out.2)⟩,rfl⟩
      case measure=>
       show L1 - (intOf (ab ((k:Int)+1))).toNat<L1 - (intOf (ab (k:Int))).toNat;simp[intOf];omega
     ·have hli:¬((k:Int)<=(L:Int)):=by omega
      have hkE:k=L1:=by omega
      have HD:Hid (M5 Q wr s cn' ct'):=hid (by
       have h:=hrw.out;rw[hkE,<-HQL.out]at h;exact h.done)
      clear hrw hkE hLL
      gi_wp2
      have hs2:=hkw.out.size;have hg2:wr.heap[W6.heap.size]?=some (.cells (C.setIfInBounds s (ae W.heap.size L1 L1)) 172 (0,0)):=(hkw.out.block _ (by omega) y2Z).trans HG1.out;refine⟨(G5 HK1.out (fun q hq=>?_)).trans (G5 hkw.out (fun q hq=>?_)),⟨?_,fun _=>⟨_,hg2,by simpa using HCb.out.2⟩⟩,?_⟩
      ·rw[mS.1 hq];exact⟨_,_,_,HCb.out.1⟩
      ·rw[mS.1 hq];exact⟨_,_,_,HI1.out⟩
      ·exact(hkw.out.block _ (by omega) y2Z).trans (HK1.out.block _ (by omega) y2Z)
      ·have e:L1 - (pre++ [(⟨(s,v),hx⟩:BX L1 (fun _ _=>True))]).length=s:=by have:=HPre.out;simp;omega
       exact⟨⟨cn',ct',by rw[e];exact HD.out⟩,⟨_,hg2,by simpa using HCb.out.2⟩,hbn,by omega⟩
end
theorem Tryz.infoB92:(Tryz.prog.info? 92).map (fun i=>(i.zero,i.size,i.bytes))=some (some (.agg #[ab 0,ab 0,ab 0,ab 0,ab 0]),5,40):=by kernel_rfl
def EC (e:EdP):List Value:=[ab e.loc,ab e.kind,ab e.old,ab e.new,ab e.cost]
def DM (l:List EdP):List Value:=l.flatMap EC
theorem VW (a b:List EdP):DM (a++b)=DM a++DM b:=by unfold DM;rw[List.flatMap_append]
theorem eP (e:EdP):DM [e]=EC e:=by unfold DM;simp
theorem A4 {w':World}{p:Addr} (hb:Below w.heap.size w w') (h:w.cell? p=some v):w'.cell? p=some v:=(hb.cell (World.block_lt_of_cell? w _ h)).trans h
structure DH (W:World) (sb B wb:Nat) (v:Value) (E:List EdP):Prop where
 blk:W.heap[sb]?=some (.cells #[ac wb,v] 133 (0,0))
 row:W.ownsRow B 92 5 v E.length (DM E)
 sbB:B<=sb
theorem DH.keeps {W':World}{S:List Nat} (h:DH W sb B wb v E) (hk:A1 W W' S) (h1:sb∉S) (h2:∀g,v.ownBlock=some g->g∉S):DH W' sb B wb v E:=
 ⟨(hk.block sb (lt_of_block h.blk) h1).trans h.blk,A8 h.row hk h2,h.sbB⟩
theorem DH.kind  (h:DH W sb B wb v E):∀k∈sb::v.ownBlock.toList,B<=k/\∃c e f,W.heap[k]?=some (.cells c e f)/\(e=133\/e=92):=fun k hk=>by
 rcases List.mem_cons.1 hk with e |e
 ·subst e;exact⟨h.sbB,_,_,_,h.blk,.inl rfl⟩
 ·have e:v.ownBlock=some k:=by simpa using e
  obtain⟨c,h1⟩:=BJ h.row e;exact⟨(h.row.lt k e).1,_,_,_,h1,.inr rfl⟩
theorem DH.add {Wa w1:World}{v':Value}{e:EdP} (h:DH W sb B wb v E) (hka:A1 W Wa []) (hgrow:Wa.grownBy w1 v.ownBlock) (hown:w1.ownsRow B 92 5 v' (E.length+1) (DM E++EC e)):
  w1.heap[sb]?=some (.cells #[ac wb,v] 133 (0,0))/\DH (w1.setCell (af sb 1) v') sb B wb v' (E++ [e])/\A1 W (w1.setCell (af sb 1) v') (sb::v.ownBlock.toList):=by
 obtain⟨z1,z2,z3,z4⟩:=G9 (j:=1) hka h.blk (by decide) h.row hown hgrow;refine⟨z1,⟨z2,?_,h.sbB⟩,z4⟩;rw[lA,List.length_singleton,VW,eP];exact z3
end Go.Proofs.YtjjggdcnpndgjabGreatDoor
