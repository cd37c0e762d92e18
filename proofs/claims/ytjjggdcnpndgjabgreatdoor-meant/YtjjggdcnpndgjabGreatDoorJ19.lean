import Derived.Test.YtjjggdcnpndgjabGreatDoorJ18
import Derived.Deep.DeepCutAuto
set_option linter.unusedSimpArgs false
set_option maxHeartbeats 0
set_option maxRecDepth 100000
namespace Go.Proofs.YtjjggdcnpndgjabGreatDoor
open Go.RowKit Go.Shelf Go.WideMaps Go.Maps
variable {L:List (List (List Pt))}{NN T n:Nat}{dr pu:List Nat}{rs:List (List Pt)}{sw:List (List Nat)}
theorem Tryz.infoC3:(Tryz.prog.info? 3).map (fun i=>(i.zero,i.size,i.bytes))=some (some (ab 0),1,8):=by kernel_rfl
theorem Tryz.infoC22:(Tryz.prog.info? 22).map (fun i=>(i.zero,i.size,i.bytes))=some (some (.slice none 0 0),1,24):=by kernel_rfl
theorem Tryz.infoC9:(Tryz.prog.info? 9).map (fun i=>(i.zero,i.size,i.bytes))=some (some (.string ByteArray.empty),1,16):=by kernel_rfl
theorem Tryz.infoC30:(Tryz.prog.info? 30).map (fun i=>(i.zero,i.size,i.bytes))=some (some (.slice none 0 0),1,24):=by kernel_rfl
theorem Tryz.infoC34:(Tryz.prog.info? 34).map (fun i=>(i.zero,i.size,i.bytes))=some (some (.slice none 0 0),1,24):=by kernel_rfl
structure T6 (T k:Nat) (pu dr:List Nat) (sw:List (List Nat)):Prop where
 pl:pu.length=k
 dl:dr.length=k
 sl:sw.length=k
 p1:∀x∈pu,1<=x/\x<=9
 d1:∀x∈dr,1<=x/\x<=9
 s1:∀r∈sw,∀x∈r,x<=9
 sd:∀(i:Nat) r,sw[i]?=some r->r.length=T/\r.getD i 0=0
structure TE (T NN n:Nat) (L:List (List (List Pt))):Prop where
 len:L.length=n
 c1:∀rs∈L,2<=rs.length/\rs.length<=T
 head:∀rs∈L,∀(k:Nat) r,rs[k]?=some r->r.head?=some (.tok k)/\r.length<=5
 part:∀rs∈L,∀r∈rs,∀p∈r,FF T NN p
 last:∀rs∈L,∀r,rs.getLast?=some r->∀p∈r,∃t,p=.tok t
 reach:∀(m:Nat) rs,L[m]?=some rs->m+1<NN->∃r,rs[0]?=some r/\ .nam (m+1)∈r
structure O3 (T NN n cnt k:Nat) (rs:List (List Pt)):Prop where
 len:rs.length=k
 head:∀(i:Nat) r,rs[i]?=some r->r.head?=some (.tok i)/\r.length<=5
 part:∀r∈rs,∀p∈r,FF T NN p
 last:∀(i:Nat) r,rs[i]?=some r->i+1=cnt->∀p∈r,∃t,p=.tok t
 reach:∀r,rs[0]?=some r->1<cnt->n+1<NN-> .nam (n+1)∈r
structure jX (T NN cnt k p:Nat) (r:List Pt):Prop where
 len:r.length=p+1
 head:r.head?=some (.tok k)
 part:∀q∈r,FF T NN q
 last:k+1=cnt->∀q∈r,∃t,q=.tok t
theorem O3.add {cnt k:Nat} (h:O3 T NN n cnt k rs) {r:List Pt} (hr:r.head?=some (.tok k)) (h5:r.length<=5) (hp:∀q∈r,FF T NN q) (hl:k+1=cnt->∀q∈r,∃t,q=.tok t) (hre:k=0->1<cnt->n+1<NN-> .nam (n+1)∈r):O3 T NN n cnt (k+1) (rs++ [r]) where
 len:=by rw[lA,h.len];rfl
 head:=fun i q hq=>by
  by_cases hi:i<rs.length
  ·rw[aL hi]at hq;exact h.head i q hq
  ·rw[aR_ (by omega)]at hq
   obtain⟨hl2,e⟩:=gS_.1 hq;simp only[List.length_singleton]at hl2;have:i=k:=by have:=h.len;omega
   subst this;simp only[List.getElem_singleton]at e;subst e;exact⟨hr,h5⟩
 part:=fun q hq=>by
  rcases List.mem_append.1 hq with hq |hq
  ·exact h.part q hq
  ·rw[mS.1 hq];exact hp
 last:=fun i q hq hc=>by
  by_cases hi:i<rs.length
  ·rw[aL hi]at hq;exact h.last i q hq hc
  ·rw[aR_ (by omega)]at hq
   obtain⟨hl2,e⟩:=gS_.1 hq;simp only[List.length_singleton]at hl2;have:i=k:=by have:=h.len;omega
   subst this;simp only[List.getElem_singleton]at e;subst e;exact hl hc
 reach:=fun q hq hc hn=>by
  have hlen:=h.len;cases rs with
  |nil=>
   simp only[List.nil_append,List.getElem?_cons_zero,Option.some.injEq]at hq;subst hq;exact hre (by simpa using hlen.symm) hc hn
  |cons a l=>exact h.reach q (by simpa using hq) hc hn
theorem Mz23 {P:Prop} (h:P:=by
  rcases List.mem_append.1 hq with hq |hq
  ·exact h.last q hq a ha
  ·rw[mS.1 hq]at ha
   rw[List.getLast?_eq_getElem?]at ha;exact hr.last _ a ha (by have:=hr.len;omega)):P:=h
theorem TE.add {cnt:Nat} (h:TE T NN n L) (hr:O3 T NN n cnt cnt rs) (h2:2<=cnt) (hT:cnt<=T):TE T NN (n+1) (L++ [rs]) where
 len:=by rw[lA,h.len];rfl
 c1:=fun q hq=>by
  rcases List.mem_append.1 hq with hq |hq
  ·exact h.c1 q hq
  ·rw[mS.1 hq,hr.len];exact⟨h2,hT⟩
 head:=fun q hq=>by
  rcases List.mem_append.1 hq with hq |hq
  ·exact h.head q hq
  ·rw[mS.1 hq];exact hr.head
 part:=fun q hq=>by
  rcases List.mem_append.1 hq with hq |hq
  ·exact h.part q hq
  ·rw[mS.1 hq];exact hr.part
 last:=fun q hq a ha=>by
  exact Mz23
 reach:=fun m q hq hm=>by
  by_cases hi:m<L.length
  ·rw[aL hi]at hq;exact h.reach m q hq hm
  ·rw[aR_ (by omega)]at hq
   obtain⟨hl2,e⟩:=gS_.1 hq;simp only[List.length_singleton]at hl2;have:m=n:=by have:=h.len;omega
   subst this;simp only[List.getElem_singleton]at e;subst e;obtain⟨r,hr0⟩:∃r,rs[0]?=some r:=⟨_,gE (by rw[hr.len];omega)⟩;exact⟨r,hr0,hr.reach r hr0 (by omega) hm⟩
theorem tP  (h:TE T NN n L) (ht:T6 T T pu dr sw) (hT:2<=T/\T<=6) (hN:NN<=4) (hn:n<=NN) (h1:1<=n):Mk.Pre ⟨pu,dr,sw,L⟩ NN where
 t2:=by show 2<=pu.length;rw[ht.pl];exact hT.1
 t6:=by show pu.length<=6;rw[ht.pl];exact hT.2
 dl:=by show dr.length=pu.length;rw[ht.pl,ht.dl]
 sl:=by show sw.length=pu.length;rw[ht.pl,ht.sl]
 srow:=fun r hr=>by
  obtain⟨i,hi,rfl⟩:=List.mem_iff_getElem.1 hr;show _=pu.length;rw[ht.pl];exact(ht.sd i _ (gE hi)).1
 p1:=ht.p1
 d1:=ht.d1
 s1:=ht.s1
 sdiag:=fun i r hr=>(ht.sd i r hr).2
 n1:=by show 1<=L.length;rw[h.len];exact h1
 nN:=by show L.length<=NN;rw[h.len];exact hn
 n4:=hN
 c1:=fun rs hrs=>by have:=h.c1 rs hrs;show 1<=rs.length/\rs.length<=pu.length;rw[ht.pl];omega
 head:=h.head
 part:=fun rs hrs r hr p hp=>by show FF pu.length NN p;rw[ht.pl];exact h.part rs hrs r hr p hp
 last:=h.last
 reach:=fun m rs hm hl=>h.reach m rs hm (by have hl2:m+1<L.length:=hl;rw[h.len]at hl2;omega)
theorem t8  (h:TE T NN n L) (ht:T6 T T pu dr sw) (hT:2<=T/\T<=6) (hN:NN<=4) (hn:n<NN) (hr:O3 T NN n 1 1 rs):Mk.Pre ⟨pu,dr,sw,L++ [rs]⟩ NN where
 t2:=by show 2<=pu.length;rw[ht.pl];exact hT.1
 t6:=by show pu.length<=6;rw[ht.pl];exact hT.2
 dl:=by show dr.length=pu.length;rw[ht.pl,ht.dl]
 sl:=by show sw.length=pu.length;rw[ht.pl,ht.sl]
 srow:=fun r hr=>by
  obtain⟨i,hi,rfl⟩:=List.mem_iff_getElem.1 hr;show _=pu.length;rw[ht.pl];exact(ht.sd i _ (gE hi)).1
 p1:=ht.p1
 d1:=ht.d1
 s1:=ht.s1
 sdiag:=fun i r hr=>(ht.sd i r hr).2
 n1:=by show 1<=(L++ [rs]).length;rw[lA];simp
 nN:=by show(L++ [rs]).length<=NN;rw[lA,h.len];simp;omega
 n4:=hN
 c1:=fun q hq=>by
  show 1<=q.length/\q.length<=pu.length;rw[ht.pl]
  rcases List.mem_append.1 hq with hq |hq
  ·have:=h.c1 q hq;omega
  ·rw[mS.1 hq,hr.len];omega
 head:=fun q hq=>by
  rcases List.mem_append.1 hq with hq |hq
  ·exact h.head q hq
  ·rw[mS.1 hq];exact hr.head
 part:=fun q hq r hr' p hp=>by
  show FF pu.length NN p;rw[ht.pl]
  rcases List.mem_append.1 hq with hq |hq
  ·exact h.part q hq r hr' p hp
  ·rw[mS.1 hq]at hr';exact hr.part r hr' p hp
 last:=fun q hq a ha=>by
  exact Mz23
 reach:=fun m q hq hl=>by
  have hl2:m+1< (L++ [rs]).length:=hl;rw[lA,List.length_singleton]at hl2;have hq:(L++ [rs])[m]?=some q:=hq;rw[aL (by omega)]at hq;exact h.reach m q hq (by have:=h.len;omega)
theorem T6.add {k:Nat} (h:T6 T k pu dr sw) {x y:Nat} (hx:1<=x/\x<=9) (hy:1<=y/\y<=9) {r:List Nat} (hl:r.length=T) (h9:∀z∈r,z<=9) (h0:r.getD k 0=0):T6 T (k+1) (pu++ [x]) (dr++ [y]) (sw++ [r]) where
 pl:=by rw[lA,h.pl];rfl
 dl:=by rw[lA,h.dl];rfl
 sl:=by rw[lA,h.sl];rfl
 p1:=fun z hz=>by
  rcases List.mem_append.1 hz with hz |hz
  ·exact h.p1 z hz
  ·rw[mS.1 hz];exact hx
 d1:=fun z hz=>by
  rcases List.mem_append.1 hz with hz |hz
  ·exact h.d1 z hz
  ·rw[mS.1 hz];exact hy
 s1:=fun q hq=>by
  rcases List.mem_append.1 hq with hq |hq
  ·exact h.s1 q hq
  ·rw[mS.1 hq];exact h9
 sd:=fun i q hq=>by
  by_cases hi:i<sw.length
  ·rw[aL hi]at hq
   exact h.sd i q hq
  ·rw[aR_ (by omega)]at hq
   obtain⟨hl2,e⟩:=gS_.1 hq;simp only[List.length_singleton]at hl2;have:i=k:=by have:=h.sl;omega
   subst this;simp only[List.getElem_singleton]at e;subst e;exact⟨hl,h0⟩
theorem TH (T k:Nat):(List.replicate T 0).getD k 0=0:=by
 rw[gD_,List.getElem?_replicate];split <;> rfl
theorem lO (n:Nat):madeCells (ab 0).cells (n*1)=(IK (List.replicate n 0)).toArray:=by
 have h:=bN n;rw[show madeCells (ab 0).cells (n*1)=madeCells #[ab 0] (n*1) from rfl,h];apply Array.ext';apply List.ext_getElem?;intro i;simp only[IK,gM,List.getElem?_replicate]
 by_cases hi:i<n
 ·simp[hi]
 ·simp[hi]
theorem Mz19 {P:Prop} (h:P:=by
  obtain⟨q,hq,hqT⟩:∃q:Nat,(c:Int) % (T:Int)=(q:Int)/\q<T:=⟨c % T,rfl,Nat.mod_lt _ (by omega)⟩
  go_upto_region 34 with fail
  rw[hq];clear hq
  go_wp2_with (first
   | (go_at_call 10;refine(GD q (by omega) _).mono ?_;rintro e w' ⟨rfl,rfl⟩)
   | (at_builtin;refine wpList_append_lies _ rfl _ _ 30 rfl wk.heap.size 9 iS (.string ByteArray.empty) 1 16 Tryz.underlying30 hiS hzS0 hzS1 hzS2 rfl (by decide) _ _ _ rfl (hrow.alloc _) (af wp.heap.size 0) 1 1 [.string (A7 q)] rfl rfl (World.news_of_block (heap_alloc_new wp _)) ?c2 (lR_ 1) ?c3 ?c4 ?c5 _ rfl ?_))
  case c2=>intro u hu;simp at hu;subst hu;rfl
  case c3=>unfold maxLen;omega
  case c4=>omega
  case c5=>simp;omega
  intro g3 cap3 w3 hown3 hgrow3 hat3 hlt3;have hkeep:A1 wp w3 v13.ownBlock.toList:=((A1.refl _ _).alloc _).grown hgrow3 (fun q hq=>.inl y13Z);have hSg:∀g∈v13.ownBlock.toList,wk.heap.size<=g:=fun g hm=>(hrow.lt g (BE hm)).1
  have HRow3:Hid (w3.ownsRow wk.heap.size 9 1 (ae g3 (p+1+1) cap3) (r++ [Pt.tok q]).length (wds (r++ [Pt.tok q]))):=hid y40Z;have HTV3:=hid (hTV.out.keeps hkeep (AJ hrow (by decide)) (AJ hrow (by decide)) (AJ hrow (by decide)));have HNS3:=hid (hNS.out.keeps hkeep (AJ hrow (by decide)) (fun m hm hx=>by have:=hSg _ hx;have:=HNB.out.2.1 m hm;have:=hsz.out;omega) (fun m rs' k' h1 h2 hx=>by have:=hSg _ hx;have:=HNB.out.2.2 m rs' k' h1 h2;have:=hsz.out;omega));have HRS3:=hid (hRS.out.keeps hkeep (AJ hrow (by decide)) (fun i hi hx=>by have:=hSg _ hx;have:=HGB.out i hi;omega));have HB3:Hid (Below w.heap.size w w3):=hid (hbn.out.trans (hkeep.below (by have:=hsp.out;omega) (fun q hq=>by have:=hSg q hq;omega)));have HP3:Hid (jX T NN cnt k (p+1) (r++ [Pt.tok q])):=hid ⟨by rw[lA,hPP.out.len];rfl,by have h1:=hPP.out.head;cases r with |nil=>cases h1 |cons a l=>exact h1,fun a ha=>by
   rcases List.mem_append.1 ha with ha |ha
   ·exact hPP.out.part a ha
   ·rw[mS.1 ha];exact(show q<T from hqT),fun hl a ha=>by
   rcases List.mem_append.1 ha with ha |ha
   ·exact hPP.out.last hl a ha
   ·rw[mS.1 ha];exact⟨q,rfl⟩⟩
  have HS3:Hid (wk.heap.size<=w3.heap.size):=hid (lT_ hsp.out hkeep.size);clear hown3 hgrow3 hat3 hlt3 hkeep hrow hSg;go_wp2
  go_roundw
  case rel=>exact⟨p+1,xp+1,r++ [Pt.tok q],_,by omega,by go_num,by go_num,by omega,by rfl,HP3,HRow3,HTV3,HNS3,HRS3,HB3,HS3⟩
  case measure=>simp[intOf];omega):P:=h
theorem Mz20 {P:Prop} (h:P:=by
  have HS4:Hid (wn.heap.size<=w4.heap.size):=hid (lT_ hwnW hkeep.size);clear hown4 hgrow4 hat4 hlt4 hkeep hr11 hSg;go_wp2
  go_roundw
  case rel=>exact⟨k+1,xp,rs++ [r],_,_,_,by omega,by go_num,rfl,by omega,by rfl,HRP4,HRS4,HIJ4,HTV4,HNS4,HB4,HS4⟩
  case measure=>simp[intOf];omega):P:=h
theorem Mz21 {P:Prop} (h:P:=by
  rw[if_pos e1,if_neg e2]at he;have:=HGB.out j y14Z;omega):P:=h
theorem Mz22 {P:Prop} (h:P:=by
  rw[if_neg e1,if_pos e2]at he;have:=HGB.out i y14Z;omega):P:=h
theorem mK (v:Value) (w:World) (hv:KT w v):
  Calls Tryz.prog 4 #[v] w fun e w'=>∃b m,e=.returned (ac b)/\Mk.Good m/\MkV w' w'.heap.size b m/\Below w.heap.size w w':=by
 obtain⟨iI,hiI,hzI0,hzI1,hzI2⟩:=info_parts Tryz.infoC3;obtain⟨iJ,hiJ,hzJ0,hzJ1,hzJ2⟩:=info_parts Tryz.infoC22;obtain⟨iS,hiS,hzS0,hzS1,hzS2⟩:=info_parts Tryz.infoC9;obtain⟨iR,hiR,hzR0,hzR1,hzR2⟩:=info_parts Tryz.infoC30;obtain⟨iN,hiN,hzN0,hzN1,hzN2⟩:=info_parts Tryz.infoC34;have HV:Hid (KT w v):=hid hv;clear hv
 go_enter Tryz.func4,Tryz.ntmps4
 go_wp2_with (first
  | (go_at_call_of 13 (Value.int .i64 0);refine(KY v 0 (by omega) _ (HV.out.below (bal (Below.refl _ _)))).mono ?_;rintro e w' ⟨⟨z0,rfl,hz0⟩,rfl⟩)
  | (go_at_call_of 12 (Value.int .i64 5);refine(I3 z0 5 (by omega) hz0 _).mono ?_;rintro e w' ⟨⟨tk,htk,rfl⟩,rfl⟩)
  | (go_at_call_of 13 (Value.int .i64 1);refine(KY v 1 (by omega) _ (HV.out.below (bal (Below.refl _ _)))).mono ?_;rintro e w' ⟨⟨z1,rfl,hz1⟩,rfl⟩)
  | (go_at_call_of 12 (Value.int .i64 4);refine(I3 z1 4 (by omega) hz1 _).mono ?_;rintro e w' ⟨⟨nm,hnm,rfl⟩,rfl⟩))
 obtain⟨T,hT⟩:∃T:Nat,(2+(tk:Int))=(T:Int):=⟨2+tk,by omega⟩;obtain⟨NN,hNN⟩:∃n:Nat,(1+(nm:Int))=(n:Int):=⟨1+nm,by omega⟩;have hT2:2<=T/\T<=6:=by omega
 have hN2:1<=NN/\NN<=4:=by omega
 rw[hT,hNN];have HB0:Hid (Below w.heap.size w (w.alloc (.cells #[.slice none 0 0,.slice none 0 0,.slice none 0 0,.slice none 0 0] 46))):=hid (bal (Below.refl _ _));have HT0:Hid (EM (w.alloc (.cells #[.slice none 0 0,.slice none 0 0,.slice none 0 0,.slice none 0 0] 46)) w.heap.size w.heap.size T [] [] [] (.slice none 0 0) (.slice none 0 0) (.slice none 0 0) (.slice none 0 0) (fun _=>0)):=
  hid ⟨World.alloc_heap_new w _,lR_ _,World.ownsRow_nil _ _ _ _,World.ownsRow_nil _ _ _ _,World.ownsRow_nil _ _ _ _,fun i r h=>by simp at h,fun g h=>by simp[Value.ownBlock]at h,fun i h=>by simp at h,fun i j h=>by simp at h⟩
 clear hT hNN htk hnm hz0 hz1
 go_loopw [6,7] (fun x i wr=>∃(k xk:Nat) (pu dr:List Nat) (sw:List (List Nat)) (vP vD vS:Value) (sg:Nat->Nat),k<=T/\i=ab k/\x=ab xk/\xk<=2+4*k/\Hid (T6 T k pu dr sw)/\Hid (EM wr w.heap.size w.heap.size T pu dr sw (.slice none 0 0) vP vD vS sg)/\Hid (Below w.heap.size w wr)) (fun _ i _=>T - (intOf i).toNat)
 case atStart=>exact⟨0,2,[],[],[],_,_,_,_,Nat.zero_le _,rfl,rfl,by omega,hid ⟨rfl,rfl,rfl,fun x h=>(by cases h),fun x h=>(by cases h),fun x h=>(by cases h),fun i r h=>y82Z⟩,HT0,HB0⟩
 case round=>
  clear HT0 HB0;obtain⟨k,xk,pu,dr,sw,vP,vD,vS,sg,hk,rfl,rfl,hxk,hP,hV,hbr⟩:=hrel
  by_cases hlt:k<T
  ·have hsz:=hbr.out.size
   have c1:=hV.out.cells.2.1;have hbw:w.heap.size<wr.heap.size:=lt_of_block hV.out.blk;have hrow:=hV.out.puts;have hpl:=hP.out.pl;rw[hpl]at hrow;have fB:some w.heap.size≠vP.ownBlock:=fun e=>A6 hrow hV.out.blk (by decide) e.symm
   go_wp2;refine AE (fun w'=>w'.cell? (af w.heap.size 1)=some vP) y1Z y1Z c1 (fun hH=>?_);simp only[AC,BM,AO];refine tB 0 hH ?_;refine tB 1 hH ?_;refine tB 2 hH ?_;refine tB 3 hH ?_;refine tB 4 hH ?_;refine tB 5 hH ?_;refine tB 6 hH ?_;refine tL ?_;refine tS 7 fun K hK=>?_
   refine tM ?_
   go_simp;refine(KY v xk (by omega) _ (HV.out.below (bdr hbr.out))).mono ?_;rintro e w' ⟨⟨z,rfl,hz⟩,rfl⟩;try dsimp only
   refine hK.out _ _ ?_ fun hH=>?_
   ·exact hH
   clear hK K;refine tL ?_;refine tS 8 fun K hK=>?_
   refine tM ?_
   go_simp;refine(I3 z 9 (by omega) hz _).mono ?_;rintro e w' ⟨⟨r,hr,rfl⟩,rfl⟩;obtain⟨x,hx⟩:∃x:Nat,x=1+r:=⟨_,rfl⟩;have hwr:IntKind.i64.wrap (1+(r:Int))=(x:Int):=(by rw[w64];omega);have hx9:1<=x/\x<=9:=(by omega);clear hx hr;try dsimp only
   refine hK.out _ _ ?_ fun hH=>?_
   ·exact hH
   clear hK K;refine tB 9 hH ?_;refine tL ?_;refine tS 10 fun K hK=>?_
   refine tM ?_;go_simp;refine hK.out _ _ ?_ fun hH=>?_
   ·exact A2 _ hH
   clear hK K;refine tL ?_;refine tS 11 fun K hK=>?_
   refine tM ?_;rw[if_pos (by rfl)];refine wp_append_lies _ (.tmp 36) (.tmp 42) 22 rfl w.heap.size 3 iI (ab 0) 1 8 Tryz.underlying22 hiI hzI0 hzI1 hzI2 rfl (by decide) vP _ _ rfl (hrow.alloc _) (af wr.heap.size 0) 1 1 [ab (x:Int)] rfl rfl (World.news_of_block (fr:=(0,0)) (heap_alloc_new wr _)) y4Z (by omega) y3Z (by omega) y2Z _ rfl ?_;intro g' cap' w4 hown hgrow hat hlt';refine hK.out _ _ ?_ fun hH=>?_
   ·exact(hgrow.cell_far _ y2Z (by exact fB)).trans hH
   clear hK K;refine tB 12 hH ?_;refine tB 13 hH ?_;refine tB 14 hH ?_;refine tL ?_;refine wpAnyH_done y1Z ?_ _;have hkeep:A1 wr w4 vP.ownBlock.toList:=(((A1.refl wr _).alloc (Obj.cells #[ab (x:Int)] 3)).drew).grown hgrow (fun q hq=>.inl y13Z);have hb4:=(hkeep.block w.heap.size hbw (fun hm=>fB (BE hm).symm)).trans hV.out.blk;have b14:w4.cell? (af w.heap.size 1)=some vP:=A0 hb4;have f14:w4.frozen? (af w.heap.size 1)=false:=A3 hb4;have hg':vP.ownBlock=some g'\/wr.heap.size<=g':=hat.imp id (fun e=>by rw[e];show wr.heap.size<=(wr.alloc _).heap.size;rw[World.size_alloc];omega);have hend:=hV.out.addPut (x:=x) hkeep hg' (by rw[hpl];exact hown);rw[hpl]at hend;have HV1:=hid hend;have HB1:Hid (Below w.heap.size w (w4.setCell (af w.heap.size 1) (ae g' (k+1) cap'))):=hid ((hbr.out.trans (hkeep.below hsz (KV hrow))).setCell y24Z _);have hX9:Hid (1<=x/\x<=9):=hid hx9;clear hend hkeep hown hgrow hat hlt' hH hb4 fB hrow hg' hwr hx9 hz c1 hV hbr
   show wpList _ _ _ _ _ _;go_wp2;obtain⟨W1,hW1⟩:=qE (w4.setCell (af w.heap.size 1) (ae g' (k+1) cap'));rw[hW1]at HV1 HB1 ⊢;obtain⟨vP1,hvP1⟩:=qE (Value.slice (some ⟨g',0,none⟩) (k+1) cap');simp only[ae]at HV1;rw[hvP1]at HV1 ⊢;clear hW1 hvP1 b14 f14 hsz hbw;have hsz:=HB1.out.size;have c1:=HV1.out.cells.2.2.1;have hbw:w.heap.size<W1.heap.size:=lt_of_block HV1.out.blk;have hrow:=HV1.out.drops;have hdl:=hP.out.dl;rw[hdl]at hrow;have fB:some w.heap.size≠vD.ownBlock:=fun e=>A6 hrow HV1.out.blk (by decide) e.symm
   obtain⟨y,hy⟩:∃y:Nat,y=xk+1:=⟨_,rfl⟩;have hwx:IntKind.i64.wrap ((xk:Int)+1)=(y:Int):=by rw[w64];omega
   have hyb:y<=3+4*k:=by omega
   clear hy;refine AE (fun w'=>w'.cell? (af w.heap.size 2)=some vD) y1Z y1Z c1 (fun hH=>?_);simp only[AC,BM,AO];refine tB 0 hH ?_;refine tB 1 hH ?_;refine tB 2 hH ?_;refine tB 3 hH ?_;refine tB 4 hH ?_;refine tB 5 hH ?_;refine tB 6 hH ?_;refine tB 7 hH ?_;refine tL ?_;refine tS 8 fun K hK=>?_
   refine tM ?_
   go_simp;refine(KY v y (by omega) _ (HV.out.below (bdr HB1.out))).mono ?_;rintro e w' ⟨⟨z,rfl,hz⟩,rfl⟩;try dsimp only
   refine hK.out _ _ ?_ fun hH=>?_
   ·exact hH
   clear hK K;refine tL ?_;refine tS 9 fun K hK=>?_
   refine tM ?_
   go_simp;refine(I3 z 9 (by omega) hz _).mono ?_;rintro e w' ⟨⟨r,hr,rfl⟩,rfl⟩;obtain⟨x2,hx⟩:∃x2:Nat,x2=1+r:=⟨_,rfl⟩;have hwr:IntKind.i64.wrap (1+(r:Int))=(x2:Int):=(by rw[w64];omega);have hx9:1<=x2/\x2<=9:=(by omega);clear hx hr;try dsimp only
   refine hK.out _ _ ?_ fun hH=>?_
   ·exact hH
   clear hK K;refine tB 10 hH ?_;refine tL ?_;refine tS 11 fun K hK=>?_
   refine tM ?_;go_simp;refine hK.out _ _ ?_ fun hH=>?_
   ·exact A2 _ hH
   clear hK K;refine tL ?_;refine tS 12 fun K hK=>?_
   refine tM ?_;rw[if_pos (by rfl)];refine wp_append_lies _ (.tmp 50) (.tmp 57) 22 rfl w.heap.size 3 iI (ab 0) 1 8 Tryz.underlying22 hiI hzI0 hzI1 hzI2 rfl (by decide) vD _ _ rfl (hrow.alloc _) (af W1.heap.size 0) 1 1 [ab (x2:Int)] rfl rfl (World.news_of_block (fr:=(0,0)) (heap_alloc_new W1 _)) y4Z (by omega) y3Z (by omega) y2Z _ rfl ?_;intro g' cap' w4 hown hgrow hat hlt';refine hK.out _ _ ?_ fun hH=>?_
   ·exact(hgrow.cell_far _ y2Z (by exact fB)).trans hH
   clear hK K;refine tB 13 hH ?_;refine tB 14 hH ?_;refine tB 15 hH ?_;refine tL ?_;refine wpAnyH_done y1Z ?_ _;have hkeep:A1 W1 w4 vD.ownBlock.toList:=(((A1.refl W1 _).alloc (Obj.cells #[ab (x2:Int)] 3)).drew).grown hgrow (fun q hq=>.inl y13Z);have hb4:=(hkeep.block w.heap.size hbw (fun hm=>fB (BE hm).symm)).trans HV1.out.blk;have b14:w4.cell? (af w.heap.size 2)=some vD:=A0 hb4;have f14:w4.frozen? (af w.heap.size 2)=false:=A3 hb4;have hg':vD.ownBlock=some g'\/W1.heap.size<=g':=hat.imp id (fun e=>by rw[e];show W1.heap.size<=(W1.alloc _).heap.size;rw[World.size_alloc];omega);have hend:=HV1.out.addDrop (x:=x2) hkeep hg' (by rw[hdl];exact hown);rw[hdl]at hend;have HV2:=hid hend;have HB2:Hid (Below w.heap.size w (w4.setCell (af w.heap.size 2) (ae g' (k+1) cap'))):=hid ((HB1.out.trans (hkeep.below hsz (KV hrow))).setCell y24Z _);have hX92:Hid (1<=x2/\x2<=9):=hid hx9
   clear hend hkeep hown hgrow hat hH hb4 fB hrow hg' hwr hx9 hz c1 HV1 HB1 hwx hyb;show wpList _ _ _ _ _ _;go_wp2;obtain⟨W2,hW2⟩:=qE (w4.setCell (af w.heap.size 2) (ae g' (k+1) cap'));rw[hW2]at HV2 HB2 ⊢;obtain⟨vD1,hvD1⟩:=qE (Value.slice (some ⟨g',0,none⟩) (k+1) cap');simp only[ae]at HV2;rw[hvD1]at HV2 ⊢;clear hW2 hvD1 b14 f14 hsz hbw;have hsz:=HB2.out.size;have c1:=HV2.out.cells.2.2.2;have hbw:w.heap.size<W2.heap.size:=lt_of_block HV2.out.blk;have hrow:=HV2.out.swaps;have hsl:=hP.out.sl;rw[hsl]at hrow;have fB:some w.heap.size≠vS.ownBlock:=fun e=>A6 hrow HV2.out.blk (by decide) e.symm
   refine AE (fun w'=>w'.cell? (af w.heap.size 3)=some vS) y1Z y1Z c1 (fun hH=>?_);simp only[AC,BM,AO];refine tB 0 hH ?_;refine tB 1 hH ?_;refine tB 2 hH ?_;refine tB 3 hH ?_;refine tB 4 hH ?_;refine tB 5 hH ?_;refine tL ?_;refine tS 6 fun K hK=>?_
   refine tM ?_;rw[if_pos (by rfl)];refine G7 _ (.tmp 66) (.tmp 66) 22 rfl 3 iI (ab 0) Tryz.underlying22 hiI hzI0 T rfl rfl (by rw[hzI2];omega) (by omega) ?_;rw[hzI1];obtain⟨X,hX⟩:=qE (W2.drew.alloc (Obj.cells (madeCells (ab 0).cells (T*1)) 3));rw[hX];have hXs:X.heap.size=W2.heap.size+1:=(by rw[<-hX,World.size_alloc];rfl);have hrowX:=(by rw[<-hX];exact(A8 hrow ((A1.refl W2 []).drew.alloc _) (by simp)):X.ownsRow w.heap.size 22 1 vS k ((List.range k).map fun i=>Value.slice (some ⟨sg i,0,none⟩) T T));have HXs:Hid (X.heap.size=W2.heap.size+1):=hid hXs;have hXl:W2.heap.size<X.heap.size:=(by omega);have hXw:w.heap.size<X.heap.size:=(by omega);clear hXs;refine hK.out _ _ ?_ fun hH=>?_
   ·exact(by rw[<-hX];exact A2 _ hH)
   clear hK K;refine tL ?_;refine tS 7 fun K hK=>?_
   refine tM ?_;go_simp;refine hK.out _ _ ?_ fun hH=>?_
   ·exact A2 _ hH
   clear hK K;refine tL ?_;refine tS 8 fun K hK=>?_
   refine tM ?_;rw[if_pos (by rfl)];refine wp_append_lies _ (.tmp 65) (.tmp 68) 44 rfl w.heap.size 22 iJ (.slice none 0 0) 1 24 Tryz.underlying44 hiJ hzJ0 hzJ1 hzJ2 rfl (by decide) vS _ _ rfl (hrowX.alloc _) (af X.heap.size 0) 1 1 [ae W2.heap.size T T] rfl rfl (World.news_of_block (fr:=(0,0)) (heap_alloc_new X _)) y4Z (by omega) y3Z (by omega) y2Z _ rfl ?_;intro g' cap' w4 hown hgrow hat hlt';refine hK.out _ _ ?_ fun hH=>?_
   ·exact(hgrow.cell_far _ y2Z (by exact fB)).trans hH
   clear hK K;refine tB 9 hH ?_;refine tB 10 hH ?_;refine tB 11 hH ?_;refine tL ?_;refine wpAnyH_done y1Z ?_ _;have hkeep1:A1 W2 X []:=by rw[<-hX];exact(A1.refl W2 []).drew.alloc _
   have hkeep2:A1 X w4 vS.ownBlock.toList:=((A1.refl X _).alloc _).grown hgrow (fun q hq=>.inl y13Z);have hz:X.heap[W2.heap.size]?=some (.cells (IK (List.replicate T 0)).toArray 3 (0,0)):=by
    rw[<-hX,<-lO];exact World.alloc_heap_new W2.drew _
   have hend:=HV2.out.addSwap (cap:=cap') hsz (by rw[hsl,lA,hP.out.pl];simp) hz hkeep1 hkeep2 (by rw[hsl];exact hown);rw[hsl]at hend;have hkeep:=(hkeep1.mono (T:=vS.ownBlock.toList) (fun q hq=>by cases hq)).trans hkeep2;have hb4:=(hkeep.block w.heap.size hbw (fun hm=>fB (BE hm).symm)).trans HV2.out.blk;have b14:w4.cell? (af w.heap.size 3)=some vS:=A0 hb4;have f14:w4.frozen? (af w.heap.size 3)=false:=A3 hb4;have HV3:=hid hend;have HB3:Hid (Below w.heap.size w (w4.setCell (af w.heap.size 3) (ae g' (k+1) cap'))):=hid ((HB2.out.trans (hkeep.below hsz (KV hrow))).setCell y24Z _);have hk5:k<=5:=by omega
   have hT2T:((2*T:Nat):Int)=2*(T:Int):=by omega
   have PK:=fun z hz w=>I3 z (2*T) (by omega) hz w
   rw[hT2T]at PK;have hx2T:((xk+2:Nat):Int)=(xk:Int)+2:=by omega
   have AT:=fun w hv=>KY v (xk+2) (by omega) w hv
   rw[hx2T]at AT;clear hend hkeep hkeep1 hkeep2 hown hgrow hat hH hb4 fB hrow hz c1 HV2 HB2 hX hrowX HXs hXl hXw hT2T hx2T;show wpList _ _ _ _ _ _
   go_upto_region 12 with(first
    | (go_at_call 13;refine(AT _ (HV.out.below HB3.out)).mono ?_;rintro e w' ⟨⟨z,rfl,hz⟩,rfl⟩)
    | (go_at_call 12;refine(PK z hz _).mono ?_;rintro e w' ⟨⟨j,hj,rfl⟩,rfl⟩))
   obtain⟨W3,hW3⟩:=qE (w4.setCell (af w.heap.size 3) (ae g' (k+1) cap'));rw[hW3]at HV3 HB3 ⊢;obtain⟨sg3,hsg3⟩:∃f:Nat->Nat,(fun i=>if i=k then W2.heap.size else sg i)=f:=⟨_,rfl⟩;rw[hsg3]at HV3;have HSL:Hid (sw.length=k):=hid hsl;clear hW3 hsg3 b14 f14 hsz hbw AT PK hsl hz hpl hdl;have hrk:(sw++ [List.replicate T 0])[k]?=some (List.replicate T 0):=by rw[aR_ (by rw[HSL.out];exact lR_ _),HSL.out,Nat.sub_self];rfl
   have c3:=HV3.out.cells.2.2.2;have hll:(sw++ [List.replicate T 0]).length=k+1:=by rw[lA,HSL.out];rfl
   have cg:W3.cell? (af g' k)=some (.slice (some ⟨sg3 k,0,none⟩) T T):=by
    have h1:=HV3.out.swaps;rw[hll]at h1;rw[h1.cellAt k (by omega),gM,List.getElem?_range (by omega)];rfl
   obtain⟨hs1,hs2,_⟩:=HV3.out.rows k _ hrk;have hj9:Hid (j<2*T):=hid hj;have HRK:=hid hrk;have hgl:g'<W3.heap.size:=World.block_lt_of_cell? _ _ cg;have hsl3:sg3 k<W3.heap.size:=lt_of_block hs1;have hbl:w.heap.size<W3.heap.size:=lt_of_block HV3.out.blk;clear hll hrk hj
   by_cases hj1:j<T
   ·have hj1i:(j:Int)< (T:Int):=by omega
    by_cases hj2:j=k
    ·subst hj2
     clear c3 cg hs1;go_wp2
     go_roundw
     case rel=>exact⟨j+1,xk+4,_,_,_,_,_,_,_,by omega,by go_num,by go_num,by omega,hid (hP.out.add hX9.out hX92.out (by simp) (fun y hy=>by rw[List.eq_of_mem_replicate hy];omega) (TH T _)),HV3,HB3⟩
     case measure=>simp[intOf];omega
    ·have hj2i:((j:Int)==(k:Int))=false:=by simp;omega
     have cs:W3.cell? ⟨sg3 k,j,none⟩=some (ab 0):=by
      rw[A0 hs1];simp[IK,hj1]
     have fs:W3.frozen? ⟨sg3 k,j,none⟩=false:=A3 hs1;have hx3T:((xk+3:Nat):Int)=(xk:Int)+3:=by omega
     have AT:=fun w hv=>KY v (xk+3) (by omega) w hv
     rw[hx3T]at AT;have hTj:(T:Int)<=6:=by omega
     have hkk:(k:Int)< (k:Int)+1:=by omega
     have HW3:Hid (IntKind.i64.wrap ((xk:Int)+3)=(xk:Int)+3):=hid (by rw[w64];omega);clear hs1 hx3T
     go_upto_region 13 with fail
     refine AE (fun w'=>w'.cell? (af w.heap.size 3)=some (ae g' (k+1) cap')/\w'.cell? (af g' k)=some (.slice (some ⟨sg3 k,0,none⟩) T T)) y1Z y1Z ⟨c3,cg⟩ (fun hH=>?_);simp only[AC,BM,AO];refine tB 0 hH ?_;refine tB 1 hH ?_;refine tB 2 hH ?_;refine tB 3 hH ?_;refine tB 4 hH ?_;refine tB 5 hH ?_;refine tB 6 hH ?_;refine tB 7 hH ?_;refine tB 8 hH ?_;refine tB 9 hH ?_;refine tB 10 hH ?_;refine tL ?_;refine tS 11 fun K hK=>?_
     refine tM ?_
     go_simp;rw[HW3.out];refine(AT _ (HV.out.below (bdr HB3.out))).mono ?_;rintro e w' ⟨⟨z,rfl,hz⟩,rfl⟩;try dsimp only
     refine hK.out _ _ ?_ fun hH=>?_
     ·exact hH
     clear hK K;refine tL ?_;refine tS 12 fun K hK=>?_
     refine tM ?_
     go_simp;refine(I3 z 9 (by omega) hz _).mono ?_;rintro e w' ⟨⟨r,hr,rfl⟩,rfl⟩;obtain⟨x3,hx⟩:∃x3:Nat,x3=1+r:=⟨_,rfl⟩;have hwr:IntKind.i64.wrap (1+(r:Int))=(x3:Int):=(by rw[w64];omega);have hx9:x3<=9:=(by omega);clear hx hr;try dsimp only
     refine hK.out _ _ ?_ fun hH=>?_
     ·exact hH
     clear hK K;refine tB 13 hH ?_;refine tB 14 hH ?_;refine tB 15 hH ?_;refine tL ?_;refine wpAnyH_done y1Z ?_ _;clear hH;have h1:=HV3.out.putSwap (j:=j) (x:=x3) HRK.out;have hset:(sw++ [List.replicate T 0]).set k ((List.replicate T 0).set j x3)=sw++ [(List.replicate T 0).set j x3]:=by
      rw[List.set_append_right _ _ (by rw[HSL.out];exact lR_ _),HSL.out,Nat.sub_self];rfl
     rw[hset]at h1;clear hset;have HV5:=hid (h1.below (Below.refl _ _).drew);clear h1;have HB4:Hid (Below w.heap.size w (W3.setCell ⟨sg3 k,j,none⟩ (ab (x3:Int)))):=hid (HB3.out.setCell y61Z _);have hX3:Hid (x3<=9):=hid hx9;clear hwr hx9 hz c3 cg HV3;show wpList _ _ _ _ _ _;go_wp2
     go_roundw
     case rel=>
      refine⟨k+1,xk+4,_,_,_,_,_,_,_,by omega,by go_num,by go_num,by omega,hid (hP.out.add hX9.out hX92.out (r:=(List.replicate T 0).set j x3) (by simp) (fun y hy=>?_) ?_),HV5,hid HB4.out.drew⟩
      ·rcases List.mem_or_eq_of_mem_set hy with h |h
       ·rw[List.eq_of_mem_replicate h];omega
       ·rw[h];exact hX3.out
      ·rw[gD_,List.getElem?_set_ne hj2,<-gD_]
       exact TH T k
     case measure=>simp[intOf];omega
   ·have hj1i:¬((j:Int)< (T:Int)):=by omega
    clear c3 cg hs1;go_wp2
    go_roundw
    case rel=>exact⟨k+1,xk+4,_,_,_,_,_,_,_,by omega,by go_num,by go_num,by omega,hid (hP.out.add hX9.out hX92.out (by simp) (fun y hy=>by rw[List.eq_of_mem_replicate hy];omega) (TH T _)),HV3,HB3⟩
    case measure=>simp[intOf];omega
  ·have HPT:Hid (T6 T T pu dr sw):=hid (by have h1:=hP.out;rwa [show k=T by omega]at h1)
   have hx26:xk<=26:=by omega
   have HN0:Hid (NsV wr w.heap.size (.slice none 0 0) [] (fun _=>0) (fun _=>0) (fun _ _=>0) (fun _ _=>0)):=hid ⟨World.ownsRow_nil _ _ _ _,fun n rs h=>by simp at h,fun n k n' k' rs rs' h=>by simp at h⟩;clear hP;go_wp2
   go_loopw [6,9] (fun x nv wn=>∃(n xn:Nat) (L:List (List (List Pt))) (vR:Value) (gn cn:Nat->Nat) (gr cr:Nat->Nat->Nat),n<=NN/\nv=ab n/\x=ab xn/\xn<=26+25*n/\Hid (TE T NN n L)/\Hid (EM wn w.heap.size w.heap.size T pu dr sw vR vP vD vS sg)/\Hid (NsV wn w.heap.size vR L gn cn gr cr)/\Hid (Below w.heap.size w wn)) (fun _ nv _=>NN - (intOf nv).toNat)
   case atStart=>exact⟨0,xk,[],_,_,_,_,_,Nat.zero_le _,rfl,rfl,by omega,hid ⟨rfl,fun rs h=>(by cases h),fun rs h=>(by cases h),fun rs h=>(by cases h),fun rs h=>(by cases h),fun m rs h=>y82Z⟩,hV,HN0,hbr⟩
   case round=>
    clear HN0 hV hbr hx26 hxk hk hlt;obtain⟨n,xn,L,vR,gn,cn,gr,cr,hn,rfl,rfl,hxn,hNP,hTV,hNS,hbn⟩:=hrel;obtain⟨wn,hwn⟩:=qF (wr);subst hwn
    by_cases hln:n<NN
    ·have AT:=fun w hv=>KY v xn (by omega) w hv
     have hTi:0<T:=by omega
     go_upto_region 19 with(first
      | (go_at_call 13;refine(AT _ (HV.out.below hbn.out)).mono ?_;rintro e w' ⟨⟨z,rfl,hz⟩,rfl⟩)
      | (go_at_call 12;refine(I3 z T hTi hz _).mono ?_;rintro e w' ⟨⟨r,hr,rfl⟩,rfl⟩))
     obtain⟨cnt,hcnt⟩:∃cnt:Nat,(1+(r:Int))=(cnt:Int):=⟨1+r,by omega⟩;have hcT:1<=cnt/\cnt<=T:=by omega
     have hT6:T<=6:=hT2.2;rw[hcnt];have HNB:Hid (w.heap.size<=wn.heap.size/\(∀m,m<L.length->gn m<wn.heap.size)/\∀(m:Nat) rs (k:Nat),L[m]?=some rs->k<rs.length->gr m k<wn.heap.size):=hid ⟨hbn.out.size,fun m hm=>by
      obtain⟨rs,hrs⟩:∃rs,L[m]?=some rs:=⟨_,gE hm⟩;exact CK (hNS.out.each m rs hrs).row rfl,fun m rs k h1 h2=>((hNS.out.each m rs h1).lt h2).2⟩
     have HR0:Hid (RsV wn wn.heap.size (.slice none 0 0) [] (fun _=>0) (fun _=>0)):=hid ⟨World.ownsRow_nil _ _ _ _,fun k r h=>by simp at h⟩;clear hcnt hr hz AT hTi;go_wp2
     go_loopw [6,11,12] (fun x vq kv wk=>∃(k xk:Nat) (rs:List (List Pt)) (v11:Value) (gk ck:Nat->Nat),k<=cnt/\kv=ab k/\x=ab xk/\xk<=xn+1+4*k/\v11=vq/\Hid (O3 T NN n cnt k rs)/\Hid (RsV wk wn.heap.size v11 rs gk ck)/\Hid (∀i j,i<rs.length->j<rs.length->gk i=gk j->i=j)/\Hid (EM wk w.heap.size w.heap.size T pu dr sw vR vP vD vS sg)/\Hid (NsV wk w.heap.size vR L gn cn gr cr)/\Hid (Below w.heap.size w wk)/\Hid (wn.heap.size<=wk.heap.size)) (fun _ _ kv _=>cnt - (intOf kv).toNat)
     case atStart=>exact⟨0,xn+1,[],_,_,_,Nat.zero_le _,rfl,by go_num,by omega,rfl,hid ⟨rfl,fun i r h=>y82Z,fun r h=>(by cases h),fun i r h=>y82Z,fun r h=>y82Z⟩,HR0,hid (fun i j h=>y82Z),hTV,hNS,hbn,hid (lR_ _)⟩
     case round=>
      clear HR0 hTV hNS hbn;obtain⟨k,xk,rs,v11,gk,ck,hk,rfl,rfl,hxk,rfl,hRP,hRS,hIJ,hTV,hNS,hbn,hsz⟩:=hrel;obtain⟨wk,hwk⟩:=qF (wr);subst hwk
      by_cases hlk:k<cnt
      ·have hk6:k<6:=by omega
       have AT:=fun w hv=>KY v xk (by omega) w hv
       go_upto_region 26 with(first
        | (go_at_call 10;refine(GD k hk6 _).mono ?_;rintro e w' ⟨rfl,rfl⟩)
        | (go_at_call 13;refine(AT _ (HV.out.below (bal hbn.out))).mono ?_;rintro e w' ⟨⟨z,rfl,hz⟩,rfl⟩)
        | (go_at_call 12;refine(I3 z 4 (by omega) hz _).mono ?_;rintro e w' ⟨⟨sz,hsz4,rfl⟩,rfl⟩))
       obtain⟨W0,hW0⟩:=qE (wk.alloc (.cells #[.string (A7 k)] 9));rw[hW0];have hbk:Below wk.heap.size wk W0:=by rw[<-hW0];exact bal (Below.refl _ _)
       have HRow0:Hid (W0.ownsRow wk.heap.size 9 1 (ae wk.heap.size 1 1) ([Pt.tok k]).length (wds [.tok k])):=hid (by rw[<-hW0];exact PG wk #[.string (A7 k)] 1 1 9 wk.heap.size (lR_ _) y3Z rfl);have HTV0:=hid (hTV.out.below hbk);have HNS0:=hid (hNS.out.keeps (A1.of_below hbk []) (GU _ _) (fun _ _=>by simp) (fun _ _ _ _ _=>by simp));have HRS0:=hid (hRS.out.keeps (A1.of_below hbk []) (GU _ _) (fun _ _=>by simp));have hwk0:w.heap.size<=wk.heap.size:=lT_ HNB.out.1 hsz.out;have HB0:Hid (Below w.heap.size w W0):=hid (hbn.out.trans (hbk.mono hwk0));have HS0:Hid (wk.heap.size<=W0.heap.size):=hid hbk.size;have HGB:Hid (∀i,i<rs.length->gk i<wk.heap.size):=hid (fun i hi=>(hRS.out.lt hi).2);have hxk0:xk<=4*k+xn+1:=by omega
       clear hW0 hbk hz AT hTV hNS hRS hbn;go_wp2
       go_loopw [6,13,15] (fun x vr pv wp=>∃(p xp:Nat) (r:List Pt) (v13:Value),p<=sz/\pv=ab p/\x=ab xp/\xp<=xk+1+p/\v13=vr/\Hid (jX T NN cnt k p r)/\Hid (wp.ownsRow wk.heap.size 9 1 v13 r.length (wds r))/\Hid (EM wp w.heap.size w.heap.size T pu dr sw vR vP vD vS sg)/\Hid (NsV wp w.heap.size vR L gn cn gr cr)/\Hid (RsV wp wn.heap.size v11 rs gk ck)/\Hid (Below w.heap.size w wp)/\Hid (wk.heap.size<=wp.heap.size)) (fun _ _ pv _=>sz - (intOf pv).toNat)
       case atStart=>exact⟨0,xk+1,[.tok k],_,Nat.zero_le _,rfl,by go_num,by omega,rfl,hid ⟨rfl,rfl,fun q hq=>(by rw[mS.1 hq];show k<T;omega),fun _ q hq=>⟨k,mS.1 hq⟩⟩,HRow0,HTV0,HNS0,HRS0,HB0,HS0⟩
       case round=>
        clear HRow0 HTV0 HNS0 HRS0 HB0 HS0;obtain⟨p,xp,r,v13,hp,rfl,rfl,hxp,rfl,hPP,hRow,hTV,hNS,hRS,hbn,hsp⟩:=hrel;obtain⟨wp,hwp⟩:=qF (wr);subst hwp
        by_cases hlp:p<sz
        ·have AT:=fun w hv=>KY v xp (by omega) w hv
         have hTNT:((T+NN:Nat):Int)=(T:Int)+(NN:Int):=by omega
         have PK:=fun z hz w=>I3 z (T+NN) (by omega) hz w
         rw[hTNT]at PK
         go_upto_region 32 with(first
          | (go_at_call 13;refine(AT _ (HV.out.below hbn.out)).mono ?_;rintro e w' ⟨⟨z,rfl,hz⟩,rfl⟩)
          | (go_at_call 12;refine(PK z hz _).mono ?_;rintro e w' ⟨⟨c,hc,rfl⟩,rfl⟩))
         have hcTN:c<T+NN:=hc;have hpl:=hPP.out.len;have hrl5:r.length<=4:=by omega
         clear AT PK hTNT hz hc;have hrow:=hRow.out;have hspo:wk.heap.size<=wp.heap.size:=hsp.out
         by_cases hA:k+1=cnt
         ·have hAi:((k:Int)==(cnt:Int) - 1)=true:=by simp;omega
          clear hA;exact Mz19
         ·have hAi:((k:Int)==(cnt:Int) - 1)=false:=by simp;omega
          by_cases hcl:c<T
          ·have hci:(c:Int)< (T:Int):=by omega
           clear hcl;exact Mz19
          ·have hci:¬((c:Int)< (T:Int)):=by omega
           obtain⟨q,hq,hqN⟩:∃q:Nat,(c:Int) - (T:Int)=(q:Int)/\q<NN:=⟨c - T,by omega,by omega⟩;have KN:=QP q (by omega);rw[<-hq]at KN;have HA:Hid (¬k+1=cnt):=hid hA;clear hq hcl hA
           go_wp2_with (first
            | (go_at_call 14;refine(KN _).mono ?_;rintro e w' ⟨rfl,rfl⟩)
            | (at_builtin;refine wpList_append_lies _ rfl _ _ 30 rfl wk.heap.size 9 iS (.string ByteArray.empty) 1 16 Tryz.underlying30 hiS hzS0 hzS1 hzS2 rfl (by decide) _ _ _ rfl (hrow.alloc _) (af wp.heap.size 0) 1 1 [.string (BO q)] rfl rfl (World.news_of_block (heap_alloc_new wp _)) ?c2 (lR_ 1) ?c3 ?c4 ?c5 _ rfl ?_))
           case c2=>intro u hu;simp at hu;subst hu;rfl
           case c3=>unfold maxLen;omega
           case c4=>omega
           case c5=>simp;omega
           intro g3 cap3 w3 hown3 hgrow3 hat3 hlt3;have hkeep:A1 wp w3 v13.ownBlock.toList:=((A1.refl _ _).alloc _).grown hgrow3 (fun q hq=>.inl y13Z);have hSg:∀g∈v13.ownBlock.toList,wk.heap.size<=g:=fun g hm=>(hrow.lt g (BE hm)).1
           have HRow3:Hid (w3.ownsRow wk.heap.size 9 1 (ae g3 (p+1+1) cap3) (r++ [Pt.nam q]).length (wds (r++ [Pt.nam q]))):=hid y40Z;have HTV3:=hid (hTV.out.keeps hkeep (AJ hrow (by decide)) (AJ hrow (by decide)) (AJ hrow (by decide)));have HNS3:=hid (hNS.out.keeps hkeep (AJ hrow (by decide)) (fun m hm hx=>by have:=hSg _ hx;have:=HNB.out.2.1 m hm;have:=hsz.out;omega) (fun m rs' k' h1 h2 hx=>by have:=hSg _ hx;have:=HNB.out.2.2 m rs' k' h1 h2;have:=hsz.out;omega));have HRS3:=hid (hRS.out.keeps hkeep (AJ hrow (by decide)) (fun i hi hx=>by have:=hSg _ hx;have:=HGB.out i hi;omega));have HB3:Hid (Below w.heap.size w w3):=hid (hbn.out.trans (hkeep.below (by have:=hsp.out;omega) (fun q hq=>by have:=hSg q hq;omega)));have HP3:Hid (jX T NN cnt k (p+1) (r++ [Pt.nam q])):=hid ⟨by rw[lA,hPP.out.len];rfl,by have h1:=hPP.out.head;cases r with |nil=>cases h1 |cons a l=>exact h1,fun a ha=>by
            rcases List.mem_append.1 ha with ha |ha
            ·exact hPP.out.part a ha
            ·rw[mS.1 ha];exact(show q<NN from hqN),fun hl a ha=>by
            rcases List.mem_append.1 ha with ha |ha
            ·exact hPP.out.last hl a ha
            ·rw[mS.1 ha];exact absurd hl HA.out⟩
           have HS3:Hid (wk.heap.size<=w3.heap.size):=hid (lT_ hsp.out hkeep.size);clear hown3 hgrow3 hat3 hlt3 hkeep hrow hSg;go_wp2
           go_roundw
           case rel=>exact⟨p+1,xp+1,r++ [Pt.nam q],_,by omega,by go_num,by go_num,by omega,by rfl,HP3,HRow3,HTV3,HNS3,HRS3,HB3,HS3⟩
           case measure=>simp[intOf];omega
        ·have hpz:p=sz:=by omega
         subst hpz;have hrw:=hRow.out
         by_cases hk0:k=0
         ·have hk0i:((k:Int)==0)=true:=by simp;omega
          by_cases hc1:1<cnt
          ·have hc1i:(1:Int)< (cnt:Int):=by omega
           by_cases hnN:n+1<NN
           ·have hnNi:(n:Int)+1< (NN:Int):=by omega
            have HK0:Hid (k=0/\1<cnt):=hid ⟨hk0,hc1⟩;have hpl:=hPP.out.len;have hr4:r.length<=4:=by omega
            have hspo:wk.heap.size<=wp.heap.size:=hsp.out;have hn1T:((n+1:Nat):Int)=(n:Int)+1:=by omega
            have KN:=fun w=>QP (n+1) (by omega) w
            rw[hn1T]at KN;clear hk0 hn1T
            go_upto_region 38 with(first
             | (go_at_call 14;refine(KN _).mono ?_;rintro e w' ⟨rfl,rfl⟩)
             | (at_builtin;refine wpList_append_lies _ rfl _ _ 30 rfl wk.heap.size 9 iS (.string ByteArray.empty) 1 16 Tryz.underlying30 hiS hzS0 hzS1 hzS2 rfl (by decide) _ _ _ rfl (hrw.alloc _) (af wp.heap.size 0) 1 1 [.string (BO (n+1))] rfl rfl (World.news_of_block (heap_alloc_new wp _)) ?c2 (lR_ 1) ?c3 ?c4 ?c5 _ rfl ?_))
            case c2=>intro u hu;simp at hu;subst hu;rfl
            case c3=>unfold maxLen;omega
            case c4=>omega
            case c5=>simp;omega
            intro g3 cap3 w3 hown3 hgrow3 hat3 hlt3
            go_upto_region 38 with fail
            have hkeep:A1 wp w3 v13.ownBlock.toList:=((A1.refl _ _).alloc _).grown hgrow3 (fun q hq=>.inl y13Z);have hSg:∀g∈v13.ownBlock.toList,wk.heap.size<=g:=fun g hm=>(hrw.lt g (BE hm)).1
            have hrow3:w3.ownsRow wk.heap.size 9 1 (ae g3 (p+1+1) cap3) (r++ [Pt.nam (n+1)]).length (wds (r++ [Pt.nam (n+1)])):=by unfold wds at hown3 ⊢;rw[List.map_append,lA,hPP.out.len];exact hown3
            have HTV3:=hid (hTV.out.keeps hkeep (AJ hrw (by decide)) (AJ hrw (by decide)) (AJ hrw (by decide)));have HNS3:=hid (hNS.out.keeps hkeep (AJ hrw (by decide)) (fun m hm hx=>by have:=hSg _ hx;have:=HNB.out.2.1 m hm;have:=hsz.out;omega) (fun m rs' k' h1 h2 hx=>by have:=hSg _ hx;have:=HNB.out.2.2 m rs' k' h1 h2;have:=hsz.out;omega));have HRS3:=hid (hRS.out.keeps hkeep (AJ hrw (by decide)) (fun i hi hx=>by have:=hSg _ hx;have:=HGB.out i hi;omega));have HB3:Hid (Below w.heap.size w w3):=hid (hbn.out.trans (hkeep.below (by have:=hsp.out;omega) (fun q hq=>by have:=hSg q hq;omega)));have HS3:Hid (wk.heap.size<=w3.heap.size):=hid (lT_ hsp.out hkeep.size);clear hown3 hgrow3 hat3 hlt3 hkeep hrw hSg hpl;have hrw:=hrow3;clear hrow3;have hl13:p+1+1=(r++ [Pt.nam (n+1)]).length:=by rw[lA,hPP.out.len];rfl
            rw[<-hl13]at hrw;have hg1:wk.heap.size<=g3/\g3<w3.heap.size:=hrw.lt g3 rfl;have hl13s:p+1+1<=5:=by omega
            obtain⟨xs,hxs⟩:=qF ((List.range rs.length).map fun k=>Value.slice (some ⟨gk k,0,none⟩) ((rs.getD k []).length) (ck k));have hr11:=HRS3.out.row;rw[<-hxs,hRP.out.len]at hr11;have HRW:=hid hrw;have HXS:=hid hxs;have HL13:=hid hl13;clear hrw hxs hl13;have hwnW:wn.heap.size<=w3.heap.size:=by have:=hsz.out;have:=HS3.out;omega
            go_wp2_with (first | (at_builtin;refine wpList_append_lies _ rfl _ _ 34 rfl wn.heap.size 30 iR (.slice none 0 0) 1 24 Tryz.underlying34 hiR hzR0 hzR1 hzR2 rfl (by decide) _ _ _ rfl (hr11.alloc _) (af w3.heap.size 0) 1 1 [ae g3 (p+1+1) cap3] rfl rfl (World.news_of_block (heap_alloc_new w3 _)) ?d2 (lR_ 1) ?d3 ?d4 ?d5 _ rfl ?_))
            case d2=>first |rfl | (intro u hu;simp at hu;subst hu;rfl)
            case d3=>unfold maxLen;omega
            case d4=>omega
            case d5=>first |omega | (simp;omega)
            intro g4 cap4 w4 hown4 hgrow4 hat4 hlt4;have hkeep:A1 w3 w4 v11.ownBlock.toList:=((A1.refl _ _).alloc _).grown hgrow4 (fun q hq=>.inl y13Z);have hSg:∀g∈v11.ownBlock.toList,wn.heap.size<=g:=fun g hm=>(hr11.lt g (BE hm)).1
            have HRS4:Hid (RsV w4 wn.heap.size (ae g4 (k+1) cap4) (rs++ [r++ [Pt.nam (n+1)]]) (fun i=>if i=k then g3 else gk i) (fun i=>if i=k then cap3 else ck i)):=hid (by
             have h:=RsV.push HRS3.out (r:=r++ [Pt.nam (n+1)]) y29Z hkeep y22Z;rw[hRP.out.len]at h;exact h)
            have HIJ4:Hid (∀i j,i< (rs++ [r++ [Pt.nam (n+1)]]).length->j< (rs++ [r++ [Pt.nam (n+1)]]).length->(fun i=>if i=k then g3 else gk i) i=(fun i=>if i=k then g3 else gk i) j->i=j):=hid (fun i j hi hj he=>by
             rw[lA,List.length_singleton,hRP.out.len]at hi hj;simp only at he
             by_cases e1:i=k <;> by_cases e2:j=k
             ·omega
             ·exact Mz21
             ·exact Mz22
             ·rw[if_neg e1,if_neg e2]at he
              exact hIJ.out i j y14Z y14Z he)
            have HTV4:=hid (HTV3.out.keeps hkeep (AJ hr11 (by decide)) (AJ hr11 (by decide)) (AJ hr11 (by decide)));have HNS4:=hid (HNS3.out.keeps hkeep (AJ hr11 (by decide)) (fun m hm hx=>by have:=hSg _ hx;have:=HNB.out.2.1 m hm;omega) (fun m rs' k' h1 h2 hx=>by have:=hSg _ hx;have:=HNB.out.2.2 m rs' k' h1 h2;omega));have HB4:Hid (Below w.heap.size w w4):=hid (HB3.out.trans (hkeep.below y64Z (fun q hq=>by have:=hSg q hq;have:=HNB.out.1;omega)));have HRP4:Hid (O3 T NN n cnt (k+1) (rs++ [r++ [Pt.nam (n+1)]])):=hid (hRP.out.add ((by have h1:=hPP.out.head;cases r with |nil=>cases h1 |cons a l=>exact h1)) y53Z (fun a ha=>by
             rcases List.mem_append.1 ha with ha |ha
             ·exact hPP.out.part a ha
             ·rw[mS.1 ha];exact(show n+1<NN from hnN)) (fun h=>by have:=HK0.out;omega) (fun _ _ _=>List.mem_append_right _ (mS.2 rfl)))
            have HS4:Hid (wn.heap.size<=w4.heap.size):=hid (lT_ hwnW hkeep.size);clear hown4 hgrow4 hat4 hlt4 hkeep hr11 hSg;go_wp2
            go_roundw
            case rel=>exact⟨k+1,xp,rs++ [r++ [Pt.nam (n+1)]],_,_,_,by omega,by go_num,rfl,by omega,by rfl,HRP4,HRS4,HIJ4,HTV4,HNS4,HB4,HS4⟩
            case measure=>simp[intOf];omega
           ·have hnNi:¬((n:Int)+1< (NN:Int)):=by omega
            clear hk0;obtain⟨l13,hl13⟩:=qF ((r).length);rw[<-hl13]at hrw;obtain⟨g13,c13,hv13,hg1,hg2,hg3⟩:=AX hrw (show 0<l13 by rw[hl13];rw[hPP.out.len];omega);have hl13s:l13<=5:=by rw[hl13];rw[hPP.out.len];omega
            obtain⟨xs,hxs⟩:=qF ((List.range rs.length).map fun k=>Value.slice (some ⟨gk k,0,none⟩) ((rs.getD k []).length) (ck k));have hr11:=hRS.out.row;rw[<-hxs,hRP.out.len]at hr11;have HRW:=hid hrw;have HXS:=hid hxs;have HL13:=hid hl13;subst hv13;clear hrw hxs hl13;have hwnW:wn.heap.size<=wp.heap.size:=by have:=hsz.out;have:=hsp.out;omega
            go_wp2_with (first | (at_builtin;refine wpList_append_lies _ rfl _ _ 34 rfl wn.heap.size 30 iR (.slice none 0 0) 1 24 Tryz.underlying34 hiR hzR0 hzR1 hzR2 rfl (by decide) _ _ _ rfl (hr11.alloc _) (af wp.heap.size 0) 1 1 [ae g13 l13 c13] rfl rfl (World.news_of_block (heap_alloc_new wp _)) ?d2 (lR_ 1) ?d3 ?d4 ?d5 _ rfl ?_))
            case d2=>first |rfl | (intro u hu;simp at hu;subst hu;rfl)
            case d3=>unfold maxLen;omega
            case d4=>omega
            case d5=>first |omega | (simp;omega)
            intro g4 cap4 w4 hown4 hgrow4 hat4 hlt4;have hkeep:A1 wp w4 v11.ownBlock.toList:=((A1.refl _ _).alloc _).grown hgrow4 (fun q hq=>.inl y13Z);have hSg:∀g∈v11.ownBlock.toList,wn.heap.size<=g:=fun g hm=>(hr11.lt g (BE hm)).1
            have HRS4:Hid (RsV w4 wn.heap.size (ae g4 (k+1) cap4) (rs++ [r]) (fun i=>if i=k then g13 else gk i) (fun i=>if i=k then c13 else ck i)):=hid (by
             have h:=RsV.push hRS.out (r:=r) y29Z hkeep y22Z;rw[hRP.out.len]at h;exact h)
            have HIJ4:Hid (∀i j,i< (rs++ [r]).length->j< (rs++ [r]).length->(fun i=>if i=k then g13 else gk i) i=(fun i=>if i=k then g13 else gk i) j->i=j):=hid (fun i j hi hj he=>by
             rw[lA,List.length_singleton,hRP.out.len]at hi hj;simp only at he
             by_cases e1:i=k <;> by_cases e2:j=k
             ·omega
             ·exact Mz21
             ·exact Mz22
             ·rw[if_neg e1,if_neg e2]at he
              exact hIJ.out i j y14Z y14Z he)
            have HTV4:=hid (hTV.out.keeps hkeep (AJ hr11 (by decide)) (AJ hr11 (by decide)) (AJ hr11 (by decide)));have HNS4:=hid (hNS.out.keeps hkeep (AJ hr11 (by decide)) (fun m hm hx=>by have:=hSg _ hx;have:=HNB.out.2.1 m hm;omega) (fun m rs' k' h1 h2 hx=>by have:=hSg _ hx;have:=HNB.out.2.2 m rs' k' h1 h2;omega));have HB4:Hid (Below w.heap.size w w4):=hid (hbn.out.trans (hkeep.below y64Z (fun q hq=>by have:=hSg q hq;have:=HNB.out.1;omega)));have HRP4:Hid (O3 T NN n cnt (k+1) (rs++ [r])):=hid (hRP.out.add (hPP.out.head) y53Z (hPP.out.part) (hPP.out.last) (fun _ _ h=>absurd h hnN));exact Mz20
          ·have hc1i:¬((1:Int)< (cnt:Int)):=by omega
           clear hk0;obtain⟨l13,hl13⟩:=qF ((r).length);rw[<-hl13]at hrw;obtain⟨g13,c13,hv13,hg1,hg2,hg3⟩:=AX hrw (show 0<l13 by rw[hl13];rw[hPP.out.len];omega);have hl13s:l13<=5:=by rw[hl13];rw[hPP.out.len];omega
           obtain⟨xs,hxs⟩:=qF ((List.range rs.length).map fun k=>Value.slice (some ⟨gk k,0,none⟩) ((rs.getD k []).length) (ck k));have hr11:=hRS.out.row;rw[<-hxs,hRP.out.len]at hr11;have HRW:=hid hrw;have HXS:=hid hxs;have HL13:=hid hl13;subst hv13;clear hrw hxs hl13;have hwnW:wn.heap.size<=wp.heap.size:=by have:=hsz.out;have:=hsp.out;omega
           go_wp2_with (first | (at_builtin;refine wpList_append_lies _ rfl _ _ 34 rfl wn.heap.size 30 iR (.slice none 0 0) 1 24 Tryz.underlying34 hiR hzR0 hzR1 hzR2 rfl (by decide) _ _ _ rfl (hr11.alloc _) (af wp.heap.size 0) 1 1 [ae g13 l13 c13] rfl rfl (World.news_of_block (heap_alloc_new wp _)) ?d2 (lR_ 1) ?d3 ?d4 ?d5 _ rfl ?_))
           case d2=>first |rfl | (intro u hu;simp at hu;subst hu;rfl)
           case d3=>unfold maxLen;omega
           case d4=>omega
           case d5=>first |omega | (simp;omega)
           intro g4 cap4 w4 hown4 hgrow4 hat4 hlt4;have hkeep:A1 wp w4 v11.ownBlock.toList:=((A1.refl _ _).alloc _).grown hgrow4 (fun q hq=>.inl y13Z);have hSg:∀g∈v11.ownBlock.toList,wn.heap.size<=g:=fun g hm=>(hr11.lt g (BE hm)).1
           have HRS4:Hid (RsV w4 wn.heap.size (ae g4 (k+1) cap4) (rs++ [r]) (fun i=>if i=k then g13 else gk i) (fun i=>if i=k then c13 else ck i)):=hid (by
            have h:=RsV.push hRS.out (r:=r) y29Z hkeep y22Z;rw[hRP.out.len]at h;exact h)
           have HIJ4:Hid (∀i j,i< (rs++ [r]).length->j< (rs++ [r]).length->(fun i=>if i=k then g13 else gk i) i=(fun i=>if i=k then g13 else gk i) j->i=j):=hid (fun i j hi hj he=>by
            rw[lA,List.length_singleton,hRP.out.len]at hi hj;simp only at he
            by_cases e1:i=k <;> by_cases e2:j=k
            ·omega
            ·exact Mz21
            ·exact Mz22
            ·rw[if_neg e1,if_neg e2]at he
             exact hIJ.out i j y14Z y14Z he)
           have HTV4:=hid (hTV.out.keeps hkeep (AJ hr11 (by decide)) (AJ hr11 (by decide)) (AJ hr11 (by decide)));have HNS4:=hid (hNS.out.keeps hkeep (AJ hr11 (by decide)) (fun m hm hx=>by have:=hSg _ hx;have:=HNB.out.2.1 m hm;omega) (fun m rs' k' h1 h2 hx=>by have:=hSg _ hx;have:=HNB.out.2.2 m rs' k' h1 h2;omega));have HB4:Hid (Below w.heap.size w w4):=hid (hbn.out.trans (hkeep.below y64Z (fun q hq=>by have:=hSg q hq;have:=HNB.out.1;omega)));have HRP4:Hid (O3 T NN n cnt (k+1) (rs++ [r])):=hid (hRP.out.add (hPP.out.head) y53Z (hPP.out.part) (hPP.out.last) (fun _ h _=>absurd h hc1));exact Mz20
         ·have hk0i:((k:Int)==0)=false:=by simp;omega
          obtain⟨l13,hl13⟩:=qF ((r).length);rw[<-hl13]at hrw;obtain⟨g13,c13,hv13,hg1,hg2,hg3⟩:=AX hrw (show 0<l13 by rw[hl13];rw[hPP.out.len];omega);have hl13s:l13<=5:=by rw[hl13];rw[hPP.out.len];omega
          obtain⟨xs,hxs⟩:=qF ((List.range rs.length).map fun k=>Value.slice (some ⟨gk k,0,none⟩) ((rs.getD k []).length) (ck k));have hr11:=hRS.out.row;rw[<-hxs,hRP.out.len]at hr11;have HRW:=hid hrw;have HXS:=hid hxs;have HL13:=hid hl13;subst hv13;clear hrw hxs hl13;have hwnW:wn.heap.size<=wp.heap.size:=by have:=hsz.out;have:=hsp.out;omega
          go_wp2_with (first | (at_builtin;refine wpList_append_lies _ rfl _ _ 34 rfl wn.heap.size 30 iR (.slice none 0 0) 1 24 Tryz.underlying34 hiR hzR0 hzR1 hzR2 rfl (by decide) _ _ _ rfl (hr11.alloc _) (af wp.heap.size 0) 1 1 [ae g13 l13 c13] rfl rfl (World.news_of_block (heap_alloc_new wp _)) ?d2 (lR_ 1) ?d3 ?d4 ?d5 _ rfl ?_))
          case d2=>first |rfl | (intro u hu;simp at hu;subst hu;rfl)
          case d3=>unfold maxLen;omega
          case d4=>omega
          case d5=>first |omega | (simp;omega)
          intro g4 cap4 w4 hown4 hgrow4 hat4 hlt4;have hkeep:A1 wp w4 v11.ownBlock.toList:=((A1.refl _ _).alloc _).grown hgrow4 (fun q hq=>.inl y13Z);have hSg:∀g∈v11.ownBlock.toList,wn.heap.size<=g:=fun g hm=>(hr11.lt g (BE hm)).1
          have HRS4:Hid (RsV w4 wn.heap.size (ae g4 (k+1) cap4) (rs++ [r]) (fun i=>if i=k then g13 else gk i) (fun i=>if i=k then c13 else ck i)):=hid (by
           have h:=RsV.push hRS.out (r:=r) y29Z hkeep y22Z;rw[hRP.out.len]at h;exact h)
          have HIJ4:Hid (∀i j,i< (rs++ [r]).length->j< (rs++ [r]).length->(fun i=>if i=k then g13 else gk i) i=(fun i=>if i=k then g13 else gk i) j->i=j):=hid (fun i j hi hj he=>by
           rw[lA,List.length_singleton,hRP.out.len]at hi hj;simp only at he
           by_cases e1:i=k <;> by_cases e2:j=k
           ·omega
           ·exact Mz21
           ·exact Mz22
           ·rw[if_neg e1,if_neg e2]at he
            exact hIJ.out i j y14Z y14Z he)
          have HTV4:=hid (hTV.out.keeps hkeep (AJ hr11 (by decide)) (AJ hr11 (by decide)) (AJ hr11 (by decide)));have HNS4:=hid (hNS.out.keeps hkeep (AJ hr11 (by decide)) (fun m hm hx=>by have:=hSg _ hx;have:=HNB.out.2.1 m hm;omega) (fun m rs' k' h1 h2 hx=>by have:=hSg _ hx;have:=HNB.out.2.2 m rs' k' h1 h2;omega));have HB4:Hid (Below w.heap.size w w4):=hid (hbn.out.trans (hkeep.below y64Z (fun q hq=>by have:=hSg q hq;have:=HNB.out.1;omega)));have HRP4:Hid (O3 T NN n cnt (k+1) (rs++ [r])):=hid (hRP.out.add (hPP.out.head) y53Z (hPP.out.part) (hPP.out.last) (fun h _ _=>absurd h hk0));exact Mz20
      ·have hkz:k=cnt:=by omega
       subst hkz;have hrl:=hRP.out.len;have hnl:=hNP.out.len;obtain⟨g11,c11,hv11,hq1,hq2,hq3⟩:=AX hRS.out.row (show 0<rs.length by omega);rw[hrl]at hv11;subst hv11;obtain⟨xs,hxs⟩:=qF ((List.range L.length).map fun n=>Value.slice (some ⟨gn n,0,none⟩) ((L.getD n []).length) (cn n));have hrN:=hNS.out.row;rw[<-hxs,hnl]at hrN;have HXS:=hid hxs;have c0:=hTV.out.cells.1;have hwW:w.heap.size<=wk.heap.size:=lT_ HNB.out.1 hsz.out;have hbl:w.heap.size<wk.heap.size:=lt_of_block hTV.out.blk;have hfB:some w.heap.size≠vR.ownBlock:=fun e=>A6 hrN hTV.out.blk (by decide) e.symm
       have hwnk:wn.heap.size<=wk.heap.size:=hsz.out;clear hxs hrl hnl
       go_upto_region 40 with(first | (at_builtin;refine wpList_append_lies _ rfl _ _ 43 rfl w.heap.size 34 iN (.slice none 0 0) 1 24 Tryz.underlying43 hiN hzN0 hzN1 hzN2 rfl (by decide) _ _ _ rfl (hrN.alloc _) (af wk.heap.size 0) 1 1 [ae g11 k c11] rfl rfl (World.news_of_block (heap_alloc_new wk _)) ?d2 (lR_ 1) ?d3 ?d4 ?d5 _ rfl ?_))
       case d2=>first |rfl | (intro u hu;simp at hu;subst hu;rfl)
       case d3=>unfold maxLen;omega
       case d4=>omega
       case d5=>first |omega | (simp;omega)
       intro g4 cap4 w4 hown4 hgrow4 hat4 hlt4;have hkeep:A1 wk w4 vR.ownBlock.toList:=((A1.refl _ _).alloc _).grown hgrow4 (fun q hq=>.inl y13Z);have hb4:=(hkeep.block w.heap.size hbl (fun hm=>hfB (BE hm).symm)).trans hTV.out.blk;have b14:w4.cell? (af w.heap.size 0)=some vR:=A0 hb4;have f14:w4.frozen? (af w.heap.size 0)=false:=A3 hb4;have HTV5:=hid (hTV.out.setR hrN hkeep (ae g4 (n+1) cap4));have HNS5:Hid (NsV (w4.setCell (af w.heap.size 0) (ae g4 (n+1) cap4)) w.heap.size (ae g4 (n+1) cap4) (L++ [rs]) (fun m=>if m=n then g11 else gn m) (fun m=>if m=n then c11 else cn m) (fun m j=>if m=n then gk j else gr m j) (fun m j=>if m=n then ck j else cr m j)):=hid (by
        have h:=NsV.push hNS.out (rs:=rs) (g:=g11) (c:=c11) (by rw[hRP.out.len];exact hRS.out.base HNB.out.1) hIJ.out (fun m rs' i j h1 h2 h3 e=>by have:=HNB.out.2.2 m rs' i h1 h2;have:=(hRS.out.lt h3).1;omega) hkeep (by rw[hRP.out.len,<-HXS.out,hNP.out.len];exact hown4);rw[hNP.out.len]at h;exact h.setOther hb4)
       have HB5:Hid (Below w.heap.size w (w4.setCell (af w.heap.size 0) (ae g4 (n+1) cap4))):=hid ((hbn.out.trans (hkeep.below hwW (KV hrN))).setCell y24Z _);clear hown4 hgrow4 hat4 hlt4 hkeep hrN hb4 hfB hTV hNS hbn c0
       go_upto_region 40 with fail
       obtain⟨W5,hW5⟩:=qE (w4.setCell (af w.heap.size 0) (ae g4 (n+1) cap4));rw[hW5]at HTV5 HNS5 HB5 ⊢;have hTT:0<T:=by omega
       have hxkb:xk<=26+25*(n+1):=by omega
       have hb0:w.heap.size<=W5.heap.size:=HB5.out.size;clear hW5 b14 f14
       by_cases hc1:k=1
       ·have hk1i:((k:Int)==1)=true:=by simp;omega
        have HPre:Hid (Mk.Pre ⟨pu,dr,sw,L++ [rs]⟩ NN):=hid (t8 hNP.out HPT.out hT2 hN2.2 hln (by have h1:=hRP.out;rwa [hc1]at h1));have hL1:(L++ [rs]).length=n+1:=by rw[lA,hNP.out.len];rfl
        have hrl:∀q∈L++ [rs],0<q.length:=fun q hq=>(HPre.out.c1 q hq).1
        have hql:∀q∈L++ [rs],∀a∈q,0<a.length:=fun q hq a ha=>by
         obtain⟨i,hi,rfl⟩:=List.mem_iff_getElem.1 ha;have h1:=(HPre.out.head q hq i _ (gE hi)).1;cases h2:q[i]with
         |nil=>rw[h2]at h1;cases h1
         |cons x l=>simp
        obtain⟨role,hro⟩:=uB HNS5.out;obtain⟨gR,cR,hsc⟩:=vL HTV5.out HNS5.out (by rw[hL1];omega) hrl hql hro;have HSM:Hid (s8 (L++ [rs])):=hid ⟨by rw[hL1];omega,fun q hq=>by have:=(HPre.out.c1 q hq).2;have h6:=HPre.out.t6;omega,fun q hq a ha=>by
         obtain⟨i,hi,rfl⟩:=List.mem_iff_getElem.1 ha;exact(HPre.out.head q hq i _ (gE hi)).2,fun q hq a ha x hx=>by
         have h1:=HPre.out.part q hq a ha x hx;have h6:=HPre.out.t6;have h4:=HPre.out.n4;cases x with
         |tok t=>have h7:t<pu.length:=h1;show t<6;simp only at h6;omega
         |nam m=>have h7:m<NN:=h1;show m<4;omega⟩
        have hgr:∀(m:Nat) q (j:Nat) a,(L++ [rs])[m]?=some q->q[j]?=some a->w.heap.size<=(fun m j=>if m=n then gk j else gr m j) m j:=fun m q j a h1 h2=>((HNS5.out.each m q h1).lt (gS_.1 h2).1).1
        have HSH:=hid (lF (L++ [rs]) HSM.out (L++ [rs]).length W5 w.heap.size w.heap.size role gR cR _ _ _ _ _ hsc (dS _ _) hgr);have HRO:=hid hro;have HRL:=hid (And.intro hrl hql);have HL1:=hid hL1;rw[hL1]at HSH;have hn1T:((n+1:Nat):Int)=(n:Int)+1:=by omega
        rw[hn1T]at HSH;clear hrl hql hsc hro hgr hL1 hc1 hn1T
        go_wp2_with (first | (go_at_call 15;refine HSH.out.mono ?_;rintro e w6 ⟨rfl,hc6,hre6,hb6⟩;have H6:=hid (And.intro hc6 (And.intro hre6 hb6));clear hc6 hre6 hb6))
        go_ret;obtain⟨⟨c6,hcut,hsh⟩,hre,hb6⟩:=H6.out;refine⟨w.heap.size,Mk.cut ⟨pu,dr,sw,L++ [rs]⟩,rfl,HPre.out.cut_good,?_,HB5.out.trans hb6⟩;exact sY HTV5.out hTT HPT.out.pl HPT.out.dl HPT.out.sl (by rw[HL1.out];omega) HRL.out.1 HRL.out.2 HRO.out hsh (by rw[HL1.out];exact hcut) hre hb6.size
       ·have hk1i:((k:Int)==1)=false:=by simp;omega
        have HNP5:Hid (TE T NN (n+1) (L++ [rs])):=hid (hNP.out.add hRP.out (by omega) (by omega));clear hc1;go_wp2
        go_roundw
        case rel=>exact⟨n+1,xk,L++ [rs],_,_,_,_,_,by omega,by go_num,rfl,hxkb,HNP5,HTV5,HNS5,HB5⟩
        case measure=>simp[intOf];omega
    ·have hnn:n=NN:=by omega
     have HPre:Hid (Mk.Pre ⟨pu,dr,sw,L⟩ NN):=hid (tP hNP.out HPT.out hT2 hN2.2 hn (by omega));have hTT:0<T:=by omega
     have HM:Hid (MkV wn wn.heap.size w.heap.size ⟨pu,dr,sw,L⟩):=hid (vQ hTV.out hNS.out hTT HPT.out.pl HPT.out.dl HPT.out.sl (by rw[hNP.out.len];omega) (fun q hq=>(HPre.out.c1 q hq).1) (fun q hq a ha=>by
      obtain⟨i,hi,rfl⟩:=List.mem_iff_getElem.1 ha;have h1:=(HPre.out.head q hq i _ (gE hi)).1;cases h2:q[i]with
      |nil=>rw[h2]at h1;cases h1
      |cons x l=>simp))
     clear hTV hNS;go_wp2;go_ret;exact⟨w.heap.size,⟨pu,dr,sw,L⟩,rfl,Mk.Pre.good (by have h1:=HPre.out;rwa [show NN=(Mk.rules ⟨pu,dr,sw,L⟩).length from by show NN=L.length;rw[hNP.out.len];omega]at h1),HM.out,hbn.out⟩
end Go.Proofs.YtjjggdcnpndgjabGreatDoor
