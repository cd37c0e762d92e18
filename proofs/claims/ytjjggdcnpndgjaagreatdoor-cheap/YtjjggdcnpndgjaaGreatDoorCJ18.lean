import Derived.Test.YtjjggdcnpndgjaaGreatDoorCJ17
import Derived.Deep.DeepCutAuto
set_option linter.unusedSimpArgs false
set_option maxHeartbeats 0
set_option maxRecDepth 100000
namespace Go.Proofs.YtjjggdcnpndgjaaGreatDoor
abbrev mq:=@Go.wp_append_lies
abbrev yz:=@List.eq_of_mem_replicate
open Go.RowKit Go.Shelf Go.WideMaps Go.Maps
variable {L:List (List (List Pt))}{NN T n:Nat}{dr pu:List Nat}{rs:List (List Pt)}{sw:List (List Nat)}
theorem Tryz.infoC3:(Tryz.prog.info? 3).map (λi=>(i.zero,i.size,i.bytes))=some (some (ab 0),1,8):=by kernel_rfl
theorem Tryz.infoC45:(Tryz.prog.info? 45).map (λi=>(i.zero,i.size,i.bytes))=some (some (.slice none 0 0),1,24):=by kernel_rfl
theorem Tryz.infoC9:(Tryz.prog.info? 9).map (λi=>(i.zero,i.size,i.bytes))=some (some (.string ByteArray.empty),1,16):=by kernel_rfl
theorem Tryz.infoC39:(Tryz.prog.info? 39).map (λi=>(i.zero,i.size,i.bytes))=some (some (.slice none 0 0),1,24):=by kernel_rfl
theorem Tryz.infoC46:(Tryz.prog.info? 46).map (λi=>(i.zero,i.size,i.bytes))=some (some (.slice none 0 0),1,24):=by kernel_rfl
structure UI (T k:Nat) (pu dr:List Nat) (sw:List (List Nat)):Prop where
 pl:pu.length=k
 dl:dr.length=k
 sl:sw.length=k
 p1:∀x∈pu,1<=x/\x<=9
 d1:∀x∈dr,1<=x/\x<=9
 s1:∀r∈sw,∀x∈r,x<=9
 sd:∀(i:Nat) r,sw[i]?=some r->r.length=T/\r.getD i 0=0
structure TQ (T NN n:Nat) (L:List (List (List Pt))):Prop where
 len:L.length=n
 c1:∀rs∈L,2<=rs.length/\rs.length<=T
 head:∀rs∈L,∀(k:Nat) r,rs[k]?=some r->r.head?=some (.tok k)/\r.length<=5
 part:∀rs∈L,∀r∈rs,∀p∈r,E9 T NN p
 last:∀rs∈L,∀r,rs.getLast?=some r->∀p∈r,∃t,p=.tok t
 reach:∀(m:Nat) rs,L[m]?=some rs->m+1<NN->∃r,rs[0]?=some r/\ .zi (m+1)∈r
structure OB (T NN n cnt k:Nat) (rs:List (List Pt)):Prop where
 len:rs.length=k
 head:∀(i:Nat) r,rs[i]?=some r->r.head?=some (.tok i)/\r.length<=5
 part:∀r∈rs,∀p∈r,E9 T NN p
 last:∀(i:Nat) r,rs[i]?=some r->i+1=cnt->∀p∈r,∃t,p=.tok t
 reach:∀r,rs[0]?=some r->1<cnt->n+1<NN-> .zi (n+1)∈r
structure j5 (T NN cnt k p:Nat) (r:List Pt):Prop where
 len:r.length=p+1
 head:r.head?=some (.tok k)
 part:∀q∈r,E9 T NN q
 last:k+1=cnt->∀q∈r,∃t,q=.tok t
theorem OB.add {cnt k:Nat} (h:OB T NN n cnt k rs) {r:List Pt} (hr:r.head?=some (.tok k)) (h5:r.length<=5) (hp:∀q∈r,E9 T NN q) (hl:k+1=cnt->∀q∈r,∃t,q=.tok t) (Da:k=0->1<cnt->n+1<NN-> .zi (n+1)∈r):OB T NN n cnt (k+1) (rs++ [r]) where
 len:=by rw[lA,h.len];rfl
 head:=λi q hq=>by
  by_cases hi:i<rs.length
  ·rw[aL hi]at hq;exact h.head i q hq
  ·rw[Bc (by omega)]at hq
   obtain⟨hl2,e⟩:=zM.1 hq;simp only[fu]at hl2;have:i=k:=by have:=h.len;omega
   subst this;simp only[qa]at e;subst e;exact⟨hr,h5⟩
 part:=λq hq=>by
  rcases ig.1 hq with hq |hq
  ·exact h.part q hq
  ·rw[mS.1 hq];exact hp
 last:=λi q hq hc=>by
  by_cases hi:i<rs.length
  ·rw[aL hi]at hq;exact h.last i q hq hc
  ·rw[Bc (by omega)]at hq
   obtain⟨hl2,e⟩:=zM.1 hq;simp only[fu]at hl2;have:i=k:=by have:=h.len;omega
   subst this;simp only[qa]at e;subst e;exact hl hc
 reach:=λq hq hc hn=>by
  have hlen:=h.len;cases rs with
  |nil=>
   simp only[ey,List.getElem?_cons_zero,uf]at hq;subst hq;exact Da (by simpa using hlen.symm) hc hn
  |cons a l=>exact h.reach q (by simpa using hq) hc hn
theorem af3 {P:Prop} (h:P:=by
  rcases ig.1 hq with hq |hq
  ·exact h.last q hq a ha
  ·rw[mS.1 hq]at ha
   rw[List.getLast?_eq_getElem?]at ha;exact hr.last _ a ha (by have:=hr.len;omega)):P:=h
theorem TQ.add {cnt:Nat} (h:TQ T NN n L) (hr:OB T NN n cnt cnt rs) (h2:2<=cnt) (hT:cnt<=T):TQ T NN (n+1) (L++ [rs]) where
 len:=by rw[lA,h.len];rfl
 c1:=λq hq=>by
  rcases ig.1 hq with hq |hq
  ·exact h.c1 q hq
  ·rw[mS.1 hq,hr.len];exact⟨h2,hT⟩
 head:=λq hq=>by
  rcases ig.1 hq with hq |hq
  ·exact h.head q hq
  ·rw[mS.1 hq];exact hr.head
 part:=λq hq=>by
  rcases ig.1 hq with hq |hq
  ·exact h.part q hq
  ·rw[mS.1 hq];exact hr.part
 last:=λq hq a ha=>by
  exact af3
 reach:=λm q hq hm=>by
  by_cases hi:m<L.length
  ·rw[aL hi]at hq;exact h.reach m q hq hm
  ·rw[Bc (by omega)]at hq
   obtain⟨hl2,e⟩:=zM.1 hq;simp only[fu]at hl2;have:m=n:=by have:=h.len;omega
   subst this;simp only[qa]at e;subst e;obtain⟨r,Hz⟩:∃r,rs[0]?=some r:=⟨_,gE (by rw[hr.len];omega)⟩;exact⟨r,Hz,hr.reach r Hz (by omega) hm⟩
theorem vO  (h:TQ T NN n L) (ht:UI T T pu dr sw) (hT:2<=T/\T<=6) (hN:NN<=4) (hn:n<=NN) (h1:1<=n):Mk.Pre ⟨pu,dr,sw,L⟩ NN where
 t2:=by show 2<=pu.length;rw[ht.pl];exact hT.1
 t6:=by show pu.length<=6;rw[ht.pl];exact hT.2
 dl:=by show dr.length=pu.length;rw[ht.pl,ht.dl]
 sl:=by show sw.length=pu.length;rw[ht.pl,ht.sl]
 Zd:=λr hr=>by
  obtain⟨i,hi,rfl⟩:=jv.1 hr;show _=pu.length;rw[ht.pl];exact(ht.sd i _ (gE hi)).1
 p1:=ht.p1
 d1:=ht.d1
 s1:=ht.s1
 Ze:=λi r hr=>(ht.sd i r hr).2
 n1:=by show 1<=L.length;rw[h.len];exact h1
 nN:=by show L.length<=NN;rw[h.len];exact hn
 n4:=hN
 c1:=λrs hrs=>by have:=h.c1 rs hrs;show 1<=rs.length/\rs.length<=pu.length;rw[ht.pl];omega
 head:=h.head
 part:=λrs hrs r hr p hp=>by show E9 pu.length NN p;rw[ht.pl];exact h.part rs hrs r hr p hp
 last:=h.last
 reach:=λm rs hm hl=>h.reach m rs hm (by have hl2:m+1<L.length:=hl;rw[h.len]at hl2;omega)
theorem uS  (h:TQ T NN n L) (ht:UI T T pu dr sw) (hT:2<=T/\T<=6) (hN:NN<=4) (hn:n<NN) (hr:OB T NN n 1 1 rs):Mk.Pre ⟨pu,dr,sw,L++ [rs]⟩ NN where
 t2:=by show 2<=pu.length;rw[ht.pl];exact hT.1
 t6:=by show pu.length<=6;rw[ht.pl];exact hT.2
 dl:=by show dr.length=pu.length;rw[ht.pl,ht.dl]
 sl:=by show sw.length=pu.length;rw[ht.pl,ht.sl]
 Zd:=λr hr=>by
  obtain⟨i,hi,rfl⟩:=jv.1 hr;show _=pu.length;rw[ht.pl];exact(ht.sd i _ (gE hi)).1
 p1:=ht.p1
 d1:=ht.d1
 s1:=ht.s1
 Ze:=λi r hr=>(ht.sd i r hr).2
 n1:=by show 1<=(L++ [rs]).length;rw[lA];simp
 nN:=by show(L++ [rs]).length<=NN;rw[lA,h.len];simp;omega
 n4:=hN
 c1:=λq hq=>by
  show 1<=q.length/\q.length<=pu.length;rw[ht.pl]
  rcases ig.1 hq with hq |hq
  ·have:=h.c1 q hq;omega
  ·rw[mS.1 hq,hr.len];omega
 head:=λq hq=>by
  rcases ig.1 hq with hq |hq
  ·exact h.head q hq
  ·rw[mS.1 hq];exact hr.head
 part:=λq hq r hr' p hp=>by
  show E9 pu.length NN p;rw[ht.pl]
  rcases ig.1 hq with hq |hq
  ·exact h.part q hq r hr' p hp
  ·rw[mS.1 hq]at hr';exact hr.part r hr' p hp
 last:=λq hq a ha=>by
  exact af3
 reach:=λm q hq hl=>by
  have hl2:m+1< (L++ [rs]).length:=hl;rw[lA,fu]at hl2;have hq:(L++ [rs])[m]?=some q:=hq;rw[aL (by omega)]at hq;exact h.reach m q hq (by have:=h.len;omega)
theorem UI.add {k:Nat} (h:UI T k pu dr sw) {x y:Nat} (hx:1<=x/\x<=9) (hy:1<=y/\y<=9) {r:List Nat} (hl:r.length=T) (h9:∀z∈r,z<=9) (h0:r.getD k 0=0):UI T (k+1) (pu++ [x]) (dr++ [y]) (sw++ [r]) where
 pl:=by rw[lA,h.pl];rfl
 dl:=by rw[lA,h.dl];rfl
 sl:=by rw[lA,h.sl];rfl
 p1:=λz hz=>by
  rcases ig.1 hz with hz |hz
  ·exact h.p1 z hz
  ·rw[mS.1 hz];exact hx
 d1:=λz hz=>by
  rcases ig.1 hz with hz |hz
  ·exact h.d1 z hz
  ·rw[mS.1 hz];exact hy
 s1:=λq hq=>by
  rcases ig.1 hq with hq |hq
  ·exact h.s1 q hq
  ·rw[mS.1 hq];exact h9
 sd:=λi q hq=>by
  by_cases hi:i<sw.length
  ·rw[aL hi]at hq
   exact h.sd i q hq
  ·rw[Bc (by omega)]at hq
   obtain⟨hl2,e⟩:=zM.1 hq;simp only[fu]at hl2;have:i=k:=by have:=h.sl;omega
   subst this;simp only[qa]at e;subst e;exact⟨hl,h0⟩
theorem U3 (T k:Nat):(List.replicate T 0).getD k 0=0:=by
 rw[Af,nj];split <;> rfl
theorem mE (n:Nat):madeCells (ab 0).cells (n*1)=(IZ (List.replicate n 0)).toArray:=by
 have h:=bH n;rw[show madeCells (ab 0).cells (n*1)=madeCells #[ab 0] (n*1) from rfl,h];apply Array.ext';apply oo;intro i;simp only[IZ,gM,nj]
 by_cases hi:i<n
 ·simp[hi]
 ·simp[hi]
theorem af4 {P:Prop} (h:P:=by
  obtain⟨q,hq,hqT⟩:∃q:Nat,(c:Int) % (T:Int)=(q:Int)/\q<T:=⟨c % T,rfl,Nat.mod_lt _ (by omega)⟩
  go_upto_region 34 with fail
  rw[hq];clear hq
  go_wp2_with (first
   | (go_at_call 31;refine(ID q (by omega) _).mono ?_;rintro e w' ⟨rfl,rfl⟩)
   | (at_builtin;refine jt _ rfl _ _ 39 rfl wk.heap.size 9 iS (.string ByteArray.empty) 1 16 Tryz.underlying39 Gu Gv Gw Gx rfl (by decide) _ _ _ rfl (hrow.alloc _) (af wp.heap.size 0) 1 1 [.string (AB q)] rfl rfl (dn (dz wp _)) ?c2 (zn 1) ?c3 ?c4 ?c5 _ rfl ?_))
  case c2=>intro u hu;simp at hu;subst hu;rfl
  case c3=>unfold maxLen;omega
  case c4=>omega
  case c5=>simp;omega
  intro g3 Cf w3 Ad Ae Hy Fi;have hkeep:A5 wp w3 v13.ownBlock.toList:=((A5.refl _ _).alloc _).grown Ae (λq hq=>.inl Hh);have Cl:∀g∈v13.ownBlock.toList,wk.heap.size<=g:=λg hm=>(hrow.lt g (BJ hm)).1
  have aeg:Hid (w3.ownsRow wk.heap.size 9 1 (ae g3 (p+1+1) Cf) (r++ [Pt.tok q]).length (Ff (r++ [Pt.tok q]))):=hid afz;have abz:=hid (Gy.out.keeps hkeep (AO hrow (by decide)) (AO hrow (by decide)) (AO hrow (by decide)));have abA:=hid (Ez.out.keeps hkeep (AO hrow (by decide)) (λm hm hx=>by have:=Cl _ hx;have:=Dk.out.2.1 m hm;have:=hsz.out;omega) (λm rs' k' h1 h2 hx=>by have:=Cl _ hx;have:=Dk.out.2.2 m rs' k' h1 h2;have:=hsz.out;omega));have aa0:=hid (hRS.out.keeps hkeep (AO hrow (by decide)) (λi hi hx=>by have:=Cl _ hx;have:=HGB.out i hi;omega));have Ap:Hid (Below w.heap.size w w3):=hid (Bp.out.trans (hkeep.below (by have:=hsp.out;omega) (λq hq=>by have:=Cl q hq;omega)));have Nf:Hid (j5 T NN cnt k (p+1) (r++ [Pt.tok q])):=hid ⟨by rw[lA,Dj.out.len];rfl,by have h1:=Dj.out.head;cases r with |nil=>cases h1 |cons a l=>exact h1,λa ha=>by
   rcases ig.1 ha with ha |ha
   ·exact Dj.out.part a ha
   ·rw[mS.1 ha];exact(show q<T from hqT),λhl a ha=>by
   rcases ig.1 ha with ha |ha
   ·exact Dj.out.last hl a ha
   ·rw[mS.1 ha];exact⟨q,rfl⟩⟩
  have HS3:Hid (wk.heap.size<=w3.heap.size):=hid (zV hsp.out hkeep.size);clear Ad Ae Hy Fi hkeep hrow Cl;go_wp2
  go_roundw
  case rel=>exact⟨p+1,xp+1,r++ [Pt.tok q],_,by omega,by go_num,by go_num,by omega,by rfl,Nf,aeg,abz,abA,aa0,Ap,HS3⟩
  case measure=>simp[intOf];omega):P:=h
theorem aeh {P:Prop} (h:P:=by
  have Kc:Hid (wn.heap.size<=w4.heap.size):=hid (zV abB hkeep.size);clear To Nw Zq Wk hkeep Cv Cl;go_wp2
  go_roundw
  case rel=>exact⟨k+1,xp,rs++ [r],_,_,_,by omega,by go_num,rfl,by omega,by rfl,abC,abD,abE,abF,abG,Bk,Kc⟩
  case measure=>simp[intOf];omega):P:=h
theorem acU {P:Prop} (h:P:=by
  rw[ay e1,aq e2]at he;have:=HGB.out j Qw;omega):P:=h
theorem acV {P:Prop} (h:P:=by
  rw[aq e1,ay e2]at he;have:=HGB.out i Qw;omega):P:=h
theorem oJ (v:Value) (w:World) (hv:IQ w v):
  Calls Tryz.prog 27 #[v] w λe w'=>∃b m,e=.returned (ac b)/\Mk.Good m/\Gf w' w'.heap.size b m/\Below w.heap.size w w':=by
 obtain⟨iI,Ii,Ij,Ik,Il⟩:=iy Tryz.infoC3;obtain⟨iJ,hiJ,aiJ,aiK,aiL⟩:=iy Tryz.infoC45;obtain⟨iS,Gu,Gv,Gw,Gx⟩:=iy Tryz.infoC9;obtain⟨iR,Rs,Rt,Ru,Rv⟩:=iy Tryz.infoC39;obtain⟨iN,Kl,Pr,Pu,Pv⟩:=iy Tryz.infoC46;have HV:Hid (IQ w v):=hid hv;clear hv
 go_enter Tryz.func27,Tryz.ntmps27
 go_wp2_with (first
  | (go_at_call_of 66 (Value.int .i64 0);refine(K0 v 0 (by omega) _ (HV.out.below (Aj (ah _ _)))).mono ?_;rintro e w' ⟨⟨z0,rfl,hz0⟩,rfl⟩)
  | (go_at_call_of 44 (Value.int .i64 5);refine(GZ z0 5 (by omega) hz0 _).mono ?_;rintro e w' ⟨⟨tk,htk,rfl⟩,rfl⟩)
  | (go_at_call_of 66 (Value.int .i64 1);refine(K0 v 1 (by omega) _ (HV.out.below (Aj (ah _ _)))).mono ?_;rintro e w' ⟨⟨z1,rfl,hz1⟩,rfl⟩)
  | (go_at_call_of 44 (Value.int .i64 4);refine(GZ z1 4 (by omega) hz1 _).mono ?_;rintro e w' ⟨⟨nm,hnm,rfl⟩,rfl⟩))
 obtain⟨T,hT⟩:∃T:Nat,(2+(tk:Int))=(T:Int):=⟨2+tk,by omega⟩;obtain⟨NN,hNN⟩:∃n:Nat,(1+(nm:Int))=(n:Int):=⟨1+nm,by omega⟩;have Um:2<=T/\T<=6:=by omega
 have hN2:1<=NN/\NN<=4:=by omega
 rw[hT,hNN];have Ah:Hid (Below w.heap.size w (w.alloc (.cells #[.slice none 0 0,.slice none 0 0,.slice none 0 0,.slice none 0 0] 77))):=hid (Aj (ah _ _));have HT0:Hid (F7 (w.alloc (.cells #[.slice none 0 0,.slice none 0 0,.slice none 0 0,.slice none 0 0] 77)) w.heap.size w.heap.size T [] [] [] (.slice none 0 0) (.slice none 0 0) (.slice none 0 0) (.slice none 0 0) (λ_=>0)):=
  hid ⟨bg w _,zn _,jg _ _ _ _,jg _ _ _ _,jg _ _ _ _,λi r h=>by simp at h,λg h=>by simp[Value.ownBlock]at h,λi h=>by simp at h,λi j h=>by simp at h⟩
 clear hT hNN htk hnm hz0 hz1
 go_loopw [6,7] (λx i wr=>∃(k xk:Nat) (pu dr:List Nat) (sw:List (List Nat)) (vP vD vS:Value) (sg:Nat->Nat),k<=T/\i=ab k/\x=ab xk/\xk<=2+4*k/\Hid (UI T k pu dr sw)/\Hid (F7 wr w.heap.size w.heap.size T pu dr sw (.slice none 0 0) vP vD vS sg)/\Hid (Below w.heap.size w wr)) (λ_ i _=>T - (intOf i).toNat)
 case atStart=>exact⟨0,2,[],[],[],_,_,_,_,dh _,rfl,rfl,by omega,hid ⟨rfl,rfl,rfl,λx h=>(by cases h),λx h=>(by cases h),λx h=>(by cases h),λi r h=>aaR⟩,HT0,Ah⟩
 case round=>
  clear HT0 Ah;obtain⟨k,xk,pu,dr,sw,vP,vD,vS,sg,hk,rfl,rfl,hxk,hP,hV,hbr⟩:=hrel
  by_cases hlt:k<T
  ·have hsz:=hbr.out.size
   have c1:=hV.out.cells.2.1;have zX:w.heap.size<wr.heap.size:=ak hV.out.blk;have hrow:=hV.out.zJ;have hpl:=hP.out.pl;rw[hpl]at hrow;have fB:some w.heap.size≠vP.ownBlock:=λe=>A9 hrow hV.out.blk (by decide) e.symm
   go_wp2;refine AH (λw'=>w'.cell? (af w.heap.size 1)=some vP) yM yM c1 (λhH=>?_);simp only[AG,BP,AR];refine tB 0 hH ?_;refine tB 1 hH ?_;refine tB 2 hH ?_;refine tB 3 hH ?_;refine tB 4 hH ?_;refine tB 5 hH ?_;refine tB 6 hH ?_;refine tL ?_;refine tS 7 λK hK=>?_
   refine tM ?_
   go_simp;refine(K0 v xk (by omega) _ (HV.out.below (Cb hbr.out))).mono ?_;rintro e w' ⟨⟨z,rfl,hz⟩,rfl⟩;try dsimp only
   refine hK.out _ _ ?_ λhH=>?_
   ·exact hH
   clear hK K;refine tL ?_;refine tS 8 λK hK=>?_
   refine tM ?_
   go_simp;refine(GZ z 9 (by omega) hz _).mono ?_;rintro e w' ⟨⟨r,hr,rfl⟩,rfl⟩;obtain⟨x,hx⟩:∃x:Nat,x=1+r:=⟨_,rfl⟩;have hwr:IntKind.i64.wrap (1+(r:Int))=(x:Int):=(by rw[Db];omega);have Wm:1<=x/\x<=9:=(by omega);clear hx hr;try dsimp only
   refine hK.out _ _ ?_ λhH=>?_
   ·exact hH
   clear hK K;refine tB 9 hH ?_;refine tL ?_;refine tS 10 λK hK=>?_
   refine tM ?_;go_simp;refine hK.out _ _ ?_ λhH=>?_
   ·exact A6 _ hH
   clear hK K;refine tL ?_;refine tS 11 λK hK=>?_
   refine tM ?_;rw[ay (by rfl)];refine mq _ (.tmp 36) (.tmp 42) 45 rfl w.heap.size 3 iI (ab 0) 1 8 Tryz.underlying45 Ii Ij Ik Il rfl (by decide) vP _ _ rfl (hrow.alloc _) (af wr.heap.size 0) 1 1 [ab (x:Int)] rfl rfl (dn (fr:=(0,0)) (dz wr _)) Gl (by omega) Bg (by omega) zG _ rfl ?_;intro g' cap' w4 hown hgrow hat hlt';refine hK.out _ _ ?_ λhH=>?_
   ·exact(hgrow.cell_far _ zG (by exact fB)).trans hH
   clear hK K;refine tB 12 hH ?_;refine tB 13 hH ?_;refine tB 14 hH ?_;refine tL ?_;refine bq yM ?_ _;have hkeep:A5 wr w4 vP.ownBlock.toList:=(((A5.refl wr _).alloc (Obj.cells #[ab (x:Int)] 3)).drew).grown hgrow (λq hq=>.inl Hh);have hb4:=(hkeep.block w.heap.size zX (λhm=>fB (BJ hm).symm)).trans hV.out.blk;have Zr:w4.cell? (af w.heap.size 1)=some vP:=A0 hb4;have f14:w4.frozen? (af w.heap.size 1)=false:=A7 hb4;have hg':vP.ownBlock=some g'\/wr.heap.size<=g':=hat.imp id (λe=>by rw[e];show wr.heap.size<=(wr.alloc _).heap.size;rw[bh];omega);have hend:=hV.out.aip (x:=x) hkeep hg' (by rw[hpl];exact hown);rw[hpl]at hend;have Ig:=hid hend;have zL:Hid (Below w.heap.size w (w4.setCell (af w.heap.size 1) (ae g' (k+1) cap'))):=hid ((hbr.out.trans (hkeep.below hsz (LD hrow))).setCell Mu _);have hX9:Hid (1<=x/\x<=9):=hid Wm;clear hend hkeep hown hgrow hat hlt' hH hb4 fB hrow hg' hwr Wm hz c1 hV hbr
   show wpList _ _ _ _ _ _;go_wp2;obtain⟨W1,hW1⟩:=qE (w4.setCell (af w.heap.size 1) (ae g' (k+1) cap'));rw[hW1]at Ig zL ⊢;obtain⟨vP1,af5⟩:=qE (Value.slice (some ⟨g',0,none⟩) (k+1) cap');simp only[ae]at Ig;rw[af5]at Ig ⊢;clear hW1 af5 Zr f14 hsz zX;have hsz:=zL.out.size;have c1:=Ig.out.cells.2.2.1;have zX:w.heap.size<W1.heap.size:=ak Ig.out.blk;have hrow:=Ig.out.Ai;have Lc:=hP.out.dl;rw[Lc]at hrow;have fB:some w.heap.size≠vD.ownBlock:=λe=>A9 hrow Ig.out.blk (by decide) e.symm
   obtain⟨y,hy⟩:∃y:Nat,y=xk+1:=⟨_,rfl⟩;have hwx:IntKind.i64.wrap ((xk:Int)+1)=(y:Int):=by rw[Db];omega
   have hyb:y<=3+4*k:=by omega
   clear hy;refine AH (λw'=>w'.cell? (af w.heap.size 2)=some vD) yM yM c1 (λhH=>?_);simp only[AG,BP,AR];refine tB 0 hH ?_;refine tB 1 hH ?_;refine tB 2 hH ?_;refine tB 3 hH ?_;refine tB 4 hH ?_;refine tB 5 hH ?_;refine tB 6 hH ?_;refine tB 7 hH ?_;refine tL ?_;refine tS 8 λK hK=>?_
   refine tM ?_
   go_simp;refine(K0 v y (by omega) _ (HV.out.below (Cb zL.out))).mono ?_;rintro e w' ⟨⟨z,rfl,hz⟩,rfl⟩;try dsimp only
   refine hK.out _ _ ?_ λhH=>?_
   ·exact hH
   clear hK K;refine tL ?_;refine tS 9 λK hK=>?_
   refine tM ?_
   go_simp;refine(GZ z 9 (by omega) hz _).mono ?_;rintro e w' ⟨⟨r,hr,rfl⟩,rfl⟩;obtain⟨x2,hx⟩:∃x2:Nat,x2=1+r:=⟨_,rfl⟩;have hwr:IntKind.i64.wrap (1+(r:Int))=(x2:Int):=(by rw[Db];omega);have Wm:1<=x2/\x2<=9:=(by omega);clear hx hr;try dsimp only
   refine hK.out _ _ ?_ λhH=>?_
   ·exact hH
   clear hK K;refine tB 10 hH ?_;refine tL ?_;refine tS 11 λK hK=>?_
   refine tM ?_;go_simp;refine hK.out _ _ ?_ λhH=>?_
   ·exact A6 _ hH
   clear hK K;refine tL ?_;refine tS 12 λK hK=>?_
   refine tM ?_;rw[ay (by rfl)];refine mq _ (.tmp 50) (.tmp 57) 45 rfl w.heap.size 3 iI (ab 0) 1 8 Tryz.underlying45 Ii Ij Ik Il rfl (by decide) vD _ _ rfl (hrow.alloc _) (af W1.heap.size 0) 1 1 [ab (x2:Int)] rfl rfl (dn (fr:=(0,0)) (dz W1 _)) Gl (by omega) Bg (by omega) zG _ rfl ?_;intro g' cap' w4 hown hgrow hat hlt';refine hK.out _ _ ?_ λhH=>?_
   ·exact(hgrow.cell_far _ zG (by exact fB)).trans hH
   clear hK K;refine tB 13 hH ?_;refine tB 14 hH ?_;refine tB 15 hH ?_;refine tL ?_;refine bq yM ?_ _;have hkeep:A5 W1 w4 vD.ownBlock.toList:=(((A5.refl W1 _).alloc (Obj.cells #[ab (x2:Int)] 3)).drew).grown hgrow (λq hq=>.inl Hh);have hb4:=(hkeep.block w.heap.size zX (λhm=>fB (BJ hm).symm)).trans Ig.out.blk;have Zr:w4.cell? (af w.heap.size 2)=some vD:=A0 hb4;have f14:w4.frozen? (af w.heap.size 2)=false:=A7 hb4;have hg':vD.ownBlock=some g'\/W1.heap.size<=g':=hat.imp id (λe=>by rw[e];show W1.heap.size<=(W1.alloc _).heap.size;rw[bh];omega);have hend:=Ig.out.aiq (x:=x2) hkeep hg' (by rw[Lc];exact hown);rw[Lc]at hend;have Gn:=hid hend;have zO:Hid (Below w.heap.size w (w4.setCell (af w.heap.size 2) (ae g' (k+1) cap'))):=hid ((zL.out.trans (hkeep.below hsz (LD hrow))).setCell Mu _);have aei:Hid (1<=x2/\x2<=9):=hid Wm
   clear hend hkeep hown hgrow hat hH hb4 fB hrow hg' hwr Wm hz c1 Ig zL hwx hyb;show wpList _ _ _ _ _ _;go_wp2;obtain⟨W2,hW2⟩:=qE (w4.setCell (af w.heap.size 2) (ae g' (k+1) cap'));rw[hW2]at Gn zO ⊢;obtain⟨vD1,af6⟩:=qE (Value.slice (some ⟨g',0,none⟩) (k+1) cap');simp only[ae]at Gn;rw[af6]at Gn ⊢;clear hW2 af6 Zr f14 hsz zX;have hsz:=zO.out.size;have c1:=Gn.out.cells.2.2.2;have zX:w.heap.size<W2.heap.size:=ak Gn.out.blk;have hrow:=Gn.out.swaps;have En:=hP.out.sl;rw[En]at hrow;have fB:some w.heap.size≠vS.ownBlock:=λe=>A9 hrow Gn.out.blk (by decide) e.symm
   refine AH (λw'=>w'.cell? (af w.heap.size 3)=some vS) yM yM c1 (λhH=>?_);simp only[AG,BP,AR];refine tB 0 hH ?_;refine tB 1 hH ?_;refine tB 2 hH ?_;refine tB 3 hH ?_;refine tB 4 hH ?_;refine tB 5 hH ?_;refine tL ?_;refine tS 6 λK hK=>?_
   refine tM ?_;rw[ay (by rfl)];refine GK _ (.tmp 66) (.tmp 66) 45 rfl 3 iI (ab 0) Tryz.underlying45 Ii Ij T rfl rfl (by rw[Il];omega) (by omega) ?_;rw[Ik];obtain⟨X,hX⟩:=qE (W2.drew.alloc (Obj.cells (madeCells (ab 0).cells (T*1)) 3));rw[hX];have hXs:X.heap.size=W2.heap.size+1:=(by rw[<-hX,bh];rfl);have af7:=(by rw[<-hX];exact(AC hrow ((A5.refl W2 []).drew.alloc _) (by simp)):X.ownsRow w.heap.size 45 1 vS k ((List.range k).map λi=>Value.slice (some ⟨sg i,0,none⟩) T T));have HXs:Hid (X.heap.size=W2.heap.size+1):=hid hXs;have hXl:W2.heap.size<X.heap.size:=(by omega);have hXw:w.heap.size<X.heap.size:=(by omega);clear hXs;refine hK.out _ _ ?_ λhH=>?_
   ·exact(by rw[<-hX];exact A6 _ hH)
   clear hK K;refine tL ?_;refine tS 7 λK hK=>?_
   refine tM ?_;go_simp;refine hK.out _ _ ?_ λhH=>?_
   ·exact A6 _ hH
   clear hK K;refine tL ?_;refine tS 8 λK hK=>?_
   refine tM ?_;rw[ay (by rfl)];refine mq _ (.tmp 65) (.tmp 68) 60 rfl w.heap.size 45 iJ (.slice none 0 0) 1 24 Tryz.underlying60 hiJ aiJ aiK aiL rfl (by decide) vS _ _ rfl (af7.alloc _) (af X.heap.size 0) 1 1 [ae W2.heap.size T T] rfl rfl (dn (fr:=(0,0)) (dz X _)) Gl (by omega) Bg (by omega) zG _ rfl ?_;intro g' cap' w4 hown hgrow hat hlt';refine hK.out _ _ ?_ λhH=>?_
   ·exact(hgrow.cell_far _ zG (by exact fB)).trans hH
   clear hK K;refine tB 9 hH ?_;refine tB 10 hH ?_;refine tB 11 hH ?_;refine tL ?_;refine bq yM ?_ _;have aej:A5 W2 X []:=by rw[<-hX];exact(A5.refl W2 []).drew.alloc _
   have aek:A5 X w4 vS.ownBlock.toList:=((A5.refl X _).alloc _).grown hgrow (λq hq=>.inl Hh);have hz:X.heap[W2.heap.size]?=some (.cells (IZ (List.replicate T 0)).toArray 3 (0,0)):=by
    rw[<-hX,<-mE];exact bg W2.drew _
   have hend:=Gn.out.air (cap:=cap') hsz (by rw[En,lA,hP.out.pl];simp) hz aej aek (by rw[En];exact hown);rw[En]at hend;have hkeep:=(aej.mono (T:=vS.ownBlock.toList) (λq hq=>by cases hq)).trans aek;have hb4:=(hkeep.block w.heap.size zX (λhm=>fB (BJ hm).symm)).trans Gn.out.blk;have Zr:w4.cell? (af w.heap.size 3)=some vS:=A0 hb4;have f14:w4.frozen? (af w.heap.size 3)=false:=A7 hb4;have Fo:=hid hend;have Ap:Hid (Below w.heap.size w (w4.setCell (af w.heap.size 3) (ae g' (k+1) cap'))):=hid ((zO.out.trans (hkeep.below hsz (LD hrow))).setCell Mu _);have Ag:k<=5:=by omega
   have af8:((2*T:Nat):Int)=2*(T:Int):=by omega
   have PK:=λz hz w=>GZ z (2*T) (by omega) hz w
   rw[af8]at PK;have af9:((xk+2:Nat):Int)=(xk:Int)+2:=by omega
   have AT:=λw hv=>K0 v (xk+2) (by omega) w hv
   rw[af9]at AT;clear hend hkeep aej aek hown hgrow hat hH hb4 fB hrow hz c1 Gn zO hX af7 HXs hXl hXw af8 af9;show wpList _ _ _ _ _ _
   go_upto_region 12 with(first
    | (go_at_call 66;refine(AT _ (HV.out.below Ap.out)).mono ?_;rintro e w' ⟨⟨z,rfl,hz⟩,rfl⟩)
    | (go_at_call 44;refine(PK z hz _).mono ?_;rintro e w' ⟨⟨j,hj,rfl⟩,rfl⟩))
   obtain⟨W3,hW3⟩:=qE (w4.setCell (af w.heap.size 3) (ae g' (k+1) cap'));rw[hW3]at Fo Ap ⊢;obtain⟨sg3,aga⟩:∃f:Nat->Nat,(λi=>if i=k then W2.heap.size else sg i)=f:=⟨_,rfl⟩;rw[aga]at Fo;have Yt:Hid (sw.length=k):=hid En;clear hW3 aga Zr f14 hsz zX AT PK En hz hpl Lc;have Co:(sw++ [List.replicate T 0])[k]?=some (List.replicate T 0):=by rw[Bc (by rw[Yt.out];exact zn _),Yt.out,ku];rfl
   have c3:=Fo.out.cells.2.2.2;have Ct:(sw++ [List.replicate T 0]).length=k+1:=by rw[lA,Yt.out];rfl
   have cg:W3.cell? (af g' k)=some (.slice (some ⟨sg3 k,0,none⟩) T T):=by
    have h1:=Fo.out.swaps;rw[Ct]at h1;rw[h1.cellAt k (by omega),gM,ny (by omega)];rfl
   obtain⟨hs1,hs2,_⟩:=Fo.out.rows k _ Co;have hj9:Hid (j<2*T):=hid hj;have HRK:=hid Co;have Bu:g'<W3.heap.size:=bu _ _ cg;have alB:sg3 k<W3.heap.size:=ak hs1;have hbl:w.heap.size<W3.heap.size:=ak Fo.out.blk;clear Ct Co hj
   by_cases Rw:j<T
   ·have aiM:(j:Int)< (T:Int):=by omega
    by_cases hj2:j=k
    ·subst hj2
     clear c3 cg hs1;go_wp2
     go_roundw
     case rel=>exact⟨j+1,xk+4,_,_,_,_,_,_,_,by omega,by go_num,by go_num,by omega,hid (hP.out.add hX9.out aei.out (by simp) (λy hy=>by rw[yz hy];omega) (U3 T _)),Fo,Ap⟩
     case measure=>simp[intOf];omega
    ·have alC:((j:Int)==(k:Int))=false:=by simp;omega
     have cs:W3.cell? ⟨sg3 k,j,none⟩=some (ab 0):=by
      rw[A0 hs1];simp[IZ,Rw]
     have fs:W3.frozen? ⟨sg3 k,j,none⟩=false:=A7 hs1;have agb:((xk+3:Nat):Int)=(xk:Int)+3:=by omega
     have AT:=λw hv=>K0 v (xk+3) (by omega) w hv
     rw[agb]at AT;have hTj:(T:Int)<=6:=by omega
     have hkk:(k:Int)< (k:Int)+1:=by omega
     have HW3:Hid (IntKind.i64.wrap ((xk:Int)+3)=(xk:Int)+3):=hid (by rw[Db];omega);clear hs1 agb
     go_upto_region 13 with fail
     refine AH (λw'=>w'.cell? (af w.heap.size 3)=some (ae g' (k+1) cap')/\w'.cell? (af g' k)=some (.slice (some ⟨sg3 k,0,none⟩) T T)) yM yM ⟨c3,cg⟩ (λhH=>?_);simp only[AG,BP,AR];refine tB 0 hH ?_;refine tB 1 hH ?_;refine tB 2 hH ?_;refine tB 3 hH ?_;refine tB 4 hH ?_;refine tB 5 hH ?_;refine tB 6 hH ?_;refine tB 7 hH ?_;refine tB 8 hH ?_;refine tB 9 hH ?_;refine tB 10 hH ?_;refine tL ?_;refine tS 11 λK hK=>?_
     refine tM ?_
     go_simp;rw[HW3.out];refine(AT _ (HV.out.below (Cb Ap.out))).mono ?_;rintro e w' ⟨⟨z,rfl,hz⟩,rfl⟩;try dsimp only
     refine hK.out _ _ ?_ λhH=>?_
     ·exact hH
     clear hK K;refine tL ?_;refine tS 12 λK hK=>?_
     refine tM ?_
     go_simp;refine(GZ z 9 (by omega) hz _).mono ?_;rintro e w' ⟨⟨r,hr,rfl⟩,rfl⟩;obtain⟨x3,hx⟩:∃x3:Nat,x3=1+r:=⟨_,rfl⟩;have hwr:IntKind.i64.wrap (1+(r:Int))=(x3:Int):=(by rw[Db];omega);have Wm:x3<=9:=(by omega);clear hx hr;try dsimp only
     refine hK.out _ _ ?_ λhH=>?_
     ·exact hH
     clear hK K;refine tB 13 hH ?_;refine tB 14 hH ?_;refine tB 15 hH ?_;refine tL ?_;refine bq yM ?_ _;clear hH;have h1:=Fo.out.ais (j:=j) (x:=x3) HRK.out;have agc:(sw++ [List.replicate T 0]).set k ((List.replicate T 0).set j x3)=sw++ [(List.replicate T 0).set j x3]:=by
      rw[vp _ _ (by rw[Yt.out];exact zn _),Yt.out,ku];rfl
     rw[agc]at h1;clear agc;have Pw:=hid (h1.below (ah _ _).drew);clear h1;have Bk:Hid (Below w.heap.size w (W3.setCell ⟨sg3 k,j,none⟩ (ab (x3:Int)))):=hid (Ap.out.setCell Vr _);have hX3:Hid (x3<=9):=hid Wm;clear hwr Wm hz c3 cg Fo;show wpList _ _ _ _ _ _;go_wp2
     go_roundw
     case rel=>
      refine⟨k+1,xk+4,_,_,_,_,_,_,_,by omega,by go_num,by go_num,by omega,hid (hP.out.add hX9.out aei.out (r:=(List.replicate T 0).set j x3) (by simp) (λy hy=>?_) ?_),Pw,hid Bk.out.drew⟩
      ·rcases List.mem_or_eq_of_mem_set hy with h |h
       ·rw[yz h];omega
       ·rw[h];exact hX3.out
      ·rw[Af,List.getElem?_set_ne hj2,<-Af]
       exact U3 T k
     case measure=>simp[intOf];omega
   ·have aiM:¬((j:Int)< (T:Int)):=by omega
    clear c3 cg hs1;go_wp2
    go_roundw
    case rel=>exact⟨k+1,xk+4,_,_,_,_,_,_,_,by omega,by go_num,by go_num,by omega,hid (hP.out.add hX9.out aei.out (by simp) (λy hy=>by rw[yz hy];omega) (U3 T _)),Fo,Ap⟩
    case measure=>simp[intOf];omega
  ·have Wo:Hid (UI T T pu dr sw):=hid (by have h1:=hP.out;rwa [show k=T by omega]at h1)
   have aiN:xk<=26:=by omega
   have HN0:Hid (Ie wr w.heap.size (.slice none 0 0) [] (λ_=>0) (λ_=>0) (λ_ _=>0) (λ_ _=>0)):=hid ⟨jg _ _ _ _,λn rs h=>by simp at h,λn k n' k' rs rs' h=>by simp at h⟩;clear hP;go_wp2
   go_loopw [6,9] (λx nv wn=>∃(n xn:Nat) (L:List (List (List Pt))) (vR:Value) (gn cn:Nat->Nat) (gr cr:Nat->Nat->Nat),n<=NN/\nv=ab n/\x=ab xn/\xn<=26+25*n/\Hid (TQ T NN n L)/\Hid (F7 wn w.heap.size w.heap.size T pu dr sw vR vP vD vS sg)/\Hid (Ie wn w.heap.size vR L gn cn gr cr)/\Hid (Below w.heap.size w wn)) (λ_ nv _=>NN - (intOf nv).toNat)
   case atStart=>exact⟨0,xk,[],_,_,_,_,_,dh _,rfl,rfl,by omega,hid ⟨rfl,λrs h=>(by cases h),λrs h=>(by cases h),λrs h=>(by cases h),λrs h=>(by cases h),λm rs h=>aaR⟩,hV,HN0,hbr⟩
   case round=>
    clear HN0 hV hbr aiN hxk hk hlt;obtain⟨n,xn,L,vR,gn,cn,gr,cr,hn,rfl,rfl,hxn,Un,Gy,Ez,Bp⟩:=hrel;obtain⟨wn,hwn⟩:=qF (wr);subst hwn
    by_cases Fg:n<NN
    ·have AT:=λw hv=>K0 v xn (by omega) w hv
     have hTi:0<T:=by omega
     go_upto_region 19 with(first
      | (go_at_call 66;refine(AT _ (HV.out.below Bp.out)).mono ?_;rintro e w' ⟨⟨z,rfl,hz⟩,rfl⟩)
      | (go_at_call 44;refine(GZ z T hTi hz _).mono ?_;rintro e w' ⟨⟨r,hr,rfl⟩,rfl⟩))
     obtain⟨cnt,agd⟩:∃cnt:Nat,(1+(r:Int))=(cnt:Int):=⟨1+r,by omega⟩;have hcT:1<=cnt/\cnt<=T:=by omega
     have Wq:T<=6:=Um.2;rw[agd];have Dk:Hid (w.heap.size<=wn.heap.size/\(∀m,m<L.length->gn m<wn.heap.size)/\∀(m:Nat) rs (k:Nat),L[m]?=some rs->k<rs.length->gr m k<wn.heap.size):=hid ⟨Bp.out.size,λm hm=>by
      obtain⟨rs,hrs⟩:∃rs,L[m]?=some rs:=⟨_,gE hm⟩;exact D8 (Ez.out.each m rs hrs).row rfl,λm rs k h1 h2=>((Ez.out.each m rs h1).lt h2).2⟩
     have Mx:Hid (Dd wn wn.heap.size (.slice none 0 0) [] (λ_=>0) (λ_=>0)):=hid ⟨jg _ _ _ _,λk r h=>by simp at h⟩;clear agd hr hz AT hTi;go_wp2
     go_loopw [6,11,12] (λx vq kv wk=>∃(k xk:Nat) (rs:List (List Pt)) (v11:Value) (gk ck:Nat->Nat),k<=cnt/\kv=ab k/\x=ab xk/\xk<=xn+1+4*k/\v11=vq/\Hid (OB T NN n cnt k rs)/\Hid (Dd wk wn.heap.size v11 rs gk ck)/\Hid (∀i j,i<rs.length->j<rs.length->gk i=gk j->i=j)/\Hid (F7 wk w.heap.size w.heap.size T pu dr sw vR vP vD vS sg)/\Hid (Ie wk w.heap.size vR L gn cn gr cr)/\Hid (Below w.heap.size w wk)/\Hid (wn.heap.size<=wk.heap.size)) (λ_ _ kv _=>cnt - (intOf kv).toNat)
     case atStart=>exact⟨0,xn+1,[],_,_,_,dh _,rfl,by go_num,by omega,rfl,hid ⟨rfl,λi r h=>aaR,λr h=>(by cases h),λi r h=>aaR,λr h=>aaR⟩,Mx,hid (λi j h=>aaR),Gy,Ez,Bp,hid (zn _)⟩
     case round=>
      clear Mx Gy Ez Bp;obtain⟨k,xk,rs,v11,gk,ck,hk,rfl,rfl,hxk,rfl,Fe,hRS,hIJ,Gy,Ez,Bp,hsz⟩:=hrel;obtain⟨wk,hwk⟩:=qF (wr);subst hwk
      by_cases hlk:k<cnt
      ·have Cp:k<6:=by omega
       have AT:=λw hv=>K0 v xk (by omega) w hv
       go_upto_region 26 with(first
        | (go_at_call 31;refine(ID k Cp _).mono ?_;rintro e w' ⟨rfl,rfl⟩)
        | (go_at_call 66;refine(AT _ (HV.out.below (Aj Bp.out))).mono ?_;rintro e w' ⟨⟨z,rfl,hz⟩,rfl⟩)
        | (go_at_call 44;refine(GZ z 4 (by omega) hz _).mono ?_;rintro e w' ⟨⟨sz,alD,rfl⟩,rfl⟩))
       obtain⟨W0,hW0⟩:=qE (wk.alloc (.cells #[.string (AB k)] 9));rw[hW0];have hbk:Below wk.heap.size wk W0:=by rw[<-hW0];exact Aj (ah _ _)
       have age:Hid (W0.ownsRow wk.heap.size 9 1 (ae wk.heap.size 1 1) ([Pt.tok k]).length (Ff [.tok k])):=hid (by rw[<-hW0];exact LM wk #[.string (AB k)] 1 1 9 wk.heap.size (zn _) Bg rfl);have agf:=hid (Gy.out.below hbk);have agh:=hid (Ez.out.keeps (A5.zQ hbk []) (I9 _ _) (λ_ _=>by simp) (λ_ _ _ _ _=>by simp));have agi:=hid (hRS.out.keeps (A5.zQ hbk []) (I9 _ _) (λ_ _=>by simp));have aiO:w.heap.size<=wk.heap.size:=zV Dk.out.1 hsz.out;have Ah:Hid (Below w.heap.size w W0):=hid (Bp.out.trans (hbk.mono aiO));have Nj:Hid (wk.heap.size<=W0.heap.size):=hid hbk.size;have HGB:Hid (∀i,i<rs.length->gk i<wk.heap.size):=hid (λi hi=>(hRS.out.lt hi).2);have alE:xk<=4*k+xn+1:=by omega
       clear hW0 hbk hz AT Gy Ez hRS Bp;go_wp2
       go_loopw [6,13,15] (λx vr pv wp=>∃(p xp:Nat) (r:List Pt) (v13:Value),p<=sz/\pv=ab p/\x=ab xp/\xp<=xk+1+p/\v13=vr/\Hid (j5 T NN cnt k p r)/\Hid (wp.ownsRow wk.heap.size 9 1 v13 r.length (Ff r))/\Hid (F7 wp w.heap.size w.heap.size T pu dr sw vR vP vD vS sg)/\Hid (Ie wp w.heap.size vR L gn cn gr cr)/\Hid (Dd wp wn.heap.size v11 rs gk ck)/\Hid (Below w.heap.size w wp)/\Hid (wk.heap.size<=wp.heap.size)) (λ_ _ pv _=>sz - (intOf pv).toNat)
       case atStart=>exact⟨0,xk+1,[.tok k],_,dh _,rfl,by go_num,by omega,rfl,hid ⟨rfl,rfl,λq hq=>(by rw[mS.1 hq];show k<T;omega),λ_ q hq=>⟨k,mS.1 hq⟩⟩,age,agf,agh,agi,Ah,Nj⟩
       case round=>
        clear age agf agh agi Ah Nj;obtain⟨p,xp,r,v13,hp,rfl,rfl,hxp,rfl,Dj,agj,Gy,Ez,hRS,Bp,hsp⟩:=hrel;obtain⟨wp,hwp⟩:=qF (wr);subst hwp
        by_cases Ub:p<sz
        ·have AT:=λw hv=>K0 v xp (by omega) w hv
         have agk:((T+NN:Nat):Int)=(T:Int)+(NN:Int):=by omega
         have PK:=λz hz w=>GZ z (T+NN) (by omega) hz w
         rw[agk]at PK
         go_upto_region 32 with(first
          | (go_at_call 66;refine(AT _ (HV.out.below Bp.out)).mono ?_;rintro e w' ⟨⟨z,rfl,hz⟩,rfl⟩)
          | (go_at_call 44;refine(PK z hz _).mono ?_;rintro e w' ⟨⟨c,hc,rfl⟩,rfl⟩))
         have alF:c<T+NN:=hc;have hpl:=Dj.out.len;have alG:r.length<=4:=by omega
         clear AT PK agk hz hc;have hrow:=agj.out;have aiP:wk.heap.size<=wp.heap.size:=hsp.out
         by_cases hA:k+1=cnt
         ·have hAi:((k:Int)==(cnt:Int) - 1)=true:=by simp;omega
          clear hA;exact af4
         ·have hAi:((k:Int)==(cnt:Int) - 1)=false:=by simp;omega
          by_cases hcl:c<T
          ·have hci:(c:Int)< (T:Int):=by omega
           clear hcl;exact af4
          ·have hci:¬((c:Int)< (T:Int)):=by omega
           obtain⟨q,hq,hqN⟩:∃q:Nat,(c:Int) - (T:Int)=(q:Int)/\q<NN:=⟨c - T,by omega,by omega⟩;have KN:=RX q (by omega);rw[<-hq]at KN;have HA:Hid (¬k+1=cnt):=hid hA;clear hq hcl hA
           go_wp2_with (first
            | (go_at_call 33;refine(KN _).mono ?_;rintro e w' ⟨rfl,rfl⟩)
            | (at_builtin;refine jt _ rfl _ _ 39 rfl wk.heap.size 9 iS (.string ByteArray.empty) 1 16 Tryz.underlying39 Gu Gv Gw Gx rfl (by decide) _ _ _ rfl (hrow.alloc _) (af wp.heap.size 0) 1 1 [.string (BM q)] rfl rfl (dn (dz wp _)) ?c2 (zn 1) ?c3 ?c4 ?c5 _ rfl ?_))
           case c2=>intro u hu;simp at hu;subst hu;rfl
           case c3=>unfold maxLen;omega
           case c4=>omega
           case c5=>simp;omega
           intro g3 Cf w3 Ad Ae Hy Fi;have hkeep:A5 wp w3 v13.ownBlock.toList:=((A5.refl _ _).alloc _).grown Ae (λq hq=>.inl Hh);have Cl:∀g∈v13.ownBlock.toList,wk.heap.size<=g:=λg hm=>(hrow.lt g (BJ hm)).1
           have aeg:Hid (w3.ownsRow wk.heap.size 9 1 (ae g3 (p+1+1) Cf) (r++ [Pt.zi q]).length (Ff (r++ [Pt.zi q]))):=hid afz;have abz:=hid (Gy.out.keeps hkeep (AO hrow (by decide)) (AO hrow (by decide)) (AO hrow (by decide)));have abA:=hid (Ez.out.keeps hkeep (AO hrow (by decide)) (λm hm hx=>by have:=Cl _ hx;have:=Dk.out.2.1 m hm;have:=hsz.out;omega) (λm rs' k' h1 h2 hx=>by have:=Cl _ hx;have:=Dk.out.2.2 m rs' k' h1 h2;have:=hsz.out;omega));have aa0:=hid (hRS.out.keeps hkeep (AO hrow (by decide)) (λi hi hx=>by have:=Cl _ hx;have:=HGB.out i hi;omega));have Ap:Hid (Below w.heap.size w w3):=hid (Bp.out.trans (hkeep.below (by have:=hsp.out;omega) (λq hq=>by have:=Cl q hq;omega)));have Nf:Hid (j5 T NN cnt k (p+1) (r++ [Pt.zi q])):=hid ⟨by rw[lA,Dj.out.len];rfl,by have h1:=Dj.out.head;cases r with |nil=>cases h1 |cons a l=>exact h1,λa ha=>by
            rcases ig.1 ha with ha |ha
            ·exact Dj.out.part a ha
            ·rw[mS.1 ha];exact(show q<NN from hqN),λhl a ha=>by
            rcases ig.1 ha with ha |ha
            ·exact Dj.out.last hl a ha
            ·rw[mS.1 ha];exact absurd hl HA.out⟩
           have HS3:Hid (wk.heap.size<=w3.heap.size):=hid (zV hsp.out hkeep.size);clear Ad Ae Hy Fi hkeep hrow Cl;go_wp2
           go_roundw
           case rel=>exact⟨p+1,xp+1,r++ [Pt.zi q],_,by omega,by go_num,by go_num,by omega,by rfl,Nf,aeg,abz,abA,aa0,Ap,HS3⟩
           case measure=>simp[intOf];omega
        ·have hpz:p=sz:=by omega
         subst hpz;have hrw:=agj.out
         by_cases hk0:k=0
         ·have aiQ:((k:Int)==0)=true:=by simp;omega
          by_cases hc1:1<cnt
          ·have aiR:(1:Int)< (cnt:Int):=by omega
           by_cases zT:n+1<NN
           ·have aiS:(n:Int)+1< (NN:Int):=by omega
            have Jj:Hid (k=0/\1<cnt):=hid ⟨hk0,hc1⟩;have hpl:=Dj.out.len;have hr4:r.length<=4:=by omega
            have aiP:wk.heap.size<=wp.heap.size:=hsp.out;have abH:((n+1:Nat):Int)=(n:Int)+1:=by omega
            have KN:=λw=>RX (n+1) (by omega) w
            rw[abH]at KN;clear hk0 abH
            go_upto_region 38 with(first
             | (go_at_call 33;refine(KN _).mono ?_;rintro e w' ⟨rfl,rfl⟩)
             | (at_builtin;refine jt _ rfl _ _ 39 rfl wk.heap.size 9 iS (.string ByteArray.empty) 1 16 Tryz.underlying39 Gu Gv Gw Gx rfl (by decide) _ _ _ rfl (hrw.alloc _) (af wp.heap.size 0) 1 1 [.string (BM (n+1))] rfl rfl (dn (dz wp _)) ?c2 (zn 1) ?c3 ?c4 ?c5 _ rfl ?_))
            case c2=>intro u hu;simp at hu;subst hu;rfl
            case c3=>unfold maxLen;omega
            case c4=>omega
            case c5=>simp;omega
            intro g3 Cf w3 Ad Ae Hy Fi
            go_upto_region 38 with fail
            have hkeep:A5 wp w3 v13.ownBlock.toList:=((A5.refl _ _).alloc _).grown Ae (λq hq=>.inl Hh);have Cl:∀g∈v13.ownBlock.toList,wk.heap.size<=g:=λg hm=>(hrw.lt g (BJ hm)).1
            have hrow3:w3.ownsRow wk.heap.size 9 1 (ae g3 (p+1+1) Cf) (r++ [Pt.zi (n+1)]).length (Ff (r++ [Pt.zi (n+1)])):=by unfold Ff at Ad ⊢;rw[fq,lA,Dj.out.len];exact Ad
            have abz:=hid (Gy.out.keeps hkeep (AO hrw (by decide)) (AO hrw (by decide)) (AO hrw (by decide)));have abA:=hid (Ez.out.keeps hkeep (AO hrw (by decide)) (λm hm hx=>by have:=Cl _ hx;have:=Dk.out.2.1 m hm;have:=hsz.out;omega) (λm rs' k' h1 h2 hx=>by have:=Cl _ hx;have:=Dk.out.2.2 m rs' k' h1 h2;have:=hsz.out;omega));have aa0:=hid (hRS.out.keeps hkeep (AO hrw (by decide)) (λi hi hx=>by have:=Cl _ hx;have:=HGB.out i hi;omega));have Ap:Hid (Below w.heap.size w w3):=hid (Bp.out.trans (hkeep.below (by have:=hsp.out;omega) (λq hq=>by have:=Cl q hq;omega)));have HS3:Hid (wk.heap.size<=w3.heap.size):=hid (zV hsp.out hkeep.size);clear Ad Ae Hy Fi hkeep hrw Cl hpl;have hrw:=hrow3;clear hrow3;have Gh:p+1+1=(r++ [Pt.zi (n+1)]).length:=by rw[lA,Dj.out.len];rfl
            rw[<-Gh]at hrw;have Bw:wk.heap.size<=g3/\g3<w3.heap.size:=hrw.lt g3 rfl;have acA:p+1+1<=5:=by omega
            obtain⟨xs,hxs⟩:=qF ((List.range rs.length).map λk=>Value.slice (some ⟨gk k,0,none⟩) ((rs.getD k []).length) (ck k));have Cv:=aa0.out.row;rw[<-hxs,Fe.out.len]at Cv;have HRW:=hid hrw;have HXS:=hid hxs;have aaC:=hid Gh;clear hrw hxs Gh;have abB:wn.heap.size<=w3.heap.size:=by have:=hsz.out;have:=HS3.out;omega
            go_wp2_with (first | (at_builtin;refine jt _ rfl _ _ 46 rfl wn.heap.size 39 iR (.slice none 0 0) 1 24 Tryz.underlying46 Rs Rt Ru Rv rfl (by decide) _ _ _ rfl (Cv.alloc _) (af w3.heap.size 0) 1 1 [ae g3 (p+1+1) Cf] rfl rfl (dn (dz w3 _)) ?d2 (zn 1) ?d3 ?d4 ?d5 _ rfl ?_))
            case d2=>first |rfl | (intro u hu;simp at hu;subst hu;rfl)
            case d3=>unfold maxLen;omega
            case d4=>omega
            case d5=>first |omega | (simp;omega)
            intro g4 Mn w4 To Nw Zq Wk;have hkeep:A5 w3 w4 v11.ownBlock.toList:=((A5.refl _ _).alloc _).grown Nw (λq hq=>.inl Hh);have Cl:∀g∈v11.ownBlock.toList,wn.heap.size<=g:=λg hm=>(Cv.lt g (BJ hm)).1
            have abD:Hid (Dd w4 wn.heap.size (ae g4 (k+1) Mn) (rs++ [r++ [Pt.zi (n+1)]]) (λi=>if i=k then g3 else gk i) (λi=>if i=k then Cf else ck i)):=hid (by
             have h:=Dd.push aa0.out (r:=r++ [Pt.zi (n+1)]) acv hkeep acu;rw[Fe.out.len]at h;exact h)
            have abE:Hid (∀i j,i< (rs++ [r++ [Pt.zi (n+1)]]).length->j< (rs++ [r++ [Pt.zi (n+1)]]).length->(λi=>if i=k then g3 else gk i) i=(λi=>if i=k then g3 else gk i) j->i=j):=hid (λi j hi hj he=>by
             rw[lA,fu,Fe.out.len]at hi hj;simp only at he
             by_cases e1:i=k <;> by_cases e2:j=k
             ·omega
             ·exact acU
             ·exact acV
             ·rw[aq e1,aq e2]at he
              exact hIJ.out i j Qw Qw he)
            have abF:=hid (abz.out.keeps hkeep (AO Cv (by decide)) (AO Cv (by decide)) (AO Cv (by decide)));have abG:=hid (abA.out.keeps hkeep (AO Cv (by decide)) (λm hm hx=>by have:=Cl _ hx;have:=Dk.out.2.1 m hm;omega) (λm rs' k' h1 h2 hx=>by have:=Cl _ hx;have:=Dk.out.2.2 m rs' k' h1 h2;omega));have Bk:Hid (Below w.heap.size w w4):=hid (Ap.out.trans (hkeep.below acE (λq hq=>by have:=Cl q hq;have:=Dk.out.1;omega)));have abC:Hid (OB T NN n cnt (k+1) (rs++ [r++ [Pt.zi (n+1)]])):=hid (Fe.out.add ((by have h1:=Dj.out.head;cases r with |nil=>cases h1 |cons a l=>exact h1)) acz (λa ha=>by
             rcases ig.1 ha with ha |ha
             ·exact Dj.out.part a ha
             ·rw[mS.1 ha];exact(show n+1<NN from zT)) (λh=>by have:=Jj.out;omega) (λ_ _ _=>vo _ (mS.2 rfl)))
            have Kc:Hid (wn.heap.size<=w4.heap.size):=hid (zV abB hkeep.size);clear To Nw Zq Wk hkeep Cv Cl;go_wp2
            go_roundw
            case rel=>exact⟨k+1,xp,rs++ [r++ [Pt.zi (n+1)]],_,_,_,by omega,by go_num,rfl,by omega,by rfl,abC,abD,abE,abF,abG,Bk,Kc⟩
            case measure=>simp[intOf];omega
           ·have aiS:¬((n:Int)+1< (NN:Int)):=by omega
            clear hk0;obtain⟨Px,Gh⟩:=qF ((r).length);rw[<-Gh]at hrw;obtain⟨g13,c13,abI,Bw,hg2,hg3⟩:=B4 hrw (show 0<Px by rw[Gh];rw[Dj.out.len];omega);have acA:Px<=5:=by rw[Gh];rw[Dj.out.len];omega
            obtain⟨xs,hxs⟩:=qF ((List.range rs.length).map λk=>Value.slice (some ⟨gk k,0,none⟩) ((rs.getD k []).length) (ck k));have Cv:=hRS.out.row;rw[<-hxs,Fe.out.len]at Cv;have HRW:=hid hrw;have HXS:=hid hxs;have aaC:=hid Gh;subst abI;clear hrw hxs Gh;have abB:wn.heap.size<=wp.heap.size:=by have:=hsz.out;have:=hsp.out;omega
            go_wp2_with (first | (at_builtin;refine jt _ rfl _ _ 46 rfl wn.heap.size 39 iR (.slice none 0 0) 1 24 Tryz.underlying46 Rs Rt Ru Rv rfl (by decide) _ _ _ rfl (Cv.alloc _) (af wp.heap.size 0) 1 1 [ae g13 Px c13] rfl rfl (dn (dz wp _)) ?d2 (zn 1) ?d3 ?d4 ?d5 _ rfl ?_))
            case d2=>first |rfl | (intro u hu;simp at hu;subst hu;rfl)
            case d3=>unfold maxLen;omega
            case d4=>omega
            case d5=>first |omega | (simp;omega)
            intro g4 Mn w4 To Nw Zq Wk;have hkeep:A5 wp w4 v11.ownBlock.toList:=((A5.refl _ _).alloc _).grown Nw (λq hq=>.inl Hh);have Cl:∀g∈v11.ownBlock.toList,wn.heap.size<=g:=λg hm=>(Cv.lt g (BJ hm)).1
            have abD:Hid (Dd w4 wn.heap.size (ae g4 (k+1) Mn) (rs++ [r]) (λi=>if i=k then g13 else gk i) (λi=>if i=k then c13 else ck i)):=hid (by
             have h:=Dd.push hRS.out (r:=r) acv hkeep acu;rw[Fe.out.len]at h;exact h)
            have abE:Hid (∀i j,i< (rs++ [r]).length->j< (rs++ [r]).length->(λi=>if i=k then g13 else gk i) i=(λi=>if i=k then g13 else gk i) j->i=j):=hid (λi j hi hj he=>by
             rw[lA,fu,Fe.out.len]at hi hj;simp only at he
             by_cases e1:i=k <;> by_cases e2:j=k
             ·omega
             ·exact acU
             ·exact acV
             ·rw[aq e1,aq e2]at he
              exact hIJ.out i j Qw Qw he)
            have abF:=hid (Gy.out.keeps hkeep (AO Cv (by decide)) (AO Cv (by decide)) (AO Cv (by decide)));have abG:=hid (Ez.out.keeps hkeep (AO Cv (by decide)) (λm hm hx=>by have:=Cl _ hx;have:=Dk.out.2.1 m hm;omega) (λm rs' k' h1 h2 hx=>by have:=Cl _ hx;have:=Dk.out.2.2 m rs' k' h1 h2;omega));have Bk:Hid (Below w.heap.size w w4):=hid (Bp.out.trans (hkeep.below acE (λq hq=>by have:=Cl q hq;have:=Dk.out.1;omega)));have abC:Hid (OB T NN n cnt (k+1) (rs++ [r])):=hid (Fe.out.add (Dj.out.head) acz (Dj.out.part) (Dj.out.last) (λ_ _ h=>absurd h zT));exact aeh
          ·have aiR:¬((1:Int)< (cnt:Int)):=by omega
           clear hk0;obtain⟨Px,Gh⟩:=qF ((r).length);rw[<-Gh]at hrw;obtain⟨g13,c13,abI,Bw,hg2,hg3⟩:=B4 hrw (show 0<Px by rw[Gh];rw[Dj.out.len];omega);have acA:Px<=5:=by rw[Gh];rw[Dj.out.len];omega
           obtain⟨xs,hxs⟩:=qF ((List.range rs.length).map λk=>Value.slice (some ⟨gk k,0,none⟩) ((rs.getD k []).length) (ck k));have Cv:=hRS.out.row;rw[<-hxs,Fe.out.len]at Cv;have HRW:=hid hrw;have HXS:=hid hxs;have aaC:=hid Gh;subst abI;clear hrw hxs Gh;have abB:wn.heap.size<=wp.heap.size:=by have:=hsz.out;have:=hsp.out;omega
           go_wp2_with (first | (at_builtin;refine jt _ rfl _ _ 46 rfl wn.heap.size 39 iR (.slice none 0 0) 1 24 Tryz.underlying46 Rs Rt Ru Rv rfl (by decide) _ _ _ rfl (Cv.alloc _) (af wp.heap.size 0) 1 1 [ae g13 Px c13] rfl rfl (dn (dz wp _)) ?d2 (zn 1) ?d3 ?d4 ?d5 _ rfl ?_))
           case d2=>first |rfl | (intro u hu;simp at hu;subst hu;rfl)
           case d3=>unfold maxLen;omega
           case d4=>omega
           case d5=>first |omega | (simp;omega)
           intro g4 Mn w4 To Nw Zq Wk;have hkeep:A5 wp w4 v11.ownBlock.toList:=((A5.refl _ _).alloc _).grown Nw (λq hq=>.inl Hh);have Cl:∀g∈v11.ownBlock.toList,wn.heap.size<=g:=λg hm=>(Cv.lt g (BJ hm)).1
           have abD:Hid (Dd w4 wn.heap.size (ae g4 (k+1) Mn) (rs++ [r]) (λi=>if i=k then g13 else gk i) (λi=>if i=k then c13 else ck i)):=hid (by
            have h:=Dd.push hRS.out (r:=r) acv hkeep acu;rw[Fe.out.len]at h;exact h)
           have abE:Hid (∀i j,i< (rs++ [r]).length->j< (rs++ [r]).length->(λi=>if i=k then g13 else gk i) i=(λi=>if i=k then g13 else gk i) j->i=j):=hid (λi j hi hj he=>by
            rw[lA,fu,Fe.out.len]at hi hj;simp only at he
            by_cases e1:i=k <;> by_cases e2:j=k
            ·omega
            ·exact acU
            ·exact acV
            ·rw[aq e1,aq e2]at he
             exact hIJ.out i j Qw Qw he)
           have abF:=hid (Gy.out.keeps hkeep (AO Cv (by decide)) (AO Cv (by decide)) (AO Cv (by decide)));have abG:=hid (Ez.out.keeps hkeep (AO Cv (by decide)) (λm hm hx=>by have:=Cl _ hx;have:=Dk.out.2.1 m hm;omega) (λm rs' k' h1 h2 hx=>by have:=Cl _ hx;have:=Dk.out.2.2 m rs' k' h1 h2;omega));have Bk:Hid (Below w.heap.size w w4):=hid (Bp.out.trans (hkeep.below acE (λq hq=>by have:=Cl q hq;have:=Dk.out.1;omega)));have abC:Hid (OB T NN n cnt (k+1) (rs++ [r])):=hid (Fe.out.add (Dj.out.head) acz (Dj.out.part) (Dj.out.last) (λ_ h _=>absurd h hc1));exact aeh
         ·have aiQ:((k:Int)==0)=false:=by simp;omega
          obtain⟨Px,Gh⟩:=qF ((r).length);rw[<-Gh]at hrw;obtain⟨g13,c13,abI,Bw,hg2,hg3⟩:=B4 hrw (show 0<Px by rw[Gh];rw[Dj.out.len];omega);have acA:Px<=5:=by rw[Gh];rw[Dj.out.len];omega
          obtain⟨xs,hxs⟩:=qF ((List.range rs.length).map λk=>Value.slice (some ⟨gk k,0,none⟩) ((rs.getD k []).length) (ck k));have Cv:=hRS.out.row;rw[<-hxs,Fe.out.len]at Cv;have HRW:=hid hrw;have HXS:=hid hxs;have aaC:=hid Gh;subst abI;clear hrw hxs Gh;have abB:wn.heap.size<=wp.heap.size:=by have:=hsz.out;have:=hsp.out;omega
          go_wp2_with (first | (at_builtin;refine jt _ rfl _ _ 46 rfl wn.heap.size 39 iR (.slice none 0 0) 1 24 Tryz.underlying46 Rs Rt Ru Rv rfl (by decide) _ _ _ rfl (Cv.alloc _) (af wp.heap.size 0) 1 1 [ae g13 Px c13] rfl rfl (dn (dz wp _)) ?d2 (zn 1) ?d3 ?d4 ?d5 _ rfl ?_))
          case d2=>first |rfl | (intro u hu;simp at hu;subst hu;rfl)
          case d3=>unfold maxLen;omega
          case d4=>omega
          case d5=>first |omega | (simp;omega)
          intro g4 Mn w4 To Nw Zq Wk;have hkeep:A5 wp w4 v11.ownBlock.toList:=((A5.refl _ _).alloc _).grown Nw (λq hq=>.inl Hh);have Cl:∀g∈v11.ownBlock.toList,wn.heap.size<=g:=λg hm=>(Cv.lt g (BJ hm)).1
          have abD:Hid (Dd w4 wn.heap.size (ae g4 (k+1) Mn) (rs++ [r]) (λi=>if i=k then g13 else gk i) (λi=>if i=k then c13 else ck i)):=hid (by
           have h:=Dd.push hRS.out (r:=r) acv hkeep acu;rw[Fe.out.len]at h;exact h)
          have abE:Hid (∀i j,i< (rs++ [r]).length->j< (rs++ [r]).length->(λi=>if i=k then g13 else gk i) i=(λi=>if i=k then g13 else gk i) j->i=j):=hid (λi j hi hj he=>by
           rw[lA,fu,Fe.out.len]at hi hj;simp only at he
           by_cases e1:i=k <;> by_cases e2:j=k
           ·omega
           ·exact acU
           ·exact acV
           ·rw[aq e1,aq e2]at he
            exact hIJ.out i j Qw Qw he)
          have abF:=hid (Gy.out.keeps hkeep (AO Cv (by decide)) (AO Cv (by decide)) (AO Cv (by decide)));have abG:=hid (Ez.out.keeps hkeep (AO Cv (by decide)) (λm hm hx=>by have:=Cl _ hx;have:=Dk.out.2.1 m hm;omega) (λm rs' k' h1 h2 hx=>by have:=Cl _ hx;have:=Dk.out.2.2 m rs' k' h1 h2;omega));have Bk:Hid (Below w.heap.size w w4):=hid (Bp.out.trans (hkeep.below acE (λq hq=>by have:=Cl q hq;have:=Dk.out.1;omega)));have abC:Hid (OB T NN n cnt (k+1) (rs++ [r])):=hid (Fe.out.add (Dj.out.head) acz (Dj.out.part) (Dj.out.last) (λh _ _=>absurd h hk0));exact aeh
      ·have hkz:k=cnt:=by omega
       subst hkz;have hrl:=Fe.out.len;have Ej:=Un.out.len;obtain⟨g11,c11,agl,Kb,Wi,hq3⟩:=B4 hRS.out.row (show 0<rs.length by omega);rw[hrl]at agl;subst agl;obtain⟨xs,hxs⟩:=qF ((List.range L.length).map λn=>Value.slice (some ⟨gn n,0,none⟩) ((L.getD n []).length) (cn n));have hrN:=Ez.out.row;rw[<-hxs,Ej]at hrN;have HXS:=hid hxs;have c0:=Gy.out.cells.1;have hwW:w.heap.size<=wk.heap.size:=zV Dk.out.1 hsz.out;have hbl:w.heap.size<wk.heap.size:=ak Gy.out.blk;have hfB:some w.heap.size≠vR.ownBlock:=λe=>A9 hrN Gy.out.blk (by decide) e.symm
       have alH:wn.heap.size<=wk.heap.size:=hsz.out;clear hxs hrl Ej
       go_upto_region 40 with(first | (at_builtin;refine jt _ rfl _ _ 64 rfl w.heap.size 46 iN (.slice none 0 0) 1 24 Tryz.underlying64 Kl Pr Pu Pv rfl (by decide) _ _ _ rfl (hrN.alloc _) (af wk.heap.size 0) 1 1 [ae g11 k c11] rfl rfl (dn (dz wk _)) ?d2 (zn 1) ?d3 ?d4 ?d5 _ rfl ?_))
       case d2=>first |rfl | (intro u hu;simp at hu;subst hu;rfl)
       case d3=>unfold maxLen;omega
       case d4=>omega
       case d5=>first |omega | (simp;omega)
       intro g4 Mn w4 To Nw Zq Wk;have hkeep:A5 wk w4 vR.ownBlock.toList:=((A5.refl _ _).alloc _).grown Nw (λq hq=>.inl Hh);have hb4:=(hkeep.block w.heap.size hbl (λhm=>hfB (BJ hm).symm)).trans Gy.out.blk;have Zr:w4.cell? (af w.heap.size 0)=some vR:=A0 hb4;have f14:w4.frozen? (af w.heap.size 0)=false:=A7 hb4;have acW:=hid (Gy.out.ait hrN hkeep (ae g4 (n+1) Mn));have abJ:Hid (Ie (w4.setCell (af w.heap.size 0) (ae g4 (n+1) Mn)) w.heap.size (ae g4 (n+1) Mn) (L++ [rs]) (λm=>if m=n then g11 else gn m) (λm=>if m=n then c11 else cn m) (λm j=>if m=n then gk j else gr m j) (λm j=>if m=n then ck j else cr m j)):=hid (by
        have h:=Ie.push Ez.out (rs:=rs) (g:=g11) (c:=c11) (by rw[Fe.out.len];exact hRS.out.base Dk.out.1) hIJ.out (λm rs' i j h1 h2 h3 e=>by have:=Dk.out.2.2 m rs' i h1 h2;have:=(hRS.out.lt h3).1;omega) hkeep (by rw[Fe.out.len,<-HXS.out,Un.out.len];exact To);rw[Un.out.len]at h;exact h.setOther hb4)
       have Av:Hid (Below w.heap.size w (w4.setCell (af w.heap.size 0) (ae g4 (n+1) Mn))):=hid ((Bp.out.trans (hkeep.below hwW (LD hrN))).setCell Mu _);clear To Nw Zq Wk hkeep hrN hb4 hfB Gy Ez Bp c0
       go_upto_region 40 with fail
       obtain⟨W5,Bj⟩:=qE (w4.setCell (af w.heap.size 0) (ae g4 (n+1) Mn));rw[Bj]at acW abJ Av ⊢;have hTT:0<T:=by omega
       have aiT:xk<=26+25*(n+1):=by omega
       have hb0:w.heap.size<=W5.heap.size:=Av.out.size;clear Bj Zr f14
       by_cases hc1:k=1
       ·have aiU:((k:Int)==1)=true:=by simp;omega
        have De:Hid (Mk.Pre ⟨pu,dr,sw,L++ [rs]⟩ NN):=hid (uS Un.out Wo.out Um hN2.2 Fg (by have h1:=Fe.out;rwa [hc1]at h1));have Fh:(L++ [rs]).length=n+1:=by rw[lA,Un.out.len];rfl
        have hrl:∀q∈L++ [rs],0<q.length:=λq hq=>(De.out.c1 q hq).1
        have Zh:∀q∈L++ [rs],∀a∈q,0<a.length:=λq hq a ha=>by
         obtain⟨i,hi,rfl⟩:=jv.1 ha;have h1:=(De.out.head q hq i _ (gE hi)).1;cases h2:q[i]with
         |nil=>rw[h2]at h1;cases h1
         |cons x l=>simp
        obtain⟨role,hro⟩:=vF abJ.out;obtain⟨gR,cR,hsc⟩:=wH acW.out abJ.out (by rw[Fh];omega) hrl Zh hro;have HSM:Hid (tP (L++ [rs])):=hid ⟨by rw[Fh];omega,λq hq=>by have:=(De.out.c1 q hq).2;have h6:=De.out.t6;omega,λq hq a ha=>by
         obtain⟨i,hi,rfl⟩:=jv.1 ha;exact(De.out.head q hq i _ (gE hi)).2,λq hq a ha x hx=>by
         have h1:=De.out.part q hq a ha x hx;have h6:=De.out.t6;have h4:=De.out.n4;cases x with
         |tok t=>have h7:t<pu.length:=h1;show t<6;simp only at h6;omega
         |zi m=>have h7:m<NN:=h1;show m<4;omega⟩
        have hgr:∀(m:Nat) q (j:Nat) a,(L++ [rs])[m]?=some q->q[j]?=some a->w.heap.size<=(λm j=>if m=n then gk j else gr m j) m j:=λm q j a h1 h2=>((abJ.out.each m q h1).lt (zM.1 h2).1).1
        have Uk:=hid (q9 (L++ [rs]) HSM.out (L++ [rs]).length W5 w.heap.size w.heap.size role gR cR _ _ _ _ _ hsc (fZ _ _) hgr);have HRO:=hid hro;have Nx:=hid (And.intro hrl Zh);have Zs:=hid Fh;rw[Fh]at Uk;have abH:((n+1:Nat):Int)=(n:Int)+1:=by omega
        rw[abH]at Uk;clear hrl Zh hsc hro hgr Fh hc1 abH
        go_wp2_with (first | (go_at_call 67;refine Uk.out.mono ?_;rintro e w6 ⟨rfl,hc6,agm,zU⟩;have H6:=hid (And.intro hc6 (And.intro agm zU));clear hc6 agm zU))
        go_ret;obtain⟨⟨c6,hcut,hsh⟩,Da,zU⟩:=H6.out;refine⟨w.heap.size,Mk.cut ⟨pu,dr,sw,L++ [rs]⟩,rfl,De.out.aio,?_,Av.out.trans zU⟩;exact tQ acW.out hTT Wo.out.pl Wo.out.dl Wo.out.sl (by rw[Zs.out];omega) Nx.out.1 Nx.out.2 HRO.out hsh (by rw[Zs.out];exact hcut) Da zU.size
       ·have aiU:((k:Int)==1)=false:=by simp;omega
        have aiV:Hid (TQ T NN (n+1) (L++ [rs])):=hid (Un.out.add Fe.out (by omega) (by omega));clear hc1;go_wp2
        go_roundw
        case rel=>exact⟨n+1,xk,L++ [rs],_,_,_,_,_,by omega,by go_num,rfl,aiT,aiV,acW,abJ,Av⟩
        case measure=>simp[intOf];omega
    ·have hnn:n=NN:=by omega
     have De:Hid (Mk.Pre ⟨pu,dr,sw,L⟩ NN):=hid (vO Un.out Wo.out Um hN2.2 hn (by omega));have hTT:0<T:=by omega
     have HM:Hid (Gf wn wn.heap.size w.heap.size ⟨pu,dr,sw,L⟩):=hid (xE Gy.out Ez.out hTT Wo.out.pl Wo.out.dl Wo.out.sl (by rw[Un.out.len];omega) (λq hq=>(De.out.c1 q hq).1) (λq hq a ha=>by
      obtain⟨i,hi,rfl⟩:=jv.1 ha;have h1:=(De.out.head q hq i _ (gE hi)).1;cases h2:q[i]with
      |nil=>rw[h2]at h1;cases h1
      |cons x l=>simp))
     clear Gy Ez;go_wp2;go_ret;exact⟨w.heap.size,⟨pu,dr,sw,L⟩,rfl,Mk.Pre.good (by have h1:=De.out;rwa [show NN=(Mk.rules ⟨pu,dr,sw,L⟩).length from by show NN=L.length;rw[Un.out.len];omega]at h1),HM.out,Bp.out⟩
end Go.Proofs.YtjjggdcnpndgjaaGreatDoor
