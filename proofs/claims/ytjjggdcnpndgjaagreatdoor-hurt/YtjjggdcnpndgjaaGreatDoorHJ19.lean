import Derived.Test.YtjjggdcnpndgjaaGreatDoorHJ18
import Derived.Deep.DeepCutAuto
set_option linter.unusedSimpArgs false
set_option maxHeartbeats 0
set_option maxRecDepth 100000
namespace Go.Proofs.YtjjggdcnpndgjaaGreatDoor
abbrev mz:=@Go.wp_append_lies
abbrev xN:=@List.eq_of_mem_replicate
open Go.RowKit Go.Shelf Go.WideMaps Go.Maps
variable {L:List (List (List Pt))}{NN T n:Nat}{dr pu:List Nat}{rs:List (List Pt)}{sw:List (List Nat)}
theorem Tryz.infoC3:(Tryz.prog.info? 3).map (λi=>(i.zero,i.size,i.bytes))=some (some (ab 0),1,8):=by kernel_rfl
theorem Tryz.infoC45:(Tryz.prog.info? 45).map (λi=>(i.zero,i.size,i.bytes))=some (some (.slice none 0 0),1,24):=by kernel_rfl
theorem Tryz.infoC9:(Tryz.prog.info? 9).map (λi=>(i.zero,i.size,i.bytes))=some (some (.string ByteArray.empty),1,16):=by kernel_rfl
theorem Tryz.infoC39:(Tryz.prog.info? 39).map (λi=>(i.zero,i.size,i.bytes))=some (some (.slice none 0 0),1,24):=by kernel_rfl
theorem Tryz.infoC46:(Tryz.prog.info? 46).map (λi=>(i.zero,i.size,i.bytes))=some (some (.slice none 0 0),1,24):=by kernel_rfl
structure T7 (T k:Nat) (pu dr:List Nat) (sw:List (List Nat)):Prop where
 pl:pu.length=k
 dl:dr.length=k
 sl:sw.length=k
 p1:∀x∈pu,1<=x/\x<=9
 d1:∀x∈dr,1<=x/\x<=9
 s1:∀r∈sw,∀x∈r,x<=9
 sd:∀(i:Nat) r,sw[i]?=some r->r.length=T/\r.getD i 0=0
structure TY (T NN n:Nat) (L:List (List (List Pt))):Prop where
 len:L.length=n
 c1:∀rs∈L,2<=rs.length/\rs.length<=T
 head:∀rs∈L,∀(k:Nat) r,rs[k]?=some r->r.head?=some (.tok k)/\r.length<=5
 part:∀rs∈L,∀r∈rs,∀p∈r,EL T NN p
 last:∀rs∈L,∀r,rs.getLast?=some r->∀p∈r,∃t,p=.tok t
 reach:∀(m:Nat) rs,L[m]?=some rs->m+1<NN->∃r,rs[0]?=some r/\ .yB (m+1)∈r
structure O1 (T NN n cnt k:Nat) (rs:List (List Pt)):Prop where
 len:rs.length=k
 head:∀(i:Nat) r,rs[i]?=some r->r.head?=some (.tok i)/\r.length<=5
 part:∀r∈rs,∀p∈r,EL T NN p
 last:∀(i:Nat) r,rs[i]?=some r->i+1=cnt->∀p∈r,∃t,p=.tok t
 reach:∀r,rs[0]?=some r->1<cnt->n+1<NN-> .yB (n+1)∈r
structure jG (T NN cnt k p:Nat) (r:List Pt):Prop where
 len:r.length=p+1
 head:r.head?=some (.tok k)
 part:∀q∈r,EL T NN q
 last:k+1=cnt->∀q∈r,∃t,q=.tok t
theorem O1.add {cnt k:Nat} (h:O1 T NN n cnt k rs) {r:List Pt} (hr:r.head?=some (.tok k)) (h5:r.length<=5) (hp:∀q∈r,EL T NN q) (hl:k+1=cnt->∀q∈r,∃t,q=.tok t) (Bb:k=0->1<cnt->n+1<NN-> .yB (n+1)∈r):O1 T NN n cnt (k+1) (rs++ [r]) where
 len:=by rw[lA,h.len];rfl
 head:=λi q hq=>by
  by_cases hi:i<rs.length
  ·rw[aL hi]at hq;exact h.head i q hq
  ·rw[zQ (by omega)]at hq
   obtain⟨hl2,e⟩:=yS.1 hq;simp only[ey]at hl2;have:i=k:=by have:=h.len;omega
   subst this;simp only[oq]at e;subst e;exact⟨hr,h5⟩
 part:=λq hq=>by
  rcases gj.1 hq with hq |hq
  ·exact h.part q hq
  ·rw[mS.1 hq];exact hp
 last:=λi q hq hc=>by
  by_cases hi:i<rs.length
  ·rw[aL hi]at hq;exact h.last i q hq hc
  ·rw[zQ (by omega)]at hq
   obtain⟨hl2,e⟩:=yS.1 hq;simp only[ey]at hl2;have:i=k:=by have:=h.len;omega
   subst this;simp only[oq]at e;subst e;exact hl hc
 reach:=λq hq hc hn=>by
  have hlen:=h.len;cases rs with
  |nil=>
   simp only[eu,List.getElem?_cons_zero,sj]at hq;subst hq;exact Bb (by simpa using hlen.symm) hc hn
  |cons a l=>exact h.reach q (by simpa using hq) hc hn
theorem afs {P:Prop} (h:P:=by
  rcases gj.1 hq with hq |hq
  ·exact h.last q hq a ha
  ·rw[mS.1 hq]at ha
   rw[List.getLast?_eq_getElem?]at ha;exact hr.last _ a ha (by have:=hr.len;omega)):P:=h
theorem TY.add {cnt:Nat} (h:TY T NN n L) (hr:O1 T NN n cnt cnt rs) (h2:2<=cnt) (hT:cnt<=T):TY T NN (n+1) (L++ [rs]) where
 len:=by rw[lA,h.len];rfl
 c1:=λq hq=>by
  rcases gj.1 hq with hq |hq
  ·exact h.c1 q hq
  ·rw[mS.1 hq,hr.len];exact⟨h2,hT⟩
 head:=λq hq=>by
  rcases gj.1 hq with hq |hq
  ·exact h.head q hq
  ·rw[mS.1 hq];exact hr.head
 part:=λq hq=>by
  rcases gj.1 hq with hq |hq
  ·exact h.part q hq
  ·rw[mS.1 hq];exact hr.part
 last:=λq hq a ha=>by
  exact afs
 reach:=λm q hq hm=>by
  by_cases hi:m<L.length
  ·rw[aL hi]at hq;exact h.reach m q hq hm
  ·rw[zQ (by omega)]at hq
   obtain⟨hl2,e⟩:=yS.1 hq;simp only[ey]at hl2;have:m=n:=by have:=h.len;omega
   subst this;simp only[oq]at e;subst e;obtain⟨r,Fv⟩:∃r,rs[0]?=some r:=⟨_,gE (by rw[hr.len];omega)⟩;exact⟨r,Fv,hr.reach r Fv (by omega) hm⟩
theorem uS  (h:TY T NN n L) (ht:T7 T T pu dr sw) (hT:2<=T/\T<=6) (hN:NN<=4) (hn:n<=NN) (h1:1<=n):Mk.Pre ⟨pu,dr,sw,L⟩ NN where
 t2:=by show 2<=pu.length;rw[ht.pl];exact hT.1
 t6:=by show pu.length<=6;rw[ht.pl];exact hT.2
 dl:=by show dr.length=pu.length;rw[ht.pl,ht.dl]
 sl:=by show sw.length=pu.length;rw[ht.pl,ht.sl]
 Wd:=λr hr=>by
  obtain⟨i,hi,rfl⟩:=jr.1 hr;show _=pu.length;rw[ht.pl];exact(ht.sd i _ (gE hi)).1
 p1:=ht.p1
 d1:=ht.d1
 s1:=ht.s1
 Wf:=λi r hr=>(ht.sd i r hr).2
 n1:=by show 1<=L.length;rw[h.len];exact h1
 nN:=by show L.length<=NN;rw[h.len];exact hn
 n4:=hN
 c1:=λrs hrs=>by have:=h.c1 rs hrs;show 1<=rs.length/\rs.length<=pu.length;rw[ht.pl];omega
 head:=h.head
 part:=λrs hrs r hr p hp=>by show EL pu.length NN p;rw[ht.pl];exact h.part rs hrs r hr p hp
 last:=h.last
 reach:=λm rs hm hl=>h.reach m rs hm (by have hl2:m+1<L.length:=hl;rw[h.len]at hl2;omega)
theorem tQ  (h:TY T NN n L) (ht:T7 T T pu dr sw) (hT:2<=T/\T<=6) (hN:NN<=4) (hn:n<NN) (hr:O1 T NN n 1 1 rs):Mk.Pre ⟨pu,dr,sw,L++ [rs]⟩ NN where
 t2:=by show 2<=pu.length;rw[ht.pl];exact hT.1
 t6:=by show pu.length<=6;rw[ht.pl];exact hT.2
 dl:=by show dr.length=pu.length;rw[ht.pl,ht.dl]
 sl:=by show sw.length=pu.length;rw[ht.pl,ht.sl]
 Wd:=λr hr=>by
  obtain⟨i,hi,rfl⟩:=jr.1 hr;show _=pu.length;rw[ht.pl];exact(ht.sd i _ (gE hi)).1
 p1:=ht.p1
 d1:=ht.d1
 s1:=ht.s1
 Wf:=λi r hr=>(ht.sd i r hr).2
 n1:=by show 1<=(L++ [rs]).length;rw[lA];simp
 nN:=by show(L++ [rs]).length<=NN;rw[lA,h.len];simp;omega
 n4:=hN
 c1:=λq hq=>by
  show 1<=q.length/\q.length<=pu.length;rw[ht.pl]
  rcases gj.1 hq with hq |hq
  ·have:=h.c1 q hq;omega
  ·rw[mS.1 hq,hr.len];omega
 head:=λq hq=>by
  rcases gj.1 hq with hq |hq
  ·exact h.head q hq
  ·rw[mS.1 hq];exact hr.head
 part:=λq hq r hr' p hp=>by
  show EL pu.length NN p;rw[ht.pl]
  rcases gj.1 hq with hq |hq
  ·exact h.part q hq r hr' p hp
  ·rw[mS.1 hq]at hr';exact hr.part r hr' p hp
 last:=λq hq a ha=>by
  exact afs
 reach:=λm q hq hl=>by
  have hl2:m+1< (L++ [rs]).length:=hl;rw[lA,ey]at hl2;have hq:(L++ [rs])[m]?=some q:=hq;rw[aL (by omega)]at hq;exact h.reach m q hq (by have:=h.len;omega)
theorem T7.add {k:Nat} (h:T7 T k pu dr sw) {x y:Nat} (hx:1<=x/\x<=9) (hy:1<=y/\y<=9) {r:List Nat} (hl:r.length=T) (h9:∀z∈r,z<=9) (h0:r.getD k 0=0):T7 T (k+1) (pu++ [x]) (dr++ [y]) (sw++ [r]) where
 pl:=by rw[lA,h.pl];rfl
 dl:=by rw[lA,h.dl];rfl
 sl:=by rw[lA,h.sl];rfl
 p1:=λz hz=>by
  rcases gj.1 hz with hz |hz
  ·exact h.p1 z hz
  ·rw[mS.1 hz];exact hx
 d1:=λz hz=>by
  rcases gj.1 hz with hz |hz
  ·exact h.d1 z hz
  ·rw[mS.1 hz];exact hy
 s1:=λq hq=>by
  rcases gj.1 hq with hq |hq
  ·exact h.s1 q hq
  ·rw[mS.1 hq];exact h9
 sd:=λi q hq=>by
  by_cases hi:i<sw.length
  ·rw[aL hi]at hq
   exact h.sd i q hq
  ·rw[zQ (by omega)]at hq
   obtain⟨hl2,e⟩:=yS.1 hq;simp only[ey]at hl2;have:i=k:=by have:=h.sl;omega
   subst this;simp only[oq]at e;subst e;exact⟨hl,h0⟩
theorem T9 (T k:Nat):(List.replicate T 0).getD k 0=0:=by
 rw[zh,ny];split <;> rfl
theorem oC (n:Nat):madeCells (ab 0).cells (n*1)=(IL (List.replicate n 0)).toArray:=by
 have h:=ZY n;rw[show madeCells (ab 0).cells (n*1)=madeCells #[ab 0] (n*1) from rfl,h];apply Array.ext';apply nu;intro i;simp only[IL,gM,ny]
 by_cases hi:i<n
 ·simp[hi]
 ·simp[hi]
theorem aft {P:Prop} (h:P:=by
  obtain⟨q,hq,hqT⟩:∃q:Nat,(c:Int) % (T:Int)=(q:Int)/\q<T:=⟨c % T,rfl,Nat.mod_lt _ (by omega)⟩
  go_upto_region 34 with fail
  rw[hq];clear hq
  go_wp2_with (first
   | (go_at_call 31;refine(I1 q (by omega) _).mono ?_;rintro e w' ⟨rfl,rfl⟩)
   | (at_builtin;refine jq _ rfl _ _ 39 rfl wk.heap.size 9 iS (.string ByteArray.empty) 1 16 Tryz.underlying39 Ij Ik Il Im rfl (by decide) _ _ _ rfl (hrow.alloc _) (af wp.heap.size 0) 1 1 [.string (AA q)] rfl rfl (dh (dw wp _)) ?c2 (yF 1) ?c3 ?c4 ?c5 _ rfl ?_))
  case c2=>intro u hu;simp at hu;subst hu;rfl
  case c3=>unfold maxLen;omega
  case c4=>omega
  case c5=>simp;omega
  intro g3 Am w3 zO zM Fu Eh;have hkeep:A1 wp w3 v13.ownBlock.toList:=((A1.refl _ _).alloc _).grown zM (λq hq=>.inl Fp);have Aq:∀g∈v13.ownBlock.toList,wk.heap.size<=g:=λg hm=>(hrow.lt g (BE hm)).1
  have adk:Hid (w3.ownsRow wk.heap.size 9 1 (ae g3 (p+1+1) Am) (r++ [Pt.tok q]).length (Dm (r++ [Pt.tok q]))):=hid aeW;have aaS:=hid (Ex.out.keeps hkeep (AJ hrow (by decide)) (AJ hrow (by decide)) (AJ hrow (by decide)));have aaT:=hid (Dj.out.keeps hkeep (AJ hrow (by decide)) (λm hm hx=>by have:=Aq _ hx;have:=Bq.out.2.1 m hm;have:=hsz.out;omega) (λm rs' k' h1 h2 hx=>by have:=Aq _ hx;have:=Bq.out.2.2 m rs' k' h1 h2;have:=hsz.out;omega));have aan:=hid (hRS.out.keeps hkeep (AJ hrow (by decide)) (λi hi hx=>by have:=Aq _ hx;have:=HGB.out i hi;omega));have zy:Hid (Below w.heap.size w w3):=hid (zY.out.trans (hkeep.below (by have:=hsp.out;omega) (λq hq=>by have:=Aq q hq;omega)));have Gg:Hid (jG T NN cnt k (p+1) (r++ [Pt.tok q])):=hid ⟨by rw[lA,Bp.out.len];rfl,by have h1:=Bp.out.head;cases r with |nil=>cases h1 |cons a l=>exact h1,λa ha=>by
   rcases gj.1 ha with ha |ha
   ·exact Bp.out.part a ha
   ·rw[mS.1 ha];exact(show q<T from hqT),λhl a ha=>by
   rcases gj.1 ha with ha |ha
   ·exact Bp.out.last hl a ha
   ·rw[mS.1 ha];exact⟨q,rfl⟩⟩
  have HS3:Hid (wk.heap.size<=w3.heap.size):=hid (y5 hsp.out hkeep.size);clear zO zM Fu Eh hkeep hrow Aq;go_wp2
  go_roundw
  case rel=>exact⟨p+1,xp+1,r++ [Pt.tok q],_,by omega,by go_num,by go_num,by omega,by rfl,Gg,adk,aaS,aaT,aan,zy,HS3⟩
  case measure=>simp[intOf];omega):P:=h
theorem adm {P:Prop} (h:P:=by
  have Md:Hid (wn.heap.size<=w4.heap.size):=hid (y5 aaU hkeep.size);clear Qy Me Ww Wx hkeep Aw Aq;go_wp2
  go_roundw
  case rel=>exact⟨k+1,xp,rs++ [r],_,_,_,by omega,by go_num,rfl,by omega,by rfl,aaV,aaW,aaX,aaY,aaZ,zV,Md⟩
  case measure=>simp[intOf];omega):P:=h
theorem ab6 {P:Prop} (h:P:=by
  rw[aq e1,au e2]at he;have:=HGB.out j Ow;omega):P:=h
theorem ab7 {P:Prop} (h:P:=by
  rw[au e1,aq e2]at he;have:=HGB.out i Ow;omega):P:=h
theorem mP (v:Value) (w:World) (hv:KB w v):
  Calls Tryz.prog 27 #[v] w λe w'=>∃b m,e=.returned (ac b)/\Mk.Good m/\Gk w' w'.heap.size b m/\Below w.heap.size w w':=by
 obtain⟨iI,Io,Ip,Iq,Ir⟩:=jc Tryz.infoC3;obtain⟨iJ,hiJ,aia,aib,aic⟩:=jc Tryz.infoC45;obtain⟨iS,Ij,Ik,Il,Im⟩:=jc Tryz.infoC9;obtain⟨iR,Pv,Pw,Px,Py⟩:=jc Tryz.infoC39;obtain⟨iN,Hx,Nr,Ns,Nt⟩:=jc Tryz.infoC46;have HV:Hid (KB w v):=hid hv;clear hv
 go_enter Tryz.func27,Tryz.ntmps27
 go_wp2_with (first
  | (go_at_call_of 66 (Value.int .i64 0);refine(JP v 0 (by omega) _ (HV.out.below (zl (ah _ _)))).mono ?_;rintro e w' ⟨⟨z0,rfl,hz0⟩,rfl⟩)
  | (go_at_call_of 44 (Value.int .i64 5);refine(G9 z0 5 (by omega) hz0 _).mono ?_;rintro e w' ⟨⟨tk,htk,rfl⟩,rfl⟩)
  | (go_at_call_of 66 (Value.int .i64 1);refine(JP v 1 (by omega) _ (HV.out.below (zl (ah _ _)))).mono ?_;rintro e w' ⟨⟨z1,rfl,hz1⟩,rfl⟩)
  | (go_at_call_of 44 (Value.int .i64 4);refine(G9 z1 4 (by omega) hz1 _).mono ?_;rintro e w' ⟨⟨nm,hnm,rfl⟩,rfl⟩))
 obtain⟨T,hT⟩:∃T:Nat,(2+(tk:Int))=(T:Int):=⟨2+tk,by omega⟩;obtain⟨NN,hNN⟩:∃n:Nat,(1+(nm:Int))=(n:Int):=⟨1+nm,by omega⟩;have hT2:2<=T/\T<=6:=by omega
 have hN2:1<=NN/\NN<=4:=by omega
 rw[hT,hNN];have zv:Hid (Below w.heap.size w (w.alloc (.cells #[.slice none 0 0,.slice none 0 0,.slice none 0 0,.slice none 0 0] 77))):=hid (zl (ah _ _));have HT0:Hid (EU (w.alloc (.cells #[.slice none 0 0,.slice none 0 0,.slice none 0 0,.slice none 0 0] 77)) w.heap.size w.heap.size T [] [] [] (.slice none 0 0) (.slice none 0 0) (.slice none 0 0) (.slice none 0 0) (λ_=>0)):=
  hid ⟨ay w _,yF _,je _ _ _ _,je _ _ _ _,je _ _ _ _,λi r h=>by simp at h,λg h=>by simp[Value.ownBlock]at h,λi h=>by simp at h,λi j h=>by simp at h⟩
 clear hT hNN htk hnm hz0 hz1
 go_loopw [6,7] (λx i wr=>∃(k xk:Nat) (pu dr:List Nat) (sw:List (List Nat)) (vP vD vS:Value) (sg:Nat->Nat),k<=T/\i=ab k/\x=ab xk/\xk<=2+4*k/\Hid (T7 T k pu dr sw)/\Hid (EU wr w.heap.size w.heap.size T pu dr sw (.slice none 0 0) vP vD vS sg)/\Hid (Below w.heap.size w wr)) (λ_ i _=>T - (intOf i).toNat)
 case atStart=>exact⟨0,2,[],[],[],_,_,_,_,bu _,rfl,rfl,by omega,hid ⟨rfl,rfl,rfl,λx h=>(by cases h),λx h=>(by cases h),λx h=>(by cases h),λi r h=>aad⟩,HT0,zv⟩
 case round=>
  clear HT0 zv;obtain⟨k,xk,pu,dr,sw,vP,vD,vS,sg,hk,rfl,rfl,hxk,hP,hV,hbr⟩:=hrel
  by_cases hlt:k<T
  ·have hsz:=hbr.out.size
   have c1:=hV.out.cells.2.1;have y6:w.heap.size<wr.heap.size:=ak hV.out.blk;have hrow:=hV.out.yP;have hpl:=hP.out.pl;rw[hpl]at hrow;have fB:some w.heap.size≠vP.ownBlock:=λe=>A5 hrow hV.out.blk (by decide) e.symm
   go_wp2;refine AE (λw'=>w'.cell? (af w.heap.size 1)=some vP) yg yg c1 (λhH=>?_);simp only[AB,BM,AO];refine tB 0 hH ?_;refine tB 1 hH ?_;refine tB 2 hH ?_;refine tB 3 hH ?_;refine tB 4 hH ?_;refine tB 5 hH ?_;refine tB 6 hH ?_;refine tL ?_;refine tS 7 λK hK=>?_
   refine tM ?_
   go_simp;refine(JP v xk (by omega) _ (HV.out.below (Af hbr.out))).mono ?_;rintro e w' ⟨⟨z,rfl,hz⟩,rfl⟩;try dsimp only
   refine hK.out _ _ ?_ λhH=>?_
   ·exact hH
   clear hK K;refine tL ?_;refine tS 8 λK hK=>?_
   refine tM ?_
   go_simp;refine(G9 z 9 (by omega) hz _).mono ?_;rintro e w' ⟨⟨r,hr,rfl⟩,rfl⟩;obtain⟨x,hx⟩:∃x:Nat,x=1+r:=⟨_,rfl⟩;have hwr:IntKind.i64.wrap (1+(r:Int))=(x:Int):=(by rw[Cy];omega);have Tv:1<=x/\x<=9:=(by omega);clear hx hr;try dsimp only
   refine hK.out _ _ ?_ λhH=>?_
   ·exact hH
   clear hK K;refine tB 9 hH ?_;refine tL ?_;refine tS 10 λK hK=>?_
   refine tM ?_;go_simp;refine hK.out _ _ ?_ λhH=>?_
   ·exact A2 _ hH
   clear hK K;refine tL ?_;refine tS 11 λK hK=>?_
   refine tM ?_;rw[aq (by rfl)];refine mz _ (.tmp 36) (.tmp 42) 45 rfl w.heap.size 3 iI (ab 0) 1 8 Tryz.underlying45 Io Ip Iq Ir rfl (by decide) vP _ _ rfl (hrow.alloc _) (af wr.heap.size 0) 1 1 [ab (x:Int)] rfl rfl (dh (fr:=(0,0)) (dw wr _)) Fb (by omega) zX (by omega) yM _ rfl ?_;intro g' cap' w4 hown hgrow hat hlt';refine hK.out _ _ ?_ λhH=>?_
   ·exact(hgrow.cell_far _ yM (by exact fB)).trans hH
   clear hK K;refine tB 12 hH ?_;refine tB 13 hH ?_;refine tB 14 hH ?_;refine tL ?_;refine bk yg ?_ _;have hkeep:A1 wr w4 vP.ownBlock.toList:=(((A1.refl wr _).alloc (Obj.cells #[ab (x:Int)] 3)).drew).grown hgrow (λq hq=>.inl Fp);have hb4:=(hkeep.block w.heap.size y6 (λhm=>fB (BE hm).symm)).trans hV.out.blk;have Wy:w4.cell? (af w.heap.size 1)=some vP:=A0 hb4;have f14:w4.frozen? (af w.heap.size 1)=false:=A3 hb4;have hg':vP.ownBlock=some g'\/wr.heap.size<=g':=hat.imp id (λe=>by rw[e];show wr.heap.size<=(wr.alloc _).heap.size;rw[bg];omega);have hend:=hV.out.ahQ (x:=x) hkeep hg' (by rw[hpl];exact hown);rw[hpl]at hend;have Fx:=hid hend;have yR:Hid (Below w.heap.size w (w4.setCell (af w.heap.size 1) (ae g' (k+1) cap'))):=hid ((hbr.out.trans (hkeep.below hsz (KS hrow))).setCell Lc _);have hX9:Hid (1<=x/\x<=9):=hid Tv;clear hend hkeep hown hgrow hat hlt' hH hb4 fB hrow hg' hwr Tv hz c1 hV hbr
   show wpList _ _ _ _ _ _;go_wp2;obtain⟨W1,hW1⟩:=qE (w4.setCell (af w.heap.size 1) (ae g' (k+1) cap'));rw[hW1]at Fx yR ⊢;obtain⟨vP1,afu⟩:=qE (Value.slice (some ⟨g',0,none⟩) (k+1) cap');simp only[ae]at Fx;rw[afu]at Fx ⊢;clear hW1 afu Wy f14 hsz y6;have hsz:=yR.out.size;have c1:=Fx.out.cells.2.2.1;have y6:w.heap.size<W1.heap.size:=ak Fx.out.blk;have hrow:=Fx.out.zk;have Jb:=hP.out.dl;rw[Jb]at hrow;have fB:some w.heap.size≠vD.ownBlock:=λe=>A5 hrow Fx.out.blk (by decide) e.symm
   obtain⟨y,hy⟩:∃y:Nat,y=xk+1:=⟨_,rfl⟩;have hwx:IntKind.i64.wrap ((xk:Int)+1)=(y:Int):=by rw[Cy];omega
   have hyb:y<=3+4*k:=by omega
   clear hy;refine AE (λw'=>w'.cell? (af w.heap.size 2)=some vD) yg yg c1 (λhH=>?_);simp only[AB,BM,AO];refine tB 0 hH ?_;refine tB 1 hH ?_;refine tB 2 hH ?_;refine tB 3 hH ?_;refine tB 4 hH ?_;refine tB 5 hH ?_;refine tB 6 hH ?_;refine tB 7 hH ?_;refine tL ?_;refine tS 8 λK hK=>?_
   refine tM ?_
   go_simp;refine(JP v y (by omega) _ (HV.out.below (Af yR.out))).mono ?_;rintro e w' ⟨⟨z,rfl,hz⟩,rfl⟩;try dsimp only
   refine hK.out _ _ ?_ λhH=>?_
   ·exact hH
   clear hK K;refine tL ?_;refine tS 9 λK hK=>?_
   refine tM ?_
   go_simp;refine(G9 z 9 (by omega) hz _).mono ?_;rintro e w' ⟨⟨r,hr,rfl⟩,rfl⟩;obtain⟨x2,hx⟩:∃x2:Nat,x2=1+r:=⟨_,rfl⟩;have hwr:IntKind.i64.wrap (1+(r:Int))=(x2:Int):=(by rw[Cy];omega);have Tv:1<=x2/\x2<=9:=(by omega);clear hx hr;try dsimp only
   refine hK.out _ _ ?_ λhH=>?_
   ·exact hH
   clear hK K;refine tB 10 hH ?_;refine tL ?_;refine tS 11 λK hK=>?_
   refine tM ?_;go_simp;refine hK.out _ _ ?_ λhH=>?_
   ·exact A2 _ hH
   clear hK K;refine tL ?_;refine tS 12 λK hK=>?_
   refine tM ?_;rw[aq (by rfl)];refine mz _ (.tmp 50) (.tmp 57) 45 rfl w.heap.size 3 iI (ab 0) 1 8 Tryz.underlying45 Io Ip Iq Ir rfl (by decide) vD _ _ rfl (hrow.alloc _) (af W1.heap.size 0) 1 1 [ab (x2:Int)] rfl rfl (dh (fr:=(0,0)) (dw W1 _)) Fb (by omega) zX (by omega) yM _ rfl ?_;intro g' cap' w4 hown hgrow hat hlt';refine hK.out _ _ ?_ λhH=>?_
   ·exact(hgrow.cell_far _ yM (by exact fB)).trans hH
   clear hK K;refine tB 13 hH ?_;refine tB 14 hH ?_;refine tB 15 hH ?_;refine tL ?_;refine bk yg ?_ _;have hkeep:A1 W1 w4 vD.ownBlock.toList:=(((A1.refl W1 _).alloc (Obj.cells #[ab (x2:Int)] 3)).drew).grown hgrow (λq hq=>.inl Fp);have hb4:=(hkeep.block w.heap.size y6 (λhm=>fB (BE hm).symm)).trans Fx.out.blk;have Wy:w4.cell? (af w.heap.size 2)=some vD:=A0 hb4;have f14:w4.frozen? (af w.heap.size 2)=false:=A3 hb4;have hg':vD.ownBlock=some g'\/W1.heap.size<=g':=hat.imp id (λe=>by rw[e];show W1.heap.size<=(W1.alloc _).heap.size;rw[bg];omega);have hend:=Fx.out.ahR (x:=x2) hkeep hg' (by rw[Jb];exact hown);rw[Jb]at hend;have Er:=hid hend;have yV:Hid (Below w.heap.size w (w4.setCell (af w.heap.size 2) (ae g' (k+1) cap'))):=hid ((yR.out.trans (hkeep.below hsz (KS hrow))).setCell Lc _);have adq:Hid (1<=x2/\x2<=9):=hid Tv
   clear hend hkeep hown hgrow hat hH hb4 fB hrow hg' hwr Tv hz c1 Fx yR hwx hyb;show wpList _ _ _ _ _ _;go_wp2;obtain⟨W2,hW2⟩:=qE (w4.setCell (af w.heap.size 2) (ae g' (k+1) cap'));rw[hW2]at Er yV ⊢;obtain⟨vD1,afv⟩:=qE (Value.slice (some ⟨g',0,none⟩) (k+1) cap');simp only[ae]at Er;rw[afv]at Er ⊢;clear hW2 afv Wy f14 hsz y6;have hsz:=yV.out.size;have c1:=Er.out.cells.2.2.2;have y6:w.heap.size<W2.heap.size:=ak Er.out.blk;have hrow:=Er.out.swaps;have Ef:=hP.out.sl;rw[Ef]at hrow;have fB:some w.heap.size≠vS.ownBlock:=λe=>A5 hrow Er.out.blk (by decide) e.symm
   refine AE (λw'=>w'.cell? (af w.heap.size 3)=some vS) yg yg c1 (λhH=>?_);simp only[AB,BM,AO];refine tB 0 hH ?_;refine tB 1 hH ?_;refine tB 2 hH ?_;refine tB 3 hH ?_;refine tB 4 hH ?_;refine tB 5 hH ?_;refine tL ?_;refine tS 6 λK hK=>?_
   refine tM ?_;rw[aq (by rfl)];refine G7 _ (.tmp 66) (.tmp 66) 45 rfl 3 iI (ab 0) Tryz.underlying45 Io Ip T rfl rfl (by rw[Ir];omega) (by omega) ?_;rw[Iq];obtain⟨X,hX⟩:=qE (W2.drew.alloc (Obj.cells (madeCells (ab 0).cells (T*1)) 3));rw[hX];have hXs:X.heap.size=W2.heap.size+1:=(by rw[<-hX,bg];rfl);have afw:=(by rw[<-hX];exact(A7 hrow ((A1.refl W2 []).drew.alloc _) (by simp)):X.ownsRow w.heap.size 45 1 vS k ((List.range k).map λi=>Value.slice (some ⟨sg i,0,none⟩) T T));have HXs:Hid (X.heap.size=W2.heap.size+1):=hid hXs;have hXl:W2.heap.size<X.heap.size:=(by omega);have hXw:w.heap.size<X.heap.size:=(by omega);clear hXs;refine hK.out _ _ ?_ λhH=>?_
   ·exact(by rw[<-hX];exact A2 _ hH)
   clear hK K;refine tL ?_;refine tS 7 λK hK=>?_
   refine tM ?_;go_simp;refine hK.out _ _ ?_ λhH=>?_
   ·exact A2 _ hH
   clear hK K;refine tL ?_;refine tS 8 λK hK=>?_
   refine tM ?_;rw[aq (by rfl)];refine mz _ (.tmp 65) (.tmp 68) 60 rfl w.heap.size 45 iJ (.slice none 0 0) 1 24 Tryz.underlying60 hiJ aia aib aic rfl (by decide) vS _ _ rfl (afw.alloc _) (af X.heap.size 0) 1 1 [ae W2.heap.size T T] rfl rfl (dh (fr:=(0,0)) (dw X _)) Fb (by omega) zX (by omega) yM _ rfl ?_;intro g' cap' w4 hown hgrow hat hlt';refine hK.out _ _ ?_ λhH=>?_
   ·exact(hgrow.cell_far _ yM (by exact fB)).trans hH
   clear hK K;refine tB 9 hH ?_;refine tB 10 hH ?_;refine tB 11 hH ?_;refine tL ?_;refine bk yg ?_ _;have ads:A1 W2 X []:=by rw[<-hX];exact(A1.refl W2 []).drew.alloc _
   have adw:A1 X w4 vS.ownBlock.toList:=((A1.refl X _).alloc _).grown hgrow (λq hq=>.inl Fp);have hz:X.heap[W2.heap.size]?=some (.cells (IL (List.replicate T 0)).toArray 3 (0,0)):=by
    rw[<-hX,<-oC];exact ay W2.drew _
   have hend:=Er.out.ahS (cap:=cap') hsz (by rw[Ef,lA,hP.out.pl];simp) hz ads adw (by rw[Ef];exact hown);rw[Ef]at hend;have hkeep:=(ads.mono (T:=vS.ownBlock.toList) (λq hq=>by cases hq)).trans adw;have hb4:=(hkeep.block w.heap.size y6 (λhm=>fB (BE hm).symm)).trans Er.out.blk;have Wy:w4.cell? (af w.heap.size 3)=some vS:=A0 hb4;have f14:w4.frozen? (af w.heap.size 3)=false:=A3 hb4;have Ej:=hid hend;have zy:Hid (Below w.heap.size w (w4.setCell (af w.heap.size 3) (ae g' (k+1) cap'))):=hid ((yV.out.trans (hkeep.below hsz (KS hrow))).setCell Lc _);have zj:k<=5:=by omega
   have afx:((2*T:Nat):Int)=2*(T:Int):=by omega
   have PK:=λz hz w=>G9 z (2*T) (by omega) hz w
   rw[afx]at PK;have afy:((xk+2:Nat):Int)=(xk:Int)+2:=by omega
   have AT:=λw hv=>JP v (xk+2) (by omega) w hv
   rw[afy]at AT;clear hend hkeep ads adw hown hgrow hat hH hb4 fB hrow hz c1 Er yV hX afw HXs hXl hXw afx afy;show wpList _ _ _ _ _ _
   go_upto_region 12 with(first
    | (go_at_call 66;refine(AT _ (HV.out.below zy.out)).mono ?_;rintro e w' ⟨⟨z,rfl,hz⟩,rfl⟩)
    | (go_at_call 44;refine(PK z hz _).mono ?_;rintro e w' ⟨⟨j,hj,rfl⟩,rfl⟩))
   obtain⟨W3,hW3⟩:=qE (w4.setCell (af w.heap.size 3) (ae g' (k+1) cap'));rw[hW3]at Ej zy ⊢;obtain⟨sg3,afz⟩:∃f:Nat->Nat,(λi=>if i=k then W2.heap.size else sg i)=f:=⟨_,rfl⟩;rw[afz]at Ej;have Vt:Hid (sw.length=k):=hid Ef;clear hW3 afz Wy f14 hsz y6 AT PK Ef hz hpl Jb;have Ce:(sw++ [List.replicate T 0])[k]?=some (List.replicate T 0):=by rw[zQ (by rw[Vt.out];exact yF _),Vt.out,kq];rfl
   have c3:=Ej.out.cells.2.2.2;have Dz:(sw++ [List.replicate T 0]).length=k+1:=by rw[lA,Vt.out];rfl
   have cg:W3.cell? (af g' k)=some (.slice (some ⟨sg3 k,0,none⟩) T T):=by
    have h1:=Ej.out.swaps;rw[Dz]at h1;rw[h1.cellAt k (by omega),gM,ng (by omega)];rfl
   obtain⟨hs1,hs2,_⟩:=Ej.out.rows k _ Ce;have hj9:Hid (j<2*T):=hid hj;have HRK:=hid Ce;have Bf:g'<W3.heap.size:=bq _ _ cg;have akY:sg3 k<W3.heap.size:=ak hs1;have hbl:w.heap.size<W3.heap.size:=ak Ej.out.blk;clear Dz Ce hj
   by_cases hj1:j<T
   ·have aid:(j:Int)< (T:Int):=by omega
    by_cases hj2:j=k
    ·subst hj2
     clear c3 cg hs1;go_wp2
     go_roundw
     case rel=>exact⟨j+1,xk+4,_,_,_,_,_,_,_,by omega,by go_num,by go_num,by omega,hid (hP.out.add hX9.out adq.out (by simp) (λy hy=>by rw[xN hy];omega) (T9 T _)),Ej,zy⟩
     case measure=>simp[intOf];omega
    ·have akZ:((j:Int)==(k:Int))=false:=by simp;omega
     have cs:W3.cell? ⟨sg3 k,j,none⟩=some (ab 0):=by
      rw[A0 hs1];simp[IL,hj1]
     have fs:W3.frozen? ⟨sg3 k,j,none⟩=false:=A3 hs1;have afA:((xk+3:Nat):Int)=(xk:Int)+3:=by omega
     have AT:=λw hv=>JP v (xk+3) (by omega) w hv
     rw[afA]at AT;have hTj:(T:Int)<=6:=by omega
     have hkk:(k:Int)< (k:Int)+1:=by omega
     have HW3:Hid (IntKind.i64.wrap ((xk:Int)+3)=(xk:Int)+3):=hid (by rw[Cy];omega);clear hs1 afA
     go_upto_region 13 with fail
     refine AE (λw'=>w'.cell? (af w.heap.size 3)=some (ae g' (k+1) cap')/\w'.cell? (af g' k)=some (.slice (some ⟨sg3 k,0,none⟩) T T)) yg yg ⟨c3,cg⟩ (λhH=>?_);simp only[AB,BM,AO];refine tB 0 hH ?_;refine tB 1 hH ?_;refine tB 2 hH ?_;refine tB 3 hH ?_;refine tB 4 hH ?_;refine tB 5 hH ?_;refine tB 6 hH ?_;refine tB 7 hH ?_;refine tB 8 hH ?_;refine tB 9 hH ?_;refine tB 10 hH ?_;refine tL ?_;refine tS 11 λK hK=>?_
     refine tM ?_
     go_simp;rw[HW3.out];refine(AT _ (HV.out.below (Af zy.out))).mono ?_;rintro e w' ⟨⟨z,rfl,hz⟩,rfl⟩;try dsimp only
     refine hK.out _ _ ?_ λhH=>?_
     ·exact hH
     clear hK K;refine tL ?_;refine tS 12 λK hK=>?_
     refine tM ?_
     go_simp;refine(G9 z 9 (by omega) hz _).mono ?_;rintro e w' ⟨⟨r,hr,rfl⟩,rfl⟩;obtain⟨x3,hx⟩:∃x3:Nat,x3=1+r:=⟨_,rfl⟩;have hwr:IntKind.i64.wrap (1+(r:Int))=(x3:Int):=(by rw[Cy];omega);have Tv:x3<=9:=(by omega);clear hx hr;try dsimp only
     refine hK.out _ _ ?_ λhH=>?_
     ·exact hH
     clear hK K;refine tB 13 hH ?_;refine tB 14 hH ?_;refine tB 15 hH ?_;refine tL ?_;refine bk yg ?_ _;clear hH;have h1:=Ej.out.ahT (j:=j) (x:=x3) HRK.out;have afB:(sw++ [List.replicate T 0]).set k ((List.replicate T 0).set j x3)=sw++ [(List.replicate T 0).set j x3]:=by
      rw[uy _ _ (by rw[Vt.out];exact yF _),Vt.out,kq];rfl
     rw[afB]at h1;clear afB;have Sa:=hid (h1.below (ah _ _).drew);clear h1;have zV:Hid (Below w.heap.size w (W3.setCell ⟨sg3 k,j,none⟩ (ab (x3:Int)))):=hid (zy.out.setCell Th _);have hX3:Hid (x3<=9):=hid Tv;clear hwr Tv hz c3 cg Ej;show wpList _ _ _ _ _ _;go_wp2
     go_roundw
     case rel=>
      refine⟨k+1,xk+4,_,_,_,_,_,_,_,by omega,by go_num,by go_num,by omega,hid (hP.out.add hX9.out adq.out (r:=(List.replicate T 0).set j x3) (by simp) (λy hy=>?_) ?_),Sa,hid zV.out.drew⟩
      ·rcases List.mem_or_eq_of_mem_set hy with h |h
       ·rw[xN h];omega
       ·rw[h];exact hX3.out
      ·rw[zh,List.getElem?_set_ne hj2,<-zh]
       exact T9 T k
     case measure=>simp[intOf];omega
   ·have aid:¬((j:Int)< (T:Int)):=by omega
    clear c3 cg hs1;go_wp2
    go_roundw
    case rel=>exact⟨k+1,xk+4,_,_,_,_,_,_,_,by omega,by go_num,by go_num,by omega,hid (hP.out.add hX9.out adq.out (by simp) (λy hy=>by rw[xN hy];omega) (T9 T _)),Ej,zy⟩
    case measure=>simp[intOf];omega
  ·have Tw:Hid (T7 T T pu dr sw):=hid (by have h1:=hP.out;rwa [show k=T by omega]at h1)
   have aie:xk<=26:=by omega
   have Wz:Hid (Fw wr w.heap.size (.slice none 0 0) [] (λ_=>0) (λ_=>0) (λ_ _=>0) (λ_ _=>0)):=hid ⟨je _ _ _ _,λn rs h=>by simp at h,λn k n' k' rs rs' h=>by simp at h⟩;clear hP;go_wp2
   go_loopw [6,9] (λx nv wn=>∃(n xn:Nat) (L:List (List (List Pt))) (vR:Value) (gn cn:Nat->Nat) (gr cr:Nat->Nat->Nat),n<=NN/\nv=ab n/\x=ab xn/\xn<=26+25*n/\Hid (TY T NN n L)/\Hid (EU wn w.heap.size w.heap.size T pu dr sw vR vP vD vS sg)/\Hid (Fw wn w.heap.size vR L gn cn gr cr)/\Hid (Below w.heap.size w wn)) (λ_ nv _=>NN - (intOf nv).toNat)
   case atStart=>exact⟨0,xk,[],_,_,_,_,_,bu _,rfl,rfl,by omega,hid ⟨rfl,λrs h=>(by cases h),λrs h=>(by cases h),λrs h=>(by cases h),λrs h=>(by cases h),λm rs h=>aad⟩,hV,Wz,hbr⟩
   case round=>
    clear Wz hV hbr aie hxk hk hlt;obtain⟨n,xn,L,vR,gn,cn,gr,cr,hn,rfl,rfl,hxn,Sb,Ex,Dj,zY⟩:=hrel;obtain⟨wn,hwn⟩:=qF (wr);subst hwn
    by_cases Dn:n<NN
    ·have AT:=λw hv=>JP v xn (by omega) w hv
     have hTi:0<T:=by omega
     go_upto_region 19 with(first
      | (go_at_call 66;refine(AT _ (HV.out.below zY.out)).mono ?_;rintro e w' ⟨⟨z,rfl,hz⟩,rfl⟩)
      | (go_at_call 44;refine(G9 z T hTi hz _).mono ?_;rintro e w' ⟨⟨r,hr,rfl⟩,rfl⟩))
     obtain⟨cnt,afC⟩:∃cnt:Nat,(1+(r:Int))=(cnt:Int):=⟨1+r,by omega⟩;have hcT:1<=cnt/\cnt<=T:=by omega
     have hT6:T<=6:=hT2.2;rw[afC];have Bq:Hid (w.heap.size<=wn.heap.size/\(∀m,m<L.length->gn m<wn.heap.size)/\∀(m:Nat) rs (k:Nat),L[m]?=some rs->k<rs.length->gr m k<wn.heap.size):=hid ⟨zY.out.size,λm hm=>by
      obtain⟨rs,hrs⟩:∃rs,L[m]?=some rs:=⟨_,gE hm⟩;exact CJ (Dj.out.each m rs hrs).row rfl,λm rs k h1 h2=>((Dj.out.each m rs h1).lt h2).2⟩
     have Lh:Hid (Bg wn wn.heap.size (.slice none 0 0) [] (λ_=>0) (λ_=>0)):=hid ⟨je _ _ _ _,λk r h=>by simp at h⟩;clear afC hr hz AT hTi;go_wp2
     go_loopw [6,11,12] (λx vq kv wk=>∃(k xk:Nat) (rs:List (List Pt)) (v11:Value) (gk ck:Nat->Nat),k<=cnt/\kv=ab k/\x=ab xk/\xk<=xn+1+4*k/\v11=vq/\Hid (O1 T NN n cnt k rs)/\Hid (Bg wk wn.heap.size v11 rs gk ck)/\Hid (∀i j,i<rs.length->j<rs.length->gk i=gk j->i=j)/\Hid (EU wk w.heap.size w.heap.size T pu dr sw vR vP vD vS sg)/\Hid (Fw wk w.heap.size vR L gn cn gr cr)/\Hid (Below w.heap.size w wk)/\Hid (wn.heap.size<=wk.heap.size)) (λ_ _ kv _=>cnt - (intOf kv).toNat)
     case atStart=>exact⟨0,xn+1,[],_,_,_,bu _,rfl,by go_num,by omega,rfl,hid ⟨rfl,λi r h=>aad,λr h=>(by cases h),λi r h=>aad,λr h=>aad⟩,Lh,hid (λi j h=>aad),Ex,Dj,zY,hid (yF _)⟩
     case round=>
      clear Lh Ex Dj zY;obtain⟨k,xk,rs,v11,gk,ck,hk,rfl,rfl,hxk,rfl,Dl,hRS,hIJ,Ex,Dj,zY,hsz⟩:=hrel;obtain⟨wk,hwk⟩:=qF (wr);subst hwk
      by_cases hlk:k<cnt
      ·have Bc:k<6:=by omega
       have AT:=λw hv=>JP v xk (by omega) w hv
       go_upto_region 26 with(first
        | (go_at_call 31;refine(I1 k Bc _).mono ?_;rintro e w' ⟨rfl,rfl⟩)
        | (go_at_call 66;refine(AT _ (HV.out.below (zl zY.out))).mono ?_;rintro e w' ⟨⟨z,rfl,hz⟩,rfl⟩)
        | (go_at_call 44;refine(G9 z 4 (by omega) hz _).mono ?_;rintro e w' ⟨⟨sz,ak0,rfl⟩,rfl⟩))
       obtain⟨W0,hW0⟩:=qE (wk.alloc (.cells #[.string (AA k)] 9));rw[hW0];have hbk:Below wk.heap.size wk W0:=by rw[<-hW0];exact zl (ah _ _)
       have afD:Hid (W0.ownsRow wk.heap.size 9 1 (ae wk.heap.size 1 1) ([Pt.tok k]).length (Dm [.tok k])):=hid (by rw[<-hW0];exact PL wk #[.string (AA k)] 1 1 9 wk.heap.size (yF _) zX rfl);have afE:=hid (Ex.out.below hbk);have afF:=hid (Dj.out.keeps (A1.yX hbk []) (GX _ _) (λ_ _=>by simp) (λ_ _ _ _ _=>by simp));have afG:=hid (hRS.out.keeps (A1.yX hbk []) (GX _ _) (λ_ _=>by simp));have aif:w.heap.size<=wk.heap.size:=y5 Bq.out.1 hsz.out;have zv:Hid (Below w.heap.size w W0):=hid (zY.out.trans (hbk.mono aif));have Lt:Hid (wk.heap.size<=W0.heap.size):=hid hbk.size;have HGB:Hid (∀i,i<rs.length->gk i<wk.heap.size):=hid (λi hi=>(hRS.out.lt hi).2);have ak1:xk<=4*k+xn+1:=by omega
       clear hW0 hbk hz AT Ex Dj hRS zY;go_wp2
       go_loopw [6,13,15] (λx vr pv wp=>∃(p xp:Nat) (r:List Pt) (v13:Value),p<=sz/\pv=ab p/\x=ab xp/\xp<=xk+1+p/\v13=vr/\Hid (jG T NN cnt k p r)/\Hid (wp.ownsRow wk.heap.size 9 1 v13 r.length (Dm r))/\Hid (EU wp w.heap.size w.heap.size T pu dr sw vR vP vD vS sg)/\Hid (Fw wp w.heap.size vR L gn cn gr cr)/\Hid (Bg wp wn.heap.size v11 rs gk ck)/\Hid (Below w.heap.size w wp)/\Hid (wk.heap.size<=wp.heap.size)) (λ_ _ pv _=>sz - (intOf pv).toNat)
       case atStart=>exact⟨0,xk+1,[.tok k],_,bu _,rfl,by go_num,by omega,rfl,hid ⟨rfl,rfl,λq hq=>(by rw[mS.1 hq];show k<T;omega),λ_ q hq=>⟨k,mS.1 hq⟩⟩,afD,afE,afF,afG,zv,Lt⟩
       case round=>
        clear afD afE afF afG zv Lt;obtain⟨p,xp,r,v13,hp,rfl,rfl,hxp,rfl,Bp,afH,Ex,Dj,hRS,zY,hsp⟩:=hrel;obtain⟨wp,hwp⟩:=qF (wr);subst hwp
        by_cases Rm:p<sz
        ·have AT:=λw hv=>JP v xp (by omega) w hv
         have afI:((T+NN:Nat):Int)=(T:Int)+(NN:Int):=by omega
         have PK:=λz hz w=>G9 z (T+NN) (by omega) hz w
         rw[afI]at PK
         go_upto_region 32 with(first
          | (go_at_call 66;refine(AT _ (HV.out.below zY.out)).mono ?_;rintro e w' ⟨⟨z,rfl,hz⟩,rfl⟩)
          | (go_at_call 44;refine(PK z hz _).mono ?_;rintro e w' ⟨⟨c,hc,rfl⟩,rfl⟩))
         have ak2:c<T+NN:=hc;have hpl:=Bp.out.len;have ak3:r.length<=4:=by omega
         clear AT PK afI hz hc;have hrow:=afH.out;have aih:wk.heap.size<=wp.heap.size:=hsp.out
         by_cases hA:k+1=cnt
         ·have hAi:((k:Int)==(cnt:Int) - 1)=true:=by simp;omega
          clear hA;exact aft
         ·have hAi:((k:Int)==(cnt:Int) - 1)=false:=by simp;omega
          by_cases hcl:c<T
          ·have hci:(c:Int)< (T:Int):=by omega
           clear hcl;exact aft
          ·have hci:¬((c:Int)< (T:Int)):=by omega
           obtain⟨q,hq,hqN⟩:∃q:Nat,(c:Int) - (T:Int)=(q:Int)/\q<NN:=⟨c - T,by omega,by omega⟩;have KN:=R4 q (by omega);rw[<-hq]at KN;have HA:Hid (¬k+1=cnt):=hid hA;clear hq hcl hA
           go_wp2_with (first
            | (go_at_call 33;refine(KN _).mono ?_;rintro e w' ⟨rfl,rfl⟩)
            | (at_builtin;refine jq _ rfl _ _ 39 rfl wk.heap.size 9 iS (.string ByteArray.empty) 1 16 Tryz.underlying39 Ij Ik Il Im rfl (by decide) _ _ _ rfl (hrow.alloc _) (af wp.heap.size 0) 1 1 [.string (BL q)] rfl rfl (dh (dw wp _)) ?c2 (yF 1) ?c3 ?c4 ?c5 _ rfl ?_))
           case c2=>intro u hu;simp at hu;subst hu;rfl
           case c3=>unfold maxLen;omega
           case c4=>omega
           case c5=>simp;omega
           intro g3 Am w3 zO zM Fu Eh;have hkeep:A1 wp w3 v13.ownBlock.toList:=((A1.refl _ _).alloc _).grown zM (λq hq=>.inl Fp);have Aq:∀g∈v13.ownBlock.toList,wk.heap.size<=g:=λg hm=>(hrow.lt g (BE hm)).1
           have adk:Hid (w3.ownsRow wk.heap.size 9 1 (ae g3 (p+1+1) Am) (r++ [Pt.yB q]).length (Dm (r++ [Pt.yB q]))):=hid aeW;have aaS:=hid (Ex.out.keeps hkeep (AJ hrow (by decide)) (AJ hrow (by decide)) (AJ hrow (by decide)));have aaT:=hid (Dj.out.keeps hkeep (AJ hrow (by decide)) (λm hm hx=>by have:=Aq _ hx;have:=Bq.out.2.1 m hm;have:=hsz.out;omega) (λm rs' k' h1 h2 hx=>by have:=Aq _ hx;have:=Bq.out.2.2 m rs' k' h1 h2;have:=hsz.out;omega));have aan:=hid (hRS.out.keeps hkeep (AJ hrow (by decide)) (λi hi hx=>by have:=Aq _ hx;have:=HGB.out i hi;omega));have zy:Hid (Below w.heap.size w w3):=hid (zY.out.trans (hkeep.below (by have:=hsp.out;omega) (λq hq=>by have:=Aq q hq;omega)));have Gg:Hid (jG T NN cnt k (p+1) (r++ [Pt.yB q])):=hid ⟨by rw[lA,Bp.out.len];rfl,by have h1:=Bp.out.head;cases r with |nil=>cases h1 |cons a l=>exact h1,λa ha=>by
            rcases gj.1 ha with ha |ha
            ·exact Bp.out.part a ha
            ·rw[mS.1 ha];exact(show q<NN from hqN),λhl a ha=>by
            rcases gj.1 ha with ha |ha
            ·exact Bp.out.last hl a ha
            ·rw[mS.1 ha];exact absurd hl HA.out⟩
           have HS3:Hid (wk.heap.size<=w3.heap.size):=hid (y5 hsp.out hkeep.size);clear zO zM Fu Eh hkeep hrow Aq;go_wp2
           go_roundw
           case rel=>exact⟨p+1,xp+1,r++ [Pt.yB q],_,by omega,by go_num,by go_num,by omega,by rfl,Gg,adk,aaS,aaT,aan,zy,HS3⟩
           case measure=>simp[intOf];omega
        ·have hpz:p=sz:=by omega
         subst hpz;have hrw:=afH.out
         by_cases hk0:k=0
         ·have aii:((k:Int)==0)=true:=by simp;omega
          by_cases hc1:1<cnt
          ·have aij:(1:Int)< (cnt:Int):=by omega
           by_cases yY:n+1<NN
           ·have aik:(n:Int)+1< (NN:Int):=by omega
            have Gt:Hid (k=0/\1<cnt):=hid ⟨hk0,hc1⟩;have hpl:=Bp.out.len;have hr4:r.length<=4:=by omega
            have aih:wk.heap.size<=wp.heap.size:=hsp.out;have aa0:((n+1:Nat):Int)=(n:Int)+1:=by omega
            have KN:=λw=>R4 (n+1) (by omega) w
            rw[aa0]at KN;clear hk0 aa0
            go_upto_region 38 with(first
             | (go_at_call 33;refine(KN _).mono ?_;rintro e w' ⟨rfl,rfl⟩)
             | (at_builtin;refine jq _ rfl _ _ 39 rfl wk.heap.size 9 iS (.string ByteArray.empty) 1 16 Tryz.underlying39 Ij Ik Il Im rfl (by decide) _ _ _ rfl (hrw.alloc _) (af wp.heap.size 0) 1 1 [.string (BL (n+1))] rfl rfl (dh (dw wp _)) ?c2 (yF 1) ?c3 ?c4 ?c5 _ rfl ?_))
            case c2=>intro u hu;simp at hu;subst hu;rfl
            case c3=>unfold maxLen;omega
            case c4=>omega
            case c5=>simp;omega
            intro g3 Am w3 zO zM Fu Eh
            go_upto_region 38 with fail
            have hkeep:A1 wp w3 v13.ownBlock.toList:=((A1.refl _ _).alloc _).grown zM (λq hq=>.inl Fp);have Aq:∀g∈v13.ownBlock.toList,wk.heap.size<=g:=λg hm=>(hrw.lt g (BE hm)).1
            have hrow3:w3.ownsRow wk.heap.size 9 1 (ae g3 (p+1+1) Am) (r++ [Pt.yB (n+1)]).length (Dm (r++ [Pt.yB (n+1)])):=by unfold Dm at zO ⊢;rw[ew,lA,Bp.out.len];exact zO
            have aaS:=hid (Ex.out.keeps hkeep (AJ hrw (by decide)) (AJ hrw (by decide)) (AJ hrw (by decide)));have aaT:=hid (Dj.out.keeps hkeep (AJ hrw (by decide)) (λm hm hx=>by have:=Aq _ hx;have:=Bq.out.2.1 m hm;have:=hsz.out;omega) (λm rs' k' h1 h2 hx=>by have:=Aq _ hx;have:=Bq.out.2.2 m rs' k' h1 h2;have:=hsz.out;omega));have aan:=hid (hRS.out.keeps hkeep (AJ hrw (by decide)) (λi hi hx=>by have:=Aq _ hx;have:=HGB.out i hi;omega));have zy:Hid (Below w.heap.size w w3):=hid (zY.out.trans (hkeep.below (by have:=hsp.out;omega) (λq hq=>by have:=Aq q hq;omega)));have HS3:Hid (wk.heap.size<=w3.heap.size):=hid (y5 hsp.out hkeep.size);clear zO zM Fu Eh hkeep hrw Aq hpl;have hrw:=hrow3;clear hrow3;have El:p+1+1=(r++ [Pt.yB (n+1)]).length:=by rw[lA,Bp.out.len];rfl
            rw[<-El]at hrw;have Av:wk.heap.size<=g3/\g3<w3.heap.size:=hrw.lt g3 rfl;have abM:p+1+1<=5:=by omega
            obtain⟨xs,hxs⟩:=qF ((List.range rs.length).map λk=>Value.slice (some ⟨gk k,0,none⟩) ((rs.getD k []).length) (ck k));have Aw:=aan.out.row;rw[<-hxs,Dl.out.len]at Aw;have HRW:=hid hrw;have Zp:=hid hxs;have Zo:=hid El;clear hrw hxs El;have aaU:wn.heap.size<=w3.heap.size:=by have:=hsz.out;have:=HS3.out;omega
            go_wp2_with (first | (at_builtin;refine jq _ rfl _ _ 46 rfl wn.heap.size 39 iR (.slice none 0 0) 1 24 Tryz.underlying46 Pv Pw Px Py rfl (by decide) _ _ _ rfl (Aw.alloc _) (af w3.heap.size 0) 1 1 [ae g3 (p+1+1) Am] rfl rfl (dh (dw w3 _)) ?d2 (yF 1) ?d3 ?d4 ?d5 _ rfl ?_))
            case d2=>first |rfl | (intro u hu;simp at hu;subst hu;rfl)
            case d3=>unfold maxLen;omega
            case d4=>omega
            case d5=>first |omega | (simp;omega)
            intro g4 Kt w4 Qy Me Ww Wx;have hkeep:A1 w3 w4 v11.ownBlock.toList:=((A1.refl _ _).alloc _).grown Me (λq hq=>.inl Fp);have Aq:∀g∈v11.ownBlock.toList,wn.heap.size<=g:=λg hm=>(Aw.lt g (BE hm)).1
            have aaW:Hid (Bg w4 wn.heap.size (ae g4 (k+1) Kt) (rs++ [r++ [Pt.yB (n+1)]]) (λi=>if i=k then g3 else gk i) (λi=>if i=k then Am else ck i)):=hid (by
             have h:=Bg.push aan.out (r:=r++ [Pt.yB (n+1)]) abI hkeep abH;rw[Dl.out.len]at h;exact h)
            have aaX:Hid (∀i j,i< (rs++ [r++ [Pt.yB (n+1)]]).length->j< (rs++ [r++ [Pt.yB (n+1)]]).length->(λi=>if i=k then g3 else gk i) i=(λi=>if i=k then g3 else gk i) j->i=j):=hid (λi j hi hj he=>by
             rw[lA,ey,Dl.out.len]at hi hj;simp only at he
             by_cases e1:i=k <;> by_cases e2:j=k
             ·omega
             ·exact ab6
             ·exact ab7
             ·rw[au e1,au e2]at he
              exact hIJ.out i j Ow Ow he)
            have aaY:=hid (aaS.out.keeps hkeep (AJ Aw (by decide)) (AJ Aw (by decide)) (AJ Aw (by decide)));have aaZ:=hid (aaT.out.keeps hkeep (AJ Aw (by decide)) (λm hm hx=>by have:=Aq _ hx;have:=Bq.out.2.1 m hm;omega) (λm rs' k' h1 h2 hx=>by have:=Aq _ hx;have:=Bq.out.2.2 m rs' k' h1 h2;omega));have zV:Hid (Below w.heap.size w w4):=hid (zy.out.trans (hkeep.below abR (λq hq=>by have:=Aq q hq;have:=Bq.out.1;omega)));have aaV:Hid (O1 T NN n cnt (k+1) (rs++ [r++ [Pt.yB (n+1)]])):=hid (Dl.out.add ((by have h1:=Bp.out.head;cases r with |nil=>cases h1 |cons a l=>exact h1)) abL (λa ha=>by
             rcases gj.1 ha with ha |ha
             ·exact Bp.out.part a ha
             ·rw[mS.1 ha];exact(show n+1<NN from yY)) (λh=>by have:=Gt.out;omega) (λ_ _ _=>ux _ (mS.2 rfl)))
            have Md:Hid (wn.heap.size<=w4.heap.size):=hid (y5 aaU hkeep.size);clear Qy Me Ww Wx hkeep Aw Aq;go_wp2
            go_roundw
            case rel=>exact⟨k+1,xp,rs++ [r++ [Pt.yB (n+1)]],_,_,_,by omega,by go_num,rfl,by omega,by rfl,aaV,aaW,aaX,aaY,aaZ,zV,Md⟩
            case measure=>simp[intOf];omega
           ·have aik:¬((n:Int)+1< (NN:Int)):=by omega
            clear hk0;obtain⟨Nu,El⟩:=qF ((r).length);rw[<-El]at hrw;obtain⟨g13,c13,aa1,Av,hg2,hg3⟩:=AX hrw (show 0<Nu by rw[El];rw[Bp.out.len];omega);have abM:Nu<=5:=by rw[El];rw[Bp.out.len];omega
            obtain⟨xs,hxs⟩:=qF ((List.range rs.length).map λk=>Value.slice (some ⟨gk k,0,none⟩) ((rs.getD k []).length) (ck k));have Aw:=hRS.out.row;rw[<-hxs,Dl.out.len]at Aw;have HRW:=hid hrw;have Zp:=hid hxs;have Zo:=hid El;subst aa1;clear hrw hxs El;have aaU:wn.heap.size<=wp.heap.size:=by have:=hsz.out;have:=hsp.out;omega
            go_wp2_with (first | (at_builtin;refine jq _ rfl _ _ 46 rfl wn.heap.size 39 iR (.slice none 0 0) 1 24 Tryz.underlying46 Pv Pw Px Py rfl (by decide) _ _ _ rfl (Aw.alloc _) (af wp.heap.size 0) 1 1 [ae g13 Nu c13] rfl rfl (dh (dw wp _)) ?d2 (yF 1) ?d3 ?d4 ?d5 _ rfl ?_))
            case d2=>first |rfl | (intro u hu;simp at hu;subst hu;rfl)
            case d3=>unfold maxLen;omega
            case d4=>omega
            case d5=>first |omega | (simp;omega)
            intro g4 Kt w4 Qy Me Ww Wx;have hkeep:A1 wp w4 v11.ownBlock.toList:=((A1.refl _ _).alloc _).grown Me (λq hq=>.inl Fp);have Aq:∀g∈v11.ownBlock.toList,wn.heap.size<=g:=λg hm=>(Aw.lt g (BE hm)).1
            have aaW:Hid (Bg w4 wn.heap.size (ae g4 (k+1) Kt) (rs++ [r]) (λi=>if i=k then g13 else gk i) (λi=>if i=k then c13 else ck i)):=hid (by
             have h:=Bg.push hRS.out (r:=r) abI hkeep abH;rw[Dl.out.len]at h;exact h)
            have aaX:Hid (∀i j,i< (rs++ [r]).length->j< (rs++ [r]).length->(λi=>if i=k then g13 else gk i) i=(λi=>if i=k then g13 else gk i) j->i=j):=hid (λi j hi hj he=>by
             rw[lA,ey,Dl.out.len]at hi hj;simp only at he
             by_cases e1:i=k <;> by_cases e2:j=k
             ·omega
             ·exact ab6
             ·exact ab7
             ·rw[au e1,au e2]at he
              exact hIJ.out i j Ow Ow he)
            have aaY:=hid (Ex.out.keeps hkeep (AJ Aw (by decide)) (AJ Aw (by decide)) (AJ Aw (by decide)));have aaZ:=hid (Dj.out.keeps hkeep (AJ Aw (by decide)) (λm hm hx=>by have:=Aq _ hx;have:=Bq.out.2.1 m hm;omega) (λm rs' k' h1 h2 hx=>by have:=Aq _ hx;have:=Bq.out.2.2 m rs' k' h1 h2;omega));have zV:Hid (Below w.heap.size w w4):=hid (zY.out.trans (hkeep.below abR (λq hq=>by have:=Aq q hq;have:=Bq.out.1;omega)));have aaV:Hid (O1 T NN n cnt (k+1) (rs++ [r])):=hid (Dl.out.add (Bp.out.head) abL (Bp.out.part) (Bp.out.last) (λ_ _ h=>absurd h yY));exact adm
          ·have aij:¬((1:Int)< (cnt:Int)):=by omega
           clear hk0;obtain⟨Nu,El⟩:=qF ((r).length);rw[<-El]at hrw;obtain⟨g13,c13,aa1,Av,hg2,hg3⟩:=AX hrw (show 0<Nu by rw[El];rw[Bp.out.len];omega);have abM:Nu<=5:=by rw[El];rw[Bp.out.len];omega
           obtain⟨xs,hxs⟩:=qF ((List.range rs.length).map λk=>Value.slice (some ⟨gk k,0,none⟩) ((rs.getD k []).length) (ck k));have Aw:=hRS.out.row;rw[<-hxs,Dl.out.len]at Aw;have HRW:=hid hrw;have Zp:=hid hxs;have Zo:=hid El;subst aa1;clear hrw hxs El;have aaU:wn.heap.size<=wp.heap.size:=by have:=hsz.out;have:=hsp.out;omega
           go_wp2_with (first | (at_builtin;refine jq _ rfl _ _ 46 rfl wn.heap.size 39 iR (.slice none 0 0) 1 24 Tryz.underlying46 Pv Pw Px Py rfl (by decide) _ _ _ rfl (Aw.alloc _) (af wp.heap.size 0) 1 1 [ae g13 Nu c13] rfl rfl (dh (dw wp _)) ?d2 (yF 1) ?d3 ?d4 ?d5 _ rfl ?_))
           case d2=>first |rfl | (intro u hu;simp at hu;subst hu;rfl)
           case d3=>unfold maxLen;omega
           case d4=>omega
           case d5=>first |omega | (simp;omega)
           intro g4 Kt w4 Qy Me Ww Wx;have hkeep:A1 wp w4 v11.ownBlock.toList:=((A1.refl _ _).alloc _).grown Me (λq hq=>.inl Fp);have Aq:∀g∈v11.ownBlock.toList,wn.heap.size<=g:=λg hm=>(Aw.lt g (BE hm)).1
           have aaW:Hid (Bg w4 wn.heap.size (ae g4 (k+1) Kt) (rs++ [r]) (λi=>if i=k then g13 else gk i) (λi=>if i=k then c13 else ck i)):=hid (by
            have h:=Bg.push hRS.out (r:=r) abI hkeep abH;rw[Dl.out.len]at h;exact h)
           have aaX:Hid (∀i j,i< (rs++ [r]).length->j< (rs++ [r]).length->(λi=>if i=k then g13 else gk i) i=(λi=>if i=k then g13 else gk i) j->i=j):=hid (λi j hi hj he=>by
            rw[lA,ey,Dl.out.len]at hi hj;simp only at he
            by_cases e1:i=k <;> by_cases e2:j=k
            ·omega
            ·exact ab6
            ·exact ab7
            ·rw[au e1,au e2]at he
             exact hIJ.out i j Ow Ow he)
           have aaY:=hid (Ex.out.keeps hkeep (AJ Aw (by decide)) (AJ Aw (by decide)) (AJ Aw (by decide)));have aaZ:=hid (Dj.out.keeps hkeep (AJ Aw (by decide)) (λm hm hx=>by have:=Aq _ hx;have:=Bq.out.2.1 m hm;omega) (λm rs' k' h1 h2 hx=>by have:=Aq _ hx;have:=Bq.out.2.2 m rs' k' h1 h2;omega));have zV:Hid (Below w.heap.size w w4):=hid (zY.out.trans (hkeep.below abR (λq hq=>by have:=Aq q hq;have:=Bq.out.1;omega)));have aaV:Hid (O1 T NN n cnt (k+1) (rs++ [r])):=hid (Dl.out.add (Bp.out.head) abL (Bp.out.part) (Bp.out.last) (λ_ h _=>absurd h hc1));exact adm
         ·have aii:((k:Int)==0)=false:=by simp;omega
          obtain⟨Nu,El⟩:=qF ((r).length);rw[<-El]at hrw;obtain⟨g13,c13,aa1,Av,hg2,hg3⟩:=AX hrw (show 0<Nu by rw[El];rw[Bp.out.len];omega);have abM:Nu<=5:=by rw[El];rw[Bp.out.len];omega
          obtain⟨xs,hxs⟩:=qF ((List.range rs.length).map λk=>Value.slice (some ⟨gk k,0,none⟩) ((rs.getD k []).length) (ck k));have Aw:=hRS.out.row;rw[<-hxs,Dl.out.len]at Aw;have HRW:=hid hrw;have Zp:=hid hxs;have Zo:=hid El;subst aa1;clear hrw hxs El;have aaU:wn.heap.size<=wp.heap.size:=by have:=hsz.out;have:=hsp.out;omega
          go_wp2_with (first | (at_builtin;refine jq _ rfl _ _ 46 rfl wn.heap.size 39 iR (.slice none 0 0) 1 24 Tryz.underlying46 Pv Pw Px Py rfl (by decide) _ _ _ rfl (Aw.alloc _) (af wp.heap.size 0) 1 1 [ae g13 Nu c13] rfl rfl (dh (dw wp _)) ?d2 (yF 1) ?d3 ?d4 ?d5 _ rfl ?_))
          case d2=>first |rfl | (intro u hu;simp at hu;subst hu;rfl)
          case d3=>unfold maxLen;omega
          case d4=>omega
          case d5=>first |omega | (simp;omega)
          intro g4 Kt w4 Qy Me Ww Wx;have hkeep:A1 wp w4 v11.ownBlock.toList:=((A1.refl _ _).alloc _).grown Me (λq hq=>.inl Fp);have Aq:∀g∈v11.ownBlock.toList,wn.heap.size<=g:=λg hm=>(Aw.lt g (BE hm)).1
          have aaW:Hid (Bg w4 wn.heap.size (ae g4 (k+1) Kt) (rs++ [r]) (λi=>if i=k then g13 else gk i) (λi=>if i=k then c13 else ck i)):=hid (by
           have h:=Bg.push hRS.out (r:=r) abI hkeep abH;rw[Dl.out.len]at h;exact h)
          have aaX:Hid (∀i j,i< (rs++ [r]).length->j< (rs++ [r]).length->(λi=>if i=k then g13 else gk i) i=(λi=>if i=k then g13 else gk i) j->i=j):=hid (λi j hi hj he=>by
           rw[lA,ey,Dl.out.len]at hi hj;simp only at he
           by_cases e1:i=k <;> by_cases e2:j=k
           ·omega
           ·exact ab6
           ·exact ab7
           ·rw[au e1,au e2]at he
            exact hIJ.out i j Ow Ow he)
          have aaY:=hid (Ex.out.keeps hkeep (AJ Aw (by decide)) (AJ Aw (by decide)) (AJ Aw (by decide)));have aaZ:=hid (Dj.out.keeps hkeep (AJ Aw (by decide)) (λm hm hx=>by have:=Aq _ hx;have:=Bq.out.2.1 m hm;omega) (λm rs' k' h1 h2 hx=>by have:=Aq _ hx;have:=Bq.out.2.2 m rs' k' h1 h2;omega));have zV:Hid (Below w.heap.size w w4):=hid (zY.out.trans (hkeep.below abR (λq hq=>by have:=Aq q hq;have:=Bq.out.1;omega)));have aaV:Hid (O1 T NN n cnt (k+1) (rs++ [r])):=hid (Dl.out.add (Bp.out.head) abL (Bp.out.part) (Bp.out.last) (λh _ _=>absurd h hk0));exact adm
      ·have hkz:k=cnt:=by omega
       subst hkz;have hrl:=Dl.out.len;have Ig:=Sb.out.len;obtain⟨g11,c11,afJ,Ev,Kr,hq3⟩:=AX hRS.out.row (show 0<rs.length by omega);rw[hrl]at afJ;subst afJ;obtain⟨xs,hxs⟩:=qF ((List.range L.length).map λn=>Value.slice (some ⟨gn n,0,none⟩) ((L.getD n []).length) (cn n));have hrN:=Dj.out.row;rw[<-hxs,Ig]at hrN;have Zp:=hid hxs;have c0:=Ex.out.cells.1;have hwW:w.heap.size<=wk.heap.size:=y5 Bq.out.1 hsz.out;have hbl:w.heap.size<wk.heap.size:=ak Ex.out.blk;have hfB:some w.heap.size≠vR.ownBlock:=λe=>A5 hrN Ex.out.blk (by decide) e.symm
       have ak4:wn.heap.size<=wk.heap.size:=hsz.out;clear hxs hrl Ig
       go_upto_region 40 with(first | (at_builtin;refine jq _ rfl _ _ 64 rfl w.heap.size 46 iN (.slice none 0 0) 1 24 Tryz.underlying64 Hx Nr Ns Nt rfl (by decide) _ _ _ rfl (hrN.alloc _) (af wk.heap.size 0) 1 1 [ae g11 k c11] rfl rfl (dh (dw wk _)) ?d2 (yF 1) ?d3 ?d4 ?d5 _ rfl ?_))
       case d2=>first |rfl | (intro u hu;simp at hu;subst hu;rfl)
       case d3=>unfold maxLen;omega
       case d4=>omega
       case d5=>first |omega | (simp;omega)
       intro g4 Kt w4 Qy Me Ww Wx;have hkeep:A1 wk w4 vR.ownBlock.toList:=((A1.refl _ _).alloc _).grown Me (λq hq=>.inl Fp);have hb4:=(hkeep.block w.heap.size hbl (λhm=>hfB (BE hm).symm)).trans Ex.out.blk;have Wy:w4.cell? (af w.heap.size 0)=some vR:=A0 hb4;have f14:w4.frozen? (af w.heap.size 0)=false:=A3 hb4;have ab8:=hid (Ex.out.ahU hrN hkeep (ae g4 (n+1) Kt));have aa2:Hid (Fw (w4.setCell (af w.heap.size 0) (ae g4 (n+1) Kt)) w.heap.size (ae g4 (n+1) Kt) (L++ [rs]) (λm=>if m=n then g11 else gn m) (λm=>if m=n then c11 else cn m) (λm j=>if m=n then gk j else gr m j) (λm j=>if m=n then ck j else cr m j)):=hid (by
        have h:=Fw.push Dj.out (rs:=rs) (g:=g11) (c:=c11) (by rw[Dl.out.len];exact hRS.out.base Bq.out.1) hIJ.out (λm rs' i j h1 h2 h3 e=>by have:=Bq.out.2.2 m rs' i h1 h2;have:=(hRS.out.lt h3).1;omega) hkeep (by rw[Dl.out.len,<-Zp.out,Sb.out.len];exact Qy);rw[Sb.out.len]at h;exact h.setOther hb4)
       have zI:Hid (Below w.heap.size w (w4.setCell (af w.heap.size 0) (ae g4 (n+1) Kt))):=hid ((zY.out.trans (hkeep.below hwW (KS hrN))).setCell Lc _);clear Qy Me Ww Wx hkeep hrN hb4 hfB Ex Dj zY c0
       go_upto_region 40 with fail
       obtain⟨W5,Dc⟩:=qE (w4.setCell (af w.heap.size 0) (ae g4 (n+1) Kt));rw[Dc]at ab8 aa2 zI ⊢;have hTT:0<T:=by omega
       have ail:xk<=26+25*(n+1):=by omega
       have hb0:w.heap.size<=W5.heap.size:=zI.out.size;clear Dc Wy f14
       by_cases hc1:k=1
       ·have aim:((k:Int)==1)=true:=by simp;omega
        have Bh:Hid (Mk.Pre ⟨pu,dr,sw,L++ [rs]⟩ NN):=hid (tQ Sb.out Tw.out hT2 hN2.2 Dn (by have h1:=Dl.out;rwa [hc1]at h1));have Cb:(L++ [rs]).length=n+1:=by rw[lA,Sb.out.len];rfl
        have hrl:∀q∈L++ [rs],0<q.length:=λq hq=>(Bh.out.c1 q hq).1
        have Wj:∀q∈L++ [rs],∀a∈q,0<a.length:=λq hq a ha=>by
         obtain⟨i,hi,rfl⟩:=jr.1 ha;have h1:=(Bh.out.head q hq i _ (gE hi)).1;cases h2:q[i]with
         |nil=>rw[h2]at h1;cases h1
         |cons x l=>simp
        obtain⟨role,hro⟩:=uH aa2.out;obtain⟨gR,cR,hsc⟩:=wN ab8.out aa2.out (by rw[Cb];omega) hrl Wj hro;have HSM:Hid (sP (L++ [rs])):=hid ⟨by rw[Cb];omega,λq hq=>by have:=(Bh.out.c1 q hq).2;have h6:=Bh.out.t6;omega,λq hq a ha=>by
         obtain⟨i,hi,rfl⟩:=jr.1 ha;exact(Bh.out.head q hq i _ (gE hi)).2,λq hq a ha x hx=>by
         have h1:=Bh.out.part q hq a ha x hx;have h6:=Bh.out.t6;have h4:=Bh.out.n4;cases x with
         |tok t=>have h7:t<pu.length:=h1;show t<6;simp only at h6;omega
         |yB m=>have h7:m<NN:=h1;show m<4;omega⟩
        have hgr:∀(m:Nat) q (j:Nat) a,(L++ [rs])[m]?=some q->q[j]?=some a->w.heap.size<=(λm j=>if m=n then gk j else gr m j) m j:=λm q j a h1 h2=>((aa2.out.each m q h1).lt (yS.1 h2).1).1
        have Ry:=hid (oS (L++ [rs]) HSM.out (L++ [rs]).length W5 w.heap.size w.heap.size role gR cR _ _ _ _ _ hsc (dN _ _) hgr);have HRO:=hid hro;have Mf:=hid (And.intro hrl Wj);have Xa:=hid Cb;rw[Cb]at Ry;have aa0:((n+1:Nat):Int)=(n:Int)+1:=by omega
        rw[aa0]at Ry;clear hrl Wj hsc hro hgr Cb hc1 aa0
        go_wp2_with (first | (go_at_call 67;refine Ry.out.mono ?_;rintro e w6 ⟨rfl,hc6,afK,yZ⟩;have H6:=hid (And.intro hc6 (And.intro afK yZ));clear hc6 afK yZ))
        go_ret;obtain⟨⟨c6,hcut,hsh⟩,Bb,yZ⟩:=H6.out;refine⟨w.heap.size,Mk.cut ⟨pu,dr,sw,L++ [rs]⟩,rfl,Bh.out.ahP,?_,zI.out.trans yZ⟩;exact uK ab8.out hTT Tw.out.pl Tw.out.dl Tw.out.sl (by rw[Xa.out];omega) Mf.out.1 Mf.out.2 HRO.out hsh (by rw[Xa.out];exact hcut) Bb yZ.size
       ·have aim:((k:Int)==1)=false:=by simp;omega
        have ain:Hid (TY T NN (n+1) (L++ [rs])):=hid (Sb.out.add Dl.out (by omega) (by omega));clear hc1;go_wp2
        go_roundw
        case rel=>exact⟨n+1,xk,L++ [rs],_,_,_,_,_,by omega,by go_num,rfl,ail,ain,ab8,aa2,zI⟩
        case measure=>simp[intOf];omega
    ·have hnn:n=NN:=by omega
     have Bh:Hid (Mk.Pre ⟨pu,dr,sw,L⟩ NN):=hid (uS Sb.out Tw.out hT2 hN2.2 hn (by omega));have hTT:0<T:=by omega
     have HM:Hid (Gk wn wn.heap.size w.heap.size ⟨pu,dr,sw,L⟩):=hid (vV Ex.out Dj.out hTT Tw.out.pl Tw.out.dl Tw.out.sl (by rw[Sb.out.len];omega) (λq hq=>(Bh.out.c1 q hq).1) (λq hq a ha=>by
      obtain⟨i,hi,rfl⟩:=jr.1 ha;have h1:=(Bh.out.head q hq i _ (gE hi)).1;cases h2:q[i]with
      |nil=>rw[h2]at h1;cases h1
      |cons x l=>simp))
     clear Ex Dj;go_wp2;go_ret;exact⟨w.heap.size,⟨pu,dr,sw,L⟩,rfl,Mk.Pre.good (by have h1:=Bh.out;rwa [show NN=(Mk.rules ⟨pu,dr,sw,L⟩).length from by show NN=L.length;rw[Sb.out.len];omega]at h1),HM.out,zY.out⟩
end Go.Proofs.YtjjggdcnpndgjaaGreatDoor
