import Derived.Test.YtjjggdcnpndgjaaGreatDoorHJ30
import Derived.Test.YtjjggdcnpndgjaaGreatDoorShelf3
import Derived.Laws.CopyOwn
set_option linter.unusedSimpArgs false
set_option maxHeartbeats 4000000
set_option maxRecDepth 100000
namespace Go.Proofs.YtjjggdcnpndgjaaGreatDoor
open Go.RowKit Go.Shelf
variable {B g i j k m n:Nat}{P:Program}{Q:zu}{cn ct:Nat->Nat->Nat->Wt}{f:Nat->Wt}{v:Value}{w w':World}
theorem QB  (w:World) (dT sT ty elem:TypeId) (sz g o dLen dCap:Nat) (a:Addr) (sLen sCap:Nat) (cur:Array Value) (t:TypeId) (cs:List Value)
  (hu:P.underlying dT=some (.slice elem)) (hs:(P.info? elem).map (·.size)=some sz)
  (hg:w.heap[g]?=some (.cells cur t (0,0))) (hn:cs.length=Nat.min sLen dLen*sz)
  (hsrc:∀j v,cs[j]?=some v->w.cell? (a.add j)=some v) (hfit:o+cs.length<=cur.size) (h1:∀v∈cs,v.oneCell'=true):
  (Builtin.copy_ #[dT,sT] ty #[.slice (some (af g o)) dLen dCap,.slice (some a) sLen sCap]).run P w=
   .ok (goInt (Nat.min sLen dLen)) (w.setRow g (cur.toList.take o++cs++cur.toList.drop (o+cs.length)).toArray):=by
 have hl:=run_loadCells_list (P:=P) w a cs hsrc;have hst:=run_storeCells_at P g o t cs 0 cur w hg (by simpa using hfit) h1;cases hq:P.info? elem with
 |none=>simp[hq]at hs
 |some i=>
  have hi:i.size=sz:=by simpa[hq] using hs
  simp[Builtin.copy_,run_underlying hu,Builtin.lenOf,Builtin.firstCells,sizeOf,typeInfo,hq,hi,<-hn,hl,hst]
theorem TT {ops:Array Oper}{rest:List Oper}{o:Oper}{a:Act}{Q:Exit->Act->World->Prop} (hgd:o.guard=none) (d s:Operand) (dT sT:TypeId)
  (ho:o.op=.call {callee:=.builtin .copy,args:= #[d,s],argTypes:= #[dT,sT]}) (elem:TypeId) (hu:P.underlying dT=some (.slice elem)) (sz:Nat) (hsz:(P.info? elem).map (·.size)=some sz)
  (g off dLen dCap:Nat) (ad:Addr) (sLen sCap:Nat) (hd:a.eval d=.slice (some (af g off)) dLen dCap) (hs:a.eval s=.slice (some ad) sLen sCap)
  (cur:Array Value) (t:TypeId) (hg:w.heap[g]?=some (.cells cur t (0,0))) (cs:List Value) (k:Nat) (hk:k=Nat.min sLen dLen) (hn:cs.length=k*sz)
  (hsrc:∀j v,cs[j]?=some v->w.cell? (ad.add j)=some v) (hfit:off+cs.length<=cur.size) (h1:∀v∈cs,v.oneCell'=true)
  (h:∀w',w'=w.setRow g (cur.toList.take off++cs++cur.toList.drop (off+cs.length)).toArray->wpList P ops Q rest (a.put o.dst (goInt k)) w'):wpList P ops Q (o::rest) a w:=by
 subst hk;refine wpList_plain hgd λK hK=>?_
 have hrun:=QB (P:=P) w dT sT o.type elem sz g off dLen dCap ad sLen sCap cur t cs hu hsz hg hn hsrc hfit h1;unfold Oper.wp;simp[execOp,ho,resolve,invoke,builtin,hd,hs,hrun,Result.andThen];exact hK _ _ (h _ (by simp))
theorem aO {o:Oper}{a:Act}{K:Act->World->Prop}{Q:Exit->Act->World->Prop} (d s:Operand) (dT sT:TypeId)
  (ho:o.op=.call {callee:=.builtin .copy,args:= #[d,s],argTypes:= #[dT,sT]}) (elem:TypeId) (hu:P.underlying dT=some (.slice elem)) (sz:Nat) (hsz:(P.info? elem).map (·.size)=some sz)
  (g off dLen dCap:Nat) (ad:Addr) (sLen sCap:Nat) (hd:a.eval d=.slice (some (af g off)) dLen dCap) (hs:a.eval s=.slice (some ad) sLen sCap)
  (cur:Array Value) (t:TypeId) (hg:w.heap[g]?=some (.cells cur t (0,0))) (cs:List Value) (k:Nat) (hk:k=Nat.min sLen dLen) (hn:cs.length=k*sz)
  (hsrc:∀j v,cs[j]?=some v->w.cell? (ad.add j)=some v) (hfit:off+cs.length<=cur.size) (h1:∀v∈cs,v.oneCell'=true)
  (h:∀w',w'=w.setRow g (cur.toList.take off++cs++cur.toList.drop (off+cs.length)).toArray->K (a.put o.dst (goInt k)) w'):o.wp P a w K Q:=by
 subst hk;have hrun:=QB (P:=P) w dT sT o.type elem sz g off dLen dCap ad sLen sCap cur t cs hu hsz hg hn hsrc hfit h1;unfold Oper.wp;simp[execOp,ho,resolve,invoke,builtin,hd,hs,hrun,Result.andThen];exact h _ (by simp)
def WC (c:Int):List Value:=[ab c,ab 0]
def BS (m n:Nat):List Value:=(List.replicate m (1048576:Int)++List.replicate (n - m) (0:Int)).flatMap WC
theorem TP (l:List Int):(l.flatMap WC).length=l.length*2:=by
 induction l with
 |nil=>rfl
 |cons a r ih=>rw[gy,lA,ih];simp[WC];omega
theorem II  (h:m<=n):(BS m n).length=n*2:=by unfold BS;rw[TP];simp;omega
theorem O9  (h:i<m):(BS m n)[i*2]?=some (ab 1048576)/\(BS m n)[i*2+1]?=some (ab 0):=by
 have hi:(List.replicate m (1048576:Int)++List.replicate (n - m) (0:Int))[i]?=some 1048576:=by
  rw[aL Kb,ny,aq h]
 unfold BS;exact⟨S5 WC (λ_=>rfl) _ i _ 0 hi (by omega),S5 WC (λ_=>rfl) _ i _ 1 hi (by omega)⟩
theorem XI {c:Nat} (h:m+c<=n):(BS m n).take (m*2)++BS c c++(BS m n).drop (m*2+(BS c c).length)=BS (m+c) n:=by
 have e:∀a b:List Int,(a++b).flatMap WC=a.flatMap WC++b.flatMap WC:=λa b=>mg
 have e1:BS m n=(List.replicate m (1048576:Int)).flatMap WC++((List.replicate c (0:Int)).flatMap WC++(List.replicate (n - (m+c)) (0:Int)).flatMap WC):=by
  unfold BS;rw[show n - m=c+(n - (m+c)) by omega,<-List.replicate_append_replicate,e,e]
 have e2:BS c c=(List.replicate c (1048576:Int)).flatMap WC:=by
  unfold BS;rw[kq,List.replicate_zero,iq]
 have e3:BS (m+c) n=(List.replicate m (1048576:Int)).flatMap WC++(List.replicate c (1048576:Int)).flatMap WC++(List.replicate (n - (m+c)) (0:Int)).flatMap WC:=by
  unfold BS;rw[<-e,<-e,List.replicate_append_replicate]
 have Ty:((List.replicate m (1048576:Int)).flatMap WC).length=m*2:=by rw[TP];simp
 have hl2:((List.replicate c (0:Int)).flatMap WC).length=c*2:=by rw[TP];simp
 rw[II (yF c),e1,e2,e3,List.take_left' Ty,List.drop_append,tq (by omega),Ty,eu,show m*2+c*2 - m*2=c*2 by omega,List.drop_left' hl2]
theorem aB  (h:v∈BS m n):v.oneCell'=true:=by
 unfold BS at h;obtain⟨c,_,h⟩:=ow.1 h;simp[WC]at h
 rcases h with rfl |rfl <;> rfl
theorem qL {c:Nat} (h:c<=m)  (hj:(BS c c)[j]?=some v):(BS m n)[j]?=some v:=by
 have hjl:=(yS.1 hj).1;rw[II (yF c)]at hjl
 rcases Nat.mod_two_eq_zero_or_one j with e |e
 ·obtain⟨i,rfl⟩:∃i,j=i*2:=⟨j / 2,by omega⟩
  rw[(O9 (by omega)).1]at hj ⊢;exact hj
 ·obtain⟨i,rfl⟩:∃i,j=i*2+1:=⟨j / 2,by omega⟩
  rw[(O9 (by omega)).2]at hj ⊢;exact hj
theorem UF (n b c:Nat) (hn:0<n) (hn2:n<=1000) (w:World) (h0:w.cell? (af b 0)=some (ab 1048576)) (h1:w.cell? (af b 1)=some (ab 0)):
  Calls Tryz.prog 216 #[ae b 1 c,ab n] w λe w'=>∃g,e=.returned (ae g n n)/\w.heap.size<=g/\w'.heap[g]?=some (.cells (BS n n).toArray 313 (0,0))/\Below w.heap.size w w':=by
 obtain⟨iW,hiW,ajj,agz,ajk⟩:=jc (P:=Tryz.prog) (e:=313) (z:=.agg #[ab 0,ab 0]) (size:=2) (bytes:=16) yg;have hbl:b<w.heap.size:=bq _ _ h0;have HM:Hid (∀W,Calls Tryz.prog 233 #[.int .u64 (1:Nat),.int .u64 n] W λe w'=>e=.returned (.tuple #[.int .u64 (0:Nat),.int .u64 n])/\W=w'):=hid λW=>by
  refine(Tryz.bits_Mul 1 n (by omega) (by omega) W).mono ?_;rintro e w' ⟨rfl,rfl⟩;refine⟨?_,rfl⟩;rw[Nat.one_mul,Nat.div_eq_of_lt (by omega),Nat.mod_eq_of_lt (by omega)]
 have hng:¬((n:Int)<0):=by omega
 have alx:¬((n:Int)>9223372036854775807):=by omega
 go_enter Tryz.func216,Tryz.ntmps216
 go_upto_region 7 with(first
  | (go_at_call 233;refine(HM.out _).mono ?_;rintro e w1 ⟨rfl,rfl⟩)
  | (at_make;refine M7 _ rfl _ _ 348 rfl 313 iW (.agg #[ab 0,ab 0]) Tryz.underlying348 hiW ajj _ _ n rfl rfl rfl rfl (by rw[ajk];omega) (by omega) ?_;rw[agz]))
 have agA:madeCells #[ab 0,ab 0] (n*2)=(BS 0 n).toArray:=by
  have h2:=NA 2 (by omega) WC (λ_=>rfl) (0:Int) n;have h3:BS 0 n=(List.replicate n (0:Int)).flatMap WC:=by unfold BS;simp
  rw[h3,<-h2];rfl
 simp only[agA];obtain⟨W1,hW1⟩:=qE (w.alloc (.cells (BS 0 n).toArray 313));have Av:W1.heap[w.heap.size]?=some (.cells (BS 0 n).toArray 313 (0,0)):=by rw[<-hW1];exact ay w _
 have hb1:Below w.heap.size w W1:=by rw[<-hW1];exact(ah _ w).alloc (yF _) _
 rw[hW1];have HG1:=hid Av;have yR:=hid hb1;have h01:=(hb1.cell (p:=(af b 0)) (by exact hbl)).trans h0;have h11:=(hb1.cell (p:=(af b 1)) (by exact hbl)).trans h1;have hsrc:∀(j:Nat) (v:Value),(BS 1 1)[j]?=some v->W1.cell? (((af b 0):Addr).add j)=some v:=λj v hj=>by
  have h2:((af b 0):Addr).add j=(af b j):=by simp[Addr.add];exact λe=>e.symm
  rw[h2];have hjl:=(yS.1 hj).1;rw[II (yF 1)]at hjl
  match j with
  |0=>rw[show(0:Nat)=0*2 from rfl,(O9 (by omega)).1]at hj;injection hj with hj;rw[<-hj];exact h01
  |1=>rw[show(1:Nat)=0*2+1 from rfl,(O9 (by omega)).2]at hj;injection hj with hj;rw[<-hj];exact h11
  |j+2=>omega
 have ad8:=hid hsrc;have aaf:(Tryz.prog.info? 313).map (·.size)=some 2:=by rw[hiW];simp[agz]
 clear hW1 Av hb1 agA h01 h11 hsrc h0 h1;refine wp_region_lit ?_
 iterate 6 go_step
 refine TT rfl (.tmp 31) (.tmp 32) 348 348 rfl 313 Tryz.underlying348 2 aaf w.heap.size 0 n n (af b 0) 1 c (by rfl) (by rfl) _ _ HG1.out (BS 1 1) 1 (by show 1=min 1 n;omega) (by rw[II (yF 1)]) ad8.out (by rw[II (yF 1)];show 0+1*2<=(BS 0 n).length;rw[II (bu n)];omega) (λv hv=>aB hv) ?_;intro W2 hW2;have HG2:Hid (W2.heap[w.heap.size]?=some (.cells (BS 1 n).toArray 313 (0,0))):=hid (by
  have h2:=setRow_heap W1 w.heap.size _ (BS 1 n).toArray _ _ HG1.out;have h3:=XI (m:=0) (n:=n) (c:=1) (by omega);rw[Nat.zero_mul,jl,jl]at h3;rw[hW2,jl,show(BS 0 n).toArray.toList=BS 0 n from rfl,h3];exact h2)
 have yV:Hid (Below w.heap.size w W2):=hid (by rw[hW2];exact below_setRow yR.out (yF _) _);clear hW2;go_wp2
 go_loopw [8] (λz wr=>∃m:Nat,1<=m/\m<=n/\z=ab m/\Hid (wr.heap[w.heap.size]?=some (.cells (BS m n).toArray 313 (0,0)))/\Hid (Below w.heap.size w wr)) (λz _=>n - (intOf z).toNat)
 case atStart=>exact⟨1,yF _,hn,rfl,HG2,yV⟩
 case round=>
  obtain⟨m,hm1,hmn,rfl,hg,hb⟩:=hrel
  by_cases hlt:m<n
  ·have hne:¬n=m:=by omega
   have aaP:¬m=n:=by omega
   go_upto_region 9 with fail
   refine dn (S:=λ_=>True) yg trivial (λhH=>?_);refine tB 0 hH ?_;refine tB 1 hH ?_;refine tB 2 hH ?_;refine tB 3 hH ?_;refine tB 4 hH ?_;refine tB 5 hH ?_;refine tB 6 hH ?_;refine tL ?_;obtain⟨cc,hcc⟩:=qF (Nat.min m (n - m));have hcm:cc<=m:=by rw[hcc];exact Nat.min_le_left _ _
   have Es:m+cc<=n:=by have:cc<=n - m:=(by rw[hcc];exact Nat.min_le_right _ _);omega
   have hc0:0<cc:=by rw[hcc];exact Nat.lt_min.2 ⟨by omega,by omega⟩
   have hsrc:∀(j:Nat) (v:Value),(BS cc cc)[j]?=some v->wr.drew.cell? (((af w.heap.size 0):Addr).add j)=some v:=λj v hj=>by
    have h2:((af w.heap.size 0):Addr).add j=(af w.heap.size j):=by simp[Addr.add];exact λe=>e.symm
    rw[h2];have h3:wr.cell? (af w.heap.size j)=_:=A0 hg.out;exact h3.trans (by rw[fy];exact qL hcm hj)
   have ad8:=hid hsrc;have Jd:=hid hcc;clear hsrc hcc;refine tS 7 λK hK=>?_
   refine tM ?_;rw[aq (by rfl)];refine aO (.tmp 41) (.tmp 44) 348 348 rfl 313 Tryz.underlying348 2 aaf w.heap.size (m*2) (n - m) (n - m) (af w.heap.size 0) m n (by rfl) (by rfl) _ _ hg.out (BS cc cc) cc Jd.out (by rw[II (yF cc)]) ad8.out (by rw[II (yF cc)];show m*2+cc*2<=(BS m n).length;rw[II hmn];omega) (λv hv=>aB hv) ?_;intro W3 hW3;refine hK.out _ _ ?_ λhH=>?_
   ·trivial
   clear hK K;refine tL ?_;have hg3:W3.heap[w.heap.size]?=some (.cells (BS (m+cc) n).toArray 313 (0,0)):=by
    have h2:=setRow_heap wr w.heap.size _ (BS (m+cc) n).toArray _ _ hg.out;have h3:=XI (m:=m) (n:=n) (c:=cc) Es;rw[hW3,show(BS m n).toArray.toList=BS m n from rfl,h3];exact h2
   have hb3:Below w.heap.size w W3:=by rw[hW3];exact below_setRow hb.out.drew (yF _) _
   have HG3:=hid hg3;have zy:=hid hb3;clear hW3 hg3 hb3;simp only[goInt];have hwr:IntKind.i64.wrap ((m:Int)+(cc:Int))=(m:Int)+(cc:Int):=by rw[Cy];omega
   refine tB 8 hH ?_;refine tB 9 hH ?_;refine tL ?_;refine bk yg ?_ _;clear hH;go_wp2
   go_roundw
   case rel=>exact⟨m+cc,by omega,Es,by go_num,HG3,zy⟩
   case measure=>simp[intOf];omega
  ·have ajl:m=n:=by omega
   subst ajl;go_wp2;go_ret;exact⟨w.heap.size,rfl,yF _,hg.out,hb.out⟩
def MS:Nat->Wt:=λ_=>(AC,0)
def GA (Q:zu) (cn ct:Nat->Nat->Nat->Wt) (i k q:Nat):Wt:=match Q.yQ[q]? with
 |some (some p)=>JK Q cn ct p q i k (k - (i+1))
 |_=>if i=k then(0,0)else(AC,0)
theorem uC:FX MS:=λ_=>⟨yF _,bu _⟩
theorem pG (Q:zu) (cn ct:Nat->Nat->Nat->Wt) (i k:Nat):FX (GA Q cn ct i k):=λq=>by
 unfold GA;split
 ·exact aQ ..
 ·split
  ·exact⟨bu _,bu _⟩
  ·exact⟨yF _,bu _⟩
theorem ZL (Q:zu) (cn ct:Nat->Nat->Nat->Wt) (p:Pt) (q i k:Nat):∀{M m:Nat},m<M->zq (JK Q cn ct p q i k M) (D3 Q.T.N Q.row cn ct p q i (i+1+m) k)
 |M+1,m,h=>by
  by_cases e:m=M
  ·subst e;exact bU _ _
  ·exact GI (QM _ _) (ZL Q cn ct p q i k (by omega))
theorem aX (Q:zu) (cn ct:Nat->Nat->Nat->Wt) (p:Pt) (q i k:Nat):∀(M:Nat),JK Q cn ct p q i k M=(AC,0)\/∃m,m<M/\JK Q cn ct p q i k M=D3 Q.T.N Q.row cn ct p q i (i+1+m) k
 |0=>.inl rfl
 |M+1=>by
  rcases S4 (JK Q cn ct p q i k M) (D3 Q.T.N Q.row cn ct p q i (i+1+M) k)with e |e
  ·rcases aX Q cn ct p q i k M with h | ⟨m,h1,h2⟩
   ·exact .inl (e.trans h)
   ·exact .inr ⟨m,by omega,e.trans h2⟩
  ·exact .inr ⟨M,by omega,e⟩
theorem UM {N:NG}{row:List Nat}{nm ta:Nat->Wt}{p:Pt}{q:Nat} (h1:i<j) (h2:j<k):ES N row cn ct i k nm ta p q j=D3 N row cn ct p q i j k:=by
 unfold ES D3;have e1:CZ N row (AK cn i k nm) p i j=CZ N row cn p i j:=by
  cases p with
  |tok t=>rfl
  |yB n=>show AK cn i k nm n i j=cn n i j;unfold AK;rw[au (by omega)]
 have e2:AK ct i k ta (q+1) j k=ct (q+1) j k:=by unfold AK;rw[au (by omega)]
 rw[e1,e2]
theorem jX  (hk:PG Q.yQ) (cn ct:Nat->Nat->Nat->Wt) (i k:Nat):Ga Q.T.N (BJ Q.yQ) (FJ Q.hds) Q.row cn ct i k MS (GA Q cn ct i k) where
 Hr:=λq hq=>by
  rcases RQ hk hq with⟨_,h⟩ | ⟨p,ps,h,_⟩
  ·unfold GA;rw[h]
  ·cases h
 cut:=λq p ps j hq h1 h2=>by
  rcases RQ hk hq with⟨h,_⟩ | ⟨p',ps',h,h3⟩
  ·cases h
  ·injection h with h4 _
   subst h4;rw[UM h1 h2];unfold GA;rw[h3];have h5:=ZL Q cn ct p q i k (M:=k - (i+1)) (m:=j - (i+1)) (by omega);rw[show i+1+(j - (i+1))=j by omega]at h5;exact h5
 Mg:=λq p ps hq=>by
  rcases RQ hk hq with⟨h,_⟩ | ⟨p',ps',h,h3⟩
  ·cases h
  ·injection h with h4 _
   subst h4;unfold GA;rw[h3]
   rcases aX Q cn ct p q i k (k - (i+1))with h5 | ⟨m,h5,h6⟩
   ·exact .inl h5
   ·refine .inr ⟨i+1+m,by omega,by omega,?_⟩
    rw[UM (by omega) (by omega)];simp only;rw[h6];exact FP _
 Nv:=λn _=>.inl rfl
structure Qq (Q:zu) (w:World) (gi i k:Nat) (cn ct:Nat->Nat->Nat->Wt):Prop where
 Dd:Q.gp<gi
 Uv:gi<w.heap.size
 pi:w.cell? (af Q.gp i)=some (ae gi (Q.row.length+1) (Q.row.length+1))
 old:∀a b,i<a->a<=b->b<=Q.row.length->Gv Q w gi a b (λn=>cn n a b)/\Mq Q w gi a b (λq=>ct q a b)
 own:∀b,i<=b->b<k->∃gn gq,gi<gn/\gi<gq/\gn<w.heap.size/\gq<w.heap.size/\w.cell? (af gi (b*2))=some (ae gn Q.T.N.nN Q.T.N.nN)/\w.cell? (af gi (b*2+1))=some (ae gq Q.yQ.length Q.yQ.length)/\I3 w gn Q.T.N.nN (λn=>cn n i b)/\I3 w gq Q.yQ.length (λq=>ct q i b)
theorem bM  (h:w.cell? (af g j)=some v):∃cs e fr,w.heap[g]?=some (.cells cs e fr):=by
 simp only[World.cell?]at h;cases ho:w.heap[g]? with
 |none=>rw[ho]at h;cases h
 |some o=>
  cases o with
  |cells cs e fr=>exact⟨cs,e,fr,rfl⟩
  |_=>rw[ho]at h;cases h
theorem I3.keeps {S:List Nat} (h:I3 w g n f) (hk:A1 w w' S) (hg:g<w.heap.size) (hS:g∉S):I3 w' g n f:=λi hi=>⟨(hk.cell Cx hS).trans (h i hi).1,(hk.cell Cx hS).trans (h i hi).2⟩
theorem Gv.mono {B':Nat} (h:Gv Q w B i k f) (hB:B<=B'):Gv Q w B' i k f:=by
 obtain⟨gi,gn,h1,h2,h3⟩:=h;exact⟨gi,gn,by omega,by omega,h3⟩
theorem Mq.mono {B':Nat} (h:Mq Q w B i k f) (hB:B<=B'):Mq Q w B' i k f:=by
 obtain⟨gi,gn,h1,h2,h3⟩:=h;exact⟨gi,gn,by omega,by omega,h3⟩
theorem Qq.kn' {gi:Nat} (h:Qq Q w gi i k cn ct) (hk:A1 w w' [gi]) (hB:w.heap.size<=B)
  (ho:∀j,j≠k*2->j≠k*2+1->w'.cell? (af gi j)=w.cell? (af gi j)):Mr Q w' B i k cn ct:=λa b h1 h2 h3=>by
 have hb:Below gi w w':=hk.below (qb h.Uv) (λq hq=>by rw[mS.1 hq];exact yF _);have Kz:=h.Uv;have Ob:=h.Dd
 rcases h3 with h3 | ⟨rfl,h3⟩
 ·obtain⟨z1,z2⟩:=h.old a b h3 h1 h2
  exact⟨(z1.below hb h.Dd).mono (by omega),(z2.below hb h.Dd).mono (by omega)⟩
 ·obtain⟨gn,gq,h4,h5,h6,h7,h8,h9,h10,h11⟩:=h.own b h1 h3
  have hpi:=(hk.cell (p:=(af Q.gp a)) (by show Q.gp<w.heap.size;omega) yM).trans h.pi;exact⟨⟨gi,gn,by omega,by omega,hpi,(ho _ (by omega) (by omega)).trans h8,h10.keeps hk h6 yM⟩,⟨gi,gq,by omega,by omega,hpi,(ho _ (by omega) (by omega)).trans h9,h11.keeps hk h7 yM⟩⟩
theorem oO  (h:w.heap[g]?=some (.cells (BS n n).toArray 313 (0,0))):I3 w g n MS:=λi hi=>by
 rw[A0 h,A0 h,fy,fy];exact O9 hi
theorem Qq.next {gi gn gq:Nat}{nm ta:Nat->Wt} (h:Qq Q w gi i k cn ct) (hk:A1 w w' [gi]) (hc:DZ Q w' B gi gn gq i k nm ta) (hB:gi<B)
  (ho:∀j,j≠k*2->j≠k*2+1->w'.cell? (af gi j)=w.cell? (af gi j)):Qq Q w' gi i (k+1) (AK cn i k nm) (AK ct i k ta) where
 Dd:=h.Dd
 Uv:=lL h.Uv hk.size
 pi:=hc.pi
 old:=λa b h1 h2 h3=>by
  have hb:Below gi w w':=hk.below (qb h.Uv) (λq hq=>by rw[mS.1 hq];exact yF _);have e1:(λn=>AK cn i k nm n a b)=λn=>cn n a b:=by funext n;unfold AK;rw[au (by omega)]
  have e2:(λn=>AK ct i k ta n a b)=λn=>ct n a b:=by funext n;unfold AK;rw[au (by omega)]
  rw[e1,e2];exact⟨(h.old a b h1 h2 h3).1.below hb h.Dd,(h.old a b h1 h2 h3).2.below hb h.Dd⟩
 own:=λb h1 h2=>by
  by_cases e:b=k
  ·subst e
   have e1:(λn=>AK cn i b nm n i b)=nm:=by funext n;unfold AK;rw[aq ⟨rfl,rfl⟩]
   have e2:(λn=>AK ct i b ta n i b)=ta:=by funext n;unfold AK;rw[aq ⟨rfl,rfl⟩]
   rw[e1,e2];exact⟨gn,gq,by have:=hc.Uq;omega,by have:=hc.Qo;omega,hc.Oe,hc.Qp,hc.pn,hc.pq,hc.Og,hc.tac⟩
  ·obtain⟨Ya,gq',h4,h5,h6,h7,h8,h9,h10,h11⟩:=h.own b h1 (by omega)
   have e1:(λn=>AK cn i k nm n i b)=λn=>cn n i b:=by funext n;unfold AK;rw[au (by omega)]
   have e2:(λn=>AK ct i k ta n i b)=λn=>ct n i b:=by funext n;unfold AK;rw[au (by omega)]
   rw[e1,e2];exact⟨Ya,gq',h4,h5,lL h6 hk.size,lL h7 hk.size,(ho _ (by omega) (by omega)).trans h8,(ho _ (by omega) (by omega)).trans h9,h10.keeps hk h6 yM,h11.keeps hk h7 yM⟩
end Go.Proofs.YtjjggdcnpndgjaaGreatDoor
