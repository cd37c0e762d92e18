import Derived.Test.YtjjggdcnpndgjaaGreatDoorCJ29
import Derived.Test.YtjjggdcnpndgjaaGreatDoorShelf3
import Derived.Laws.CopyOwn
set_option linter.unusedSimpArgs false
set_option maxHeartbeats 8000000
set_option maxRecDepth 100000
namespace Go.Proofs.YtjjggdcnpndgjaaGreatDoor
open Go.RowKit Go.Shelf
variable {B g gi i j k m n:Nat}{P:Program}{Q:Aq}{cn ct:Nat->Nat->Nat->Wt}{f:Nat->Wt}{v:Value}{w w':World}
theorem QQ  (w:World) (dT sT ty elem:TypeId) (sz g o dLen dCap:Nat) (a:Addr) (sLen sCap:Nat) (cur:Array Value) (t:TypeId) (cs:List Value)
  (hu:P.underlying dT=some (.slice elem)) (hs:(P.info? elem).map (·.size)=some sz)
  (hg:w.heap[g]?=some (.cells cur t (0,0))) (hn:cs.length=Nat.min sLen dLen*sz)
  (hsrc:∀j v,cs[j]?=some v->w.cell? (a.add j)=some v) (hfit:o+cs.length<=cur.size) (h1:∀v∈cs,v.oneCell'=true):
  (Builtin.copy_ #[dT,sT] ty #[.slice (some (af g o)) dLen dCap,.slice (some a) sLen sCap]).run P w=
   .ok (goInt (Nat.min sLen dLen)) (w.setRow g (cur.toList.take o++cs++cur.toList.drop (o+cs.length)).toArray):=by
 have hl:=run_loadCells_list (P:=P) w a cs hsrc;have hst:=run_storeCells_at P g o t cs 0 cur w hg (by simpa using hfit) h1;cases hq:P.info? elem with
 |none=>simp[hq]at hs
 |some i=>
  have hi:i.size=sz:=by simpa[hq] using hs
  simp[Builtin.copy_,run_underlying hu,Builtin.lenOf,Builtin.firstCells,sizeOf,typeInfo,hq,hi,<-hn,hl,hst]
theorem UB {ops:Array Oper}{rest:List Oper}{o:Oper}{a:Act}{Q:Exit->Act->World->Prop} (hgd:o.guard=none) (d s:Operand) (dT sT:TypeId)
  (ho:o.op=.call {callee:=.builtin .copy,args:= #[d,s],argTypes:= #[dT,sT]}) (elem:TypeId) (hu:P.underlying dT=some (.slice elem)) (sz:Nat) (hsz:(P.info? elem).map (·.size)=some sz)
  (g off dLen dCap:Nat) (ad:Addr) (sLen sCap:Nat) (hd:a.eval d=.slice (some (af g off)) dLen dCap) (hs:a.eval s=.slice (some ad) sLen sCap)
  (cur:Array Value) (t:TypeId) (hg:w.heap[g]?=some (.cells cur t (0,0))) (cs:List Value) (k:Nat) (hk:k=Nat.min sLen dLen) (hn:cs.length=k*sz)
  (hsrc:∀j v,cs[j]?=some v->w.cell? (ad.add j)=some v) (hfit:off+cs.length<=cur.size) (h1:∀v∈cs,v.oneCell'=true)
  (h:∀w',w'=w.setRow g (cur.toList.take off++cs++cur.toList.drop (off+cs.length)).toArray->wpList P ops Q rest (a.put o.dst (goInt k)) w'):wpList P ops Q (o::rest) a w:=by
 subst hk;refine wpList_plain hgd λK hK=>?_
 have hrun:=QQ (P:=P) w dT sT o.type elem sz g off dLen dCap ad sLen sCap cur t cs hu hsz hg hn hsrc hfit h1;unfold Oper.wp;simp[execOp,ho,resolve,invoke,builtin,hd,hs,hrun,Result.andThen];exact hK _ _ (h _ (by simp))
theorem bU {o:Oper}{a:Act}{K:Act->World->Prop}{Q:Exit->Act->World->Prop} (d s:Operand) (dT sT:TypeId)
  (ho:o.op=.call {callee:=.builtin .copy,args:= #[d,s],argTypes:= #[dT,sT]}) (elem:TypeId) (hu:P.underlying dT=some (.slice elem)) (sz:Nat) (hsz:(P.info? elem).map (·.size)=some sz)
  (g off dLen dCap:Nat) (ad:Addr) (sLen sCap:Nat) (hd:a.eval d=.slice (some (af g off)) dLen dCap) (hs:a.eval s=.slice (some ad) sLen sCap)
  (cur:Array Value) (t:TypeId) (hg:w.heap[g]?=some (.cells cur t (0,0))) (cs:List Value) (k:Nat) (hk:k=Nat.min sLen dLen) (hn:cs.length=k*sz)
  (hsrc:∀j v,cs[j]?=some v->w.cell? (ad.add j)=some v) (hfit:off+cs.length<=cur.size) (h1:∀v∈cs,v.oneCell'=true)
  (h:∀w',w'=w.setRow g (cur.toList.take off++cs++cur.toList.drop (off+cs.length)).toArray->K (a.put o.dst (goInt k)) w'):o.wp P a w K Q:=by
 subst hk;have hrun:=QQ (P:=P) w dT sT o.type elem sz g off dLen dCap ad sLen sCap cur t cs hu hsz hg hn hsrc hfit h1;unfold Oper.wp;simp[execOp,ho,resolve,invoke,builtin,hd,hs,hrun,Result.andThen];exact h _ (by simp)
def WC (c:Int):List Value:=[ab c,ab 0]
def C4 (m n:Nat):List Value:=(List.replicate m (1048576:Int)++List.replicate (n - m) (0:Int)).flatMap WC
theorem TU (l:List Int):(l.flatMap WC).length=l.length*2:=by
 induction l with
 |nil=>rfl
 |cons a r ih=>rw[ij,lA,ih];simp[WC];omega
theorem J4  (h:m<=n):(C4 m n).length=n*2:=by unfold C4;rw[TU];simp;omega
theorem OJ  (h:i<m):(C4 m n)[i*2]?=some (ab 1048576)/\(C4 m n)[i*2+1]?=some (ab 0):=by
 have hi:(List.replicate m (1048576:Int)++List.replicate (n - m) (0:Int))[i]?=some 1048576:=by
  rw[aL Lx,nj,ay h]
 unfold C4;exact⟨SL WC (λ_=>rfl) _ i _ 0 hi (by omega),SL WC (λ_=>rfl) _ i _ 1 hi (by omega)⟩
theorem YR {c:Nat} (h:m+c<=n):(C4 m n).take (m*2)++C4 c c++(C4 m n).drop (m*2+(C4 c c).length)=C4 (m+c) n:=by
 have e:∀a b:List Int,(a++b).flatMap WC=a.flatMap WC++b.flatMap WC:=λa b=>mo
 have e1:C4 m n=(List.replicate m (1048576:Int)).flatMap WC++((List.replicate c (0:Int)).flatMap WC++(List.replicate (n - (m+c)) (0:Int)).flatMap WC):=by
  unfold C4;rw[show n - m=c+(n - (m+c)) by omega,<-List.replicate_append_replicate,e,e]
 have e2:C4 c c=(List.replicate c (1048576:Int)).flatMap WC:=by
  unfold C4;rw[ku,List.replicate_zero,fy]
 have e3:C4 (m+c) n=(List.replicate m (1048576:Int)).flatMap WC++(List.replicate c (1048576:Int)).flatMap WC++(List.replicate (n - (m+c)) (0:Int)).flatMap WC:=by
  unfold C4;rw[<-e,<-e,List.replicate_append_replicate]
 have Mo:((List.replicate m (1048576:Int)).flatMap WC).length=m*2:=by rw[TU];simp
 have hl2:((List.replicate c (0:Int)).flatMap WC).length=c*2:=by rw[TU];simp
 rw[J4 (zn c),e1,e2,e3,List.take_left' Mo,List.drop_append,qu (by omega),Mo,ey,show m*2+c*2 - m*2=c*2 by omega,List.drop_left' hl2]
theorem e7  (h:v∈C4 m n):v.oneCell'=true:=by
 unfold C4 at h;obtain⟨c,_,h⟩:=qd.1 h;simp[WC]at h
 rcases h with rfl |rfl <;> rfl
theorem qS {c:Nat} (h:c<=m)  (hj:(C4 c c)[j]?=some v):(C4 m n)[j]?=some v:=by
 have hjl:=(zM.1 hj).1;rw[J4 (zn c)]at hjl
 rcases Nat.mod_two_eq_zero_or_one j with e |e
 ·obtain⟨i,rfl⟩:∃i,j=i*2:=⟨j / 2,by omega⟩
  rw[(OJ (by omega)).1]at hj ⊢;exact hj
 ·obtain⟨i,rfl⟩:∃i,j=i*2+1:=⟨j / 2,by omega⟩
  rw[(OJ (by omega)).2]at hj ⊢;exact hj
theorem UZ (n b c:Nat) (hn:0<n) (hn2:n<=1000) (w:World) (h0:w.cell? (af b 0)=some (ab 1048576)) (h1:w.cell? (af b 1)=some (ab 0)):
  Calls Tryz.prog 216 #[ae b 1 c,ab n] w λe w'=>∃g,e=.returned (ae g n n)/\w.heap.size<=g/\w'.heap[g]?=some (.cells (C4 n n).toArray 313 (0,0))/\Below w.heap.size w w':=by
 obtain⟨iW,hiW,ajR,aha,ajS⟩:=iy (P:=Tryz.prog) (e:=313) (z:=.agg #[ab 0,ab 0]) (size:=2) (bytes:=16) yM;have hbl:b<w.heap.size:=bu _ _ h0;have HM:Hid (∀W,Calls Tryz.prog 233 #[.int .u64 (1:Nat),.int .u64 n] W λe w'=>e=.returned (.tuple #[.int .u64 (0:Nat),.int .u64 n])/\W=w'):=hid λW=>by
  refine(Tryz.bits_Mul 1 n (by omega) (by omega) W).mono ?_;rintro e w' ⟨rfl,rfl⟩;refine⟨?_,rfl⟩;rw[Nat.one_mul,Nat.div_eq_of_lt (by omega),Nat.mod_eq_of_lt (by omega)]
 have hng:¬((n:Int)<0):=by omega
 have al8:¬((n:Int)>9223372036854775807):=by omega
 go_enter Tryz.func216,Tryz.ntmps216
 go_upto_region 7 with(first
  | (go_at_call 233;refine(HM.out _).mono ?_;rintro e w1 ⟨rfl,rfl⟩)
  | (at_make;refine IP _ rfl _ _ 348 rfl 313 iW (.agg #[ab 0,ab 0]) Tryz.underlying348 hiW ajR _ _ n rfl rfl rfl rfl (by rw[ajS];omega) (by omega) ?_;rw[aha]))
 have ahb:madeCells #[ab 0,ab 0] (n*2)=(C4 0 n).toArray:=by
  have h2:=NZ 2 (by omega) WC (λ_=>rfl) (0:Int) n;have h3:C4 0 n=(List.replicate n (0:Int)).flatMap WC:=by unfold C4;simp
  rw[h3,<-h2];rfl
 simp only[ahb];obtain⟨W1,hW1⟩:=qE (w.alloc (.cells (C4 0 n).toArray 313));have Bw:W1.heap[w.heap.size]?=some (.cells (C4 0 n).toArray 313 (0,0)):=by rw[<-hW1];exact bg w _
 have hb1:Below w.heap.size w W1:=by rw[<-hW1];exact(ah _ w).alloc (zn _) _
 rw[hW1];have Xr:=hid Bw;have zL:=hid hb1;have h01:=(hb1.cell (p:=(af b 0)) (by exact hbl)).trans h0;have h11:=(hb1.cell (p:=(af b 1)) (by exact hbl)).trans h1;have hsrc:∀(j:Nat) (v:Value),(C4 1 1)[j]?=some v->W1.cell? (((af b 0):Addr).add j)=some v:=λj v hj=>by
  have h2:((af b 0):Addr).add j=(af b j):=by simp[Addr.add];exact λe=>e.symm
  rw[h2];have hjl:=(zM.1 hj).1;rw[J4 (zn 1)]at hjl
  match j with
  |0=>rw[show(0:Nat)=0*2 from rfl,(OJ (by omega)).1]at hj;injection hj with hj;rw[<-hj];exact h01
  |1=>rw[show(1:Nat)=0*2+1 from rfl,(OJ (by omega)).2]at hj;injection hj with hj;rw[<-hj];exact h11
  |j+2=>omega
 have aeU:=hid hsrc;have aaU:(Tryz.prog.info? 313).map (·.size)=some 2:=by rw[hiW];simp[aha]
 clear hW1 Bw hb1 ahb h01 h11 hsrc h0 h1;refine wp_region_lit ?_
 iterate 6 go_step
 refine UB rfl (.tmp 31) (.tmp 32) 348 348 rfl 313 Tryz.underlying348 2 aaU w.heap.size 0 n n (af b 0) 1 c (by rfl) (by rfl) _ _ Xr.out (C4 1 1) 1 (by show 1=min 1 n;omega) (by rw[J4 (zn 1)]) aeU.out (by rw[J4 (zn 1)];show 0+1*2<=(C4 0 n).length;rw[J4 (dh n)];omega) (λv hv=>e7 hv) ?_;intro W2 hW2;have Ys:Hid (W2.heap[w.heap.size]?=some (.cells (C4 1 n).toArray 313 (0,0))):=hid (by
  have h2:=setRow_heap W1 w.heap.size _ (C4 1 n).toArray _ _ Xr.out;have h3:=YR (m:=0) (n:=n) (c:=1) (by omega);rw[yy,ju,ju]at h3;rw[hW2,ju,show(C4 0 n).toArray.toList=C4 0 n from rfl,h3];exact h2)
 have zO:Hid (Below w.heap.size w W2):=hid (by rw[hW2];exact below_setRow zL.out (zn _) _);clear hW2;go_wp2
 go_loopw [8] (λz wr=>∃m:Nat,1<=m/\m<=n/\z=ab m/\Hid (wr.heap[w.heap.size]?=some (.cells (C4 m n).toArray 313 (0,0)))/\Hid (Below w.heap.size w wr)) (λz _=>n - (intOf z).toNat)
 case atStart=>exact⟨1,zn _,hn,rfl,Ys,zO⟩
 case round=>
  obtain⟨m,hm1,hmn,rfl,hg,hb⟩:=hrel
  by_cases hlt:m<n
  ·have hne:¬n=m:=by omega
   have abw:¬m=n:=by omega
   go_upto_region 9 with fail
   refine dy (S:=λ_=>True) yM trivial (λhH=>?_);refine tB 0 hH ?_;refine tB 1 hH ?_;refine tB 2 hH ?_;refine tB 3 hH ?_;refine tB 4 hH ?_;refine tB 5 hH ?_;refine tB 6 hH ?_;refine tL ?_;obtain⟨cc,hcc⟩:=qF (Nat.min m (n - m));have hcm:cc<=m:=by rw[hcc];exact Nat.min_le_left _ _
   have Gp:m+cc<=n:=by have:cc<=n - m:=(by rw[hcc];exact Nat.min_le_right _ _);omega
   have hc0:0<cc:=by rw[hcc];exact Nat.lt_min.2 ⟨by omega,by omega⟩
   have hsrc:∀(j:Nat) (v:Value),(C4 cc cc)[j]?=some v->wr.drew.cell? (((af w.heap.size 0):Addr).add j)=some v:=λj v hj=>by
    have h2:((af w.heap.size 0):Addr).add j=(af w.heap.size j):=by simp[Addr.add];exact λe=>e.symm
    rw[h2];have h3:wr.cell? (af w.heap.size j)=_:=A0 hg.out;exact h3.trans (by rw[ia];exact qS hcm hj)
   have aeU:=hid hsrc;have Jy:=hid hcc;clear hsrc hcc;refine tS 7 λK hK=>?_
   refine tM ?_;rw[ay (by rfl)];refine bU (.tmp 41) (.tmp 44) 348 348 rfl 313 Tryz.underlying348 2 aaU w.heap.size (m*2) (n - m) (n - m) (af w.heap.size 0) m n (by rfl) (by rfl) _ _ hg.out (C4 cc cc) cc Jy.out (by rw[J4 (zn cc)]) aeU.out (by rw[J4 (zn cc)];show m*2+cc*2<=(C4 m n).length;rw[J4 hmn];omega) (λv hv=>e7 hv) ?_;intro W3 hW3;refine hK.out _ _ ?_ λhH=>?_
   ·trivial
   clear hK K;refine tL ?_;have hg3:W3.heap[w.heap.size]?=some (.cells (C4 (m+cc) n).toArray 313 (0,0)):=by
    have h2:=setRow_heap wr w.heap.size _ (C4 (m+cc) n).toArray _ _ hg.out;have h3:=YR (m:=m) (n:=n) (c:=cc) Gp;rw[hW3,show(C4 m n).toArray.toList=C4 m n from rfl,h3];exact h2
   have hb3:Below w.heap.size w W3:=by rw[hW3];exact below_setRow hb.out.drew (zn _) _
   have HG3:=hid hg3;have Ap:=hid hb3;clear hW3 hg3 hb3;simp only[goInt];have hwr:IntKind.i64.wrap ((m:Int)+(cc:Int))=(m:Int)+(cc:Int):=by rw[Db];omega
   refine tB 8 hH ?_;refine tB 9 hH ?_;refine tL ?_;refine bq yM ?_ _;clear hH;go_wp2
   go_roundw
   case rel=>exact⟨m+cc,by omega,Gp,by go_num,HG3,Ap⟩
   case measure=>simp[intOf];omega
  ·have ajT:m=n:=by omega
   subst ajT;go_wp2;go_ret;exact⟨w.heap.size,rfl,zn _,hg.out,hb.out⟩
def NF:Nat->Wt:=λ_=>(AJ,0)
def GM (Q:Aq) (cn ct:Nat->Nat->Nat->Wt) (i k q:Nat):Wt:=match Q.zK[q]? with
 |some (some p)=>JY Q cn ct p q i k (k - (i+1))
 |_=>if i=k then(0,0)else(AJ,0)
theorem uI:GE NF:=λ_=>⟨zn _,dh _⟩
theorem pN (Q:Aq) (cn ct:Nat->Nat->Nat->Wt) (i k:Nat):GE (GM Q cn ct i k):=λq=>by
 unfold GM;split
 ·exact bZ ..
 ·split
  ·exact⟨dh _,dh _⟩
  ·exact⟨zn _,dh _⟩
theorem cM (Q:Aq) (cn ct:Nat->Nat->Nat->Wt) (p:Pt) (q i k:Nat):∀{M m:Nat},m<M->Ao (JY Q cn ct p q i k M) (DE Q.T.N Q.row cn ct p q i (i+1+m) k)
 |M+1,m,h=>by
  by_cases e:m=M
  ·subst e;exact bT _ _
  ·exact GU (RF _ _) (cM Q cn ct p q i k (by omega))
theorem bF (Q:Aq) (cn ct:Nat->Nat->Nat->Wt) (p:Pt) (q i k:Nat):∀(M:Nat),JY Q cn ct p q i k M=(AJ,0)\/∃m,m<M/\JY Q cn ct p q i k M=DE Q.T.N Q.row cn ct p q i (i+1+m) k
 |0=>.inl rfl
 |M+1=>by
  rcases SM (JY Q cn ct p q i k M) (DE Q.T.N Q.row cn ct p q i (i+1+M) k)with e |e
  ·rcases bF Q cn ct p q i k M with h | ⟨m,h1,h2⟩
   ·exact .inl (e.trans h)
   ·exact .inr ⟨m,by omega,e.trans h2⟩
  ·exact .inr ⟨M,by omega,e⟩
theorem VO {N:NG}{row:List Nat}{nm ta:Nat->Wt}{p:Pt}{q:Nat} (h1:i<j) (h2:j<k):F3 N row cn ct i k nm ta p q j=DE N row cn ct p q i j k:=by
 unfold F3 DE;have e1:D9 N row (AP cn i k nm) p i j=D9 N row cn p i j:=by
  cases p with
  |tok t=>rfl
  |zi n=>show AP cn i k nm n i j=cn n i j;unfold AP;rw[aq (by omega)]
 have e2:AP ct i k ta (q+1) j k=ct (q+1) j k:=by unfold AP;rw[aq (by omega)]
 rw[e1,e2]
theorem jA  (hk:PF Q.zK) (cn ct:Nat->Nat->Nat->Wt) (i k:Nat):Io Q.T.N (BR Q.zK) (FY Q.hds) Q.row cn ct i k NF (GM Q cn ct i k) where
 Jz:=λq hq=>by
  rcases SJ hk hq with⟨_,h⟩ | ⟨p,ps,h,_⟩
  ·unfold GM;rw[h]
  ·cases h
 cut:=λq p ps j hq h1 h2=>by
  rcases SJ hk hq with⟨h,_⟩ | ⟨p',ps',h,h3⟩
  ·cases h
  ·injection h with h4 _
   subst h4;rw[VO h1 h2];unfold GM;rw[h3];have h5:=cM Q cn ct p q i k (M:=k - (i+1)) (m:=j - (i+1)) (by omega);rw[show i+1+(j - (i+1))=j by omega]at h5;exact h5
 Ny:=λq p ps hq=>by
  rcases SJ hk hq with⟨h,_⟩ | ⟨p',ps',h,h3⟩
  ·cases h
  ·injection h with h4 _
   subst h4;unfold GM;rw[h3]
   rcases bF Q cn ct p q i k (k - (i+1))with h5 | ⟨m,h5,h6⟩
   ·exact .inl h5
   ·refine .inr ⟨i+1+m,by omega,by omega,?_⟩
    rw[VO (by omega) (by omega)];simp only;rw[h6];exact FV _
 Py:=λn _=>.inl rfl
structure Tb (Q:Aq) (w:World) (gi i k:Nat) (cn ct:Nat->Nat->Nat->Wt):Prop where
 Et:Q.gp<gi
 Xs:gi<w.heap.size
 pi:w.cell? (af Q.gp i)=some (ae gi (Q.row.length+1) (Q.row.length+1))
 old:∀a b,i<a->a<=b->b<=Q.row.length->Jn Q w gi a b (λn=>cn n a b)/\Oh Q w gi a b (λq=>ct q a b)
 own:∀b,i<=b->b<k->∃gn gq,gi<gn/\gi<gq/\gn<w.heap.size/\gq<w.heap.size/\w.cell? (af gi (b*2))=some (ae gn Q.T.N.nN Q.T.N.nN)/\w.cell? (af gi (b*2+1))=some (ae gq Q.zK.length Q.zK.length)/\IK w gn Q.T.N.nN (λn=>cn n i b)/\IK w gq Q.zK.length (λq=>ct q i b)
theorem aW  (h:w.cell? (af g j)=some v):∃cs e fr,w.heap[g]?=some (.cells cs e fr):=by
 simp only[World.cell?]at h;cases ho:w.heap[g]? with
 |none=>rw[ho]at h;cases h
 |some o=>
  cases o with
  |cells cs e fr=>exact⟨cs,e,fr,rfl⟩
  |_=>rw[ho]at h;cases h
theorem IK.keeps {S:List Nat} (h:IK w g n f) (hk:A5 w w' S) (hg:g<w.heap.size) (hS:g∉S):IK w' g n f:=λi hi=>⟨(hk.cell Ef hS).trans (h i hi).1,(hk.cell Ef hS).trans (h i hi).2⟩
theorem Jn.mono {B':Nat} (h:Jn Q w B i k f) (hB:B<=B'):Jn Q w B' i k f:=by
 obtain⟨gi,gn,h1,h2,h3⟩:=h;exact⟨gi,gn,by omega,by omega,h3⟩
theorem Oh.mono {B':Nat} (h:Oh Q w B i k f) (hB:B<=B'):Oh Q w B' i k f:=by
 obtain⟨gi,gn,h1,h2,h3⟩:=h;exact⟨gi,gn,by omega,by omega,h3⟩
theorem Tb.kn'  (h:Tb Q w gi i k cn ct) (hk:A5 w w' [gi]) (hB:w.heap.size<=B)
  (ho:∀j,j≠k*2->j≠k*2+1->w'.cell? (af gi j)=w.cell? (af gi j)):Oi Q w' B i k cn ct:=λa b h1 h2 h3=>by
 have hb:Below gi w w':=hk.below (qp h.Xs) (λq hq=>by rw[mS.1 hq];exact zn _);have Mr:=h.Xs;have Qe:=h.Et
 rcases h3 with h3 | ⟨rfl,h3⟩
 ·obtain⟨z1,z2⟩:=h.old a b h3 h1 h2
  exact⟨(z1.below hb h.Et).mono (by omega),(z2.below hb h.Et).mono (by omega)⟩
 ·obtain⟨gn,gq,h4,h5,h6,h7,h8,h9,h10,h11⟩:=h.own b h1 h3
  have hpi:=(hk.cell (p:=(af Q.gp a)) (by show Q.gp<w.heap.size;omega) zG).trans h.pi;exact⟨⟨gi,gn,by omega,by omega,hpi,(ho _ (by omega) (by omega)).trans h8,h10.keeps hk h6 zG⟩,⟨gi,gq,by omega,by omega,hpi,(ho _ (by omega) (by omega)).trans h9,h11.keeps hk h7 zG⟩⟩
theorem pP  (h:w.heap[g]?=some (.cells (C4 n n).toArray 313 (0,0))):IK w g n NF:=λi hi=>by
 rw[A0 h,A0 h,ia,ia];exact OJ hi
theorem Tb.next {gn gq:Nat}{nm ta:Nat->Wt} (h:Tb Q w gi i k cn ct) (hk:A5 w w' [gi]) (hc:EF Q w' B gi gn gq i k nm ta) (hB:gi<B)
  (ho:∀j,j≠k*2->j≠k*2+1->w'.cell? (af gi j)=w.cell? (af gi j)):Tb Q w' gi i (k+1) (AP cn i k nm) (AP ct i k ta) where
 Et:=h.Et
 Xs:=lL h.Xs hk.size
 pi:=hc.pi
 old:=λa b h1 h2 h3=>by
  have hb:Below gi w w':=hk.below (qp h.Xs) (λq hq=>by rw[mS.1 hq];exact zn _);have e1:(λn=>AP cn i k nm n a b)=λn=>cn n a b:=by funext n;unfold AP;rw[aq (by omega)]
  have e2:(λn=>AP ct i k ta n a b)=λn=>ct n a b:=by funext n;unfold AP;rw[aq (by omega)]
  rw[e1,e2];exact⟨(h.old a b h1 h2 h3).1.below hb h.Et,(h.old a b h1 h2 h3).2.below hb h.Et⟩
 own:=λb h1 h2=>by
  by_cases e:b=k
  ·subst e
   have e1:(λn=>AP cn i b nm n i b)=nm:=by funext n;unfold AP;rw[ay ⟨rfl,rfl⟩]
   have e2:(λn=>AP ct i b ta n i b)=ta:=by funext n;unfold AP;rw[ay ⟨rfl,rfl⟩]
   rw[e1,e2];exact⟨gn,gq,by have:=hc.Xm;omega,by have:=hc.Sz;omega,hc.Qh,hc.Ta,hc.pn,hc.pq,hc.Qi,hc.tac⟩
  ·obtain⟨gn',gq',h4,h5,h6,h7,h8,h9,h10,h11⟩:=h.own b h1 (by omega)
   have e1:(λn=>AP cn i k nm n i b)=λn=>cn n i b:=by funext n;unfold AP;rw[aq (by omega)]
   have e2:(λn=>AP ct i k ta n i b)=λn=>ct n i b:=by funext n;unfold AP;rw[aq (by omega)]
   rw[e1,e2];exact⟨gn',gq',h4,h5,lL h6 hk.size,lL h7 hk.size,(ho _ (by omega) (by omega)).trans h8,(ho _ (by omega) (by omega)).trans h9,h10.keeps hk h6 zG,h11.keeps hk h7 zG⟩
theorem YM {W wX:World}{pb gn gq nN nQ:Nat}{a b:Value} (hb:Below W.heap.size W wX) (hp:wX.heap[pb]?=some (.cells #[.slice none 0 0,.slice none 0 0] 351 (0,0))) (hn:wX.heap[gn]?=some (.cells (C4 nN nN).toArray 313 (0,0))) (hq:wX.heap[gq]?=some (.cells (C4 nQ nQ).toArray 313 (0,0))) (hW:W.heap.size<=pb):
  Below W.heap.size W ((wX.setCell (af pb 0) a).setCell (af pb 1) b)/\((wX.setCell (af pb 0) a).setCell (af pb 1) b).heap[pb]?=some (.cells #[a,b] 351 (0,0))/\((wX.setCell (af pb 0) a).setCell (af pb 1) b).heap[gn]?=some (.cells (C4 nN nN).toArray 313 (0,0))/\((wX.setCell (af pb 0) a).setCell (af pb 1) b).heap[gq]?=some (.cells (C4 nQ nQ).toArray 313 (0,0)):=by
 have hk:A5 wX ((wX.setCell (af pb 0) a).setCell (af pb 1) b) [pb]:=((A5.refl wX [pb]).setCell (by simp) _).setCell (by simp) _;refine⟨(hb.setCell hW _).setCell hW _,AA (j:=1) (AA (j:=0) hp a) b,(hk.block gn (ak hn) ?_).trans hn,(hk.block gq (ak hq) ?_).trans hq⟩
 ·simpa using GI hn hp (by decide)
 ·simpa using GI hq hp (by decide)
theorem ahc {P:Prop} (h:P:=by
  exact⟨(hb2.cell (by show Q.wb<w1.heap.size;omega)).trans hH.1,(hb2.cell (by show Q.wb<w1.heap.size;omega)).trans hH.2.1,(hb2.cell (by show Q.T.tb<w1.heap.size;omega)).trans hH.2.2⟩):P:=h
theorem WS  (hQ:Q.In w) (Nu:PF Q.zK)  (hK:Tb Q w gi i k cn ct) (Gp:Hu cn) (hct:Hu ct) (hik:i<=k) (hk:k<=Q.row.length) (Ca:0<Q.zK.length) {C:Array Value} (Mr:w.heap[gi]?=some (.cells C 351 (0,0))) (hC:C.size=(Q.row.length+1)*2):
  Calls Tryz.prog 190 #[ac Q.wb,ab i,ab k] w λe w'=>e=.returned (.tuple #[])/\∃(nm ta:Nat->Wt) (C':Array Value),Tb Q w' gi i (k+1) (AP cn i k nm) (AP ct i k ta)/\GE nm/\GE ta/\ET Q.T.N (BR Q.zK) (FY Q.hds) Q.row (AP cn i k nm) (AP ct i k ta) i k/\A5 w w' [gi]/\w'.heap[gi]?=some (.cells C' 351 (0,0))/\C'.size=C.size:=by
 have c0:w.cell? (af Q.wb 0)=some (ac Q.T.tb):=(A0 hQ.blk).trans rfl;have c3:w.cell? (af Q.wb 3)=some (ae Q.gt Q.zK.length Q.ct):=(A0 hQ.blk).trans rfl;have c5:w.cell? (af Q.wb 5)=some (ae Q.gp (Q.row.length+1) (Q.row.length+1)):=(A0 hQ.blk).trans rfl;obtain⟨_,d1,_⟩:=hQ.tab.tv.Cq;have cpi:=hK.pi;have Cs:=hQ.At;have Va:=hQ.Et;have aa6:=hQ.Og;have ab1:Q.T.tb<w.heap.size:=hQ.tab.bd.tb;have ajU:=hK.Xs;have al9:=hK.Et;have Kh:=hQ.Gi;have Dh:=hQ.Sw;have Qf:=hQ.Sx;have Bi:=hQ.tab.fc.gr.Dm;have Tc:0<Q.T.N.nN:=hQ.tab.fc.gr.ok.pos;have HQ:Hid (∀V,Below Q.gp w V->Q.In V):=hid λV hb=>hQ.below hb
 have HKR:=hid hK;have Xp:=hid Nu;have Dr:Hid (Hu cn/\Hu ct):=hid ⟨Gp,hct⟩;have HG:Hid (w.heap[gi]?=some (.cells C 351 (0,0))/\C.size=(Q.row.length+1)*2):=hid ⟨Mr,hC⟩;obtain⟨nQ,Fq⟩:=qF (Q.zK.length);obtain⟨nN,zT⟩:=qF (Q.T.N.nN);obtain⟨L,hL⟩:=qF (Q.row.length+1);have hiL:i<L:=by omega
 have hkL:k<L:=by omega
 have Fh:L<=101:=by omega
 have Ol:=hid Fq;have Fz:=hid zT;have HL:=hid hL;rw[<-Fq]at c3 Dh Qf Ca;rw[<-zT]at d1 Bi Tc;rw[<-hL]at c5 cpi;clear hQ hK Nu Gp hct Mr hC Fq zT hL
 go_enter Tryz.func190,Tryz.ntmps190
 go_upto_region 1 with fail
 obtain⟨W,hW⟩:=qE (w.alloc (.cells #[ab 1048576,ab 0] 313));have hbW:Below w.heap.size w W:=by rw[<-hW];exact(ah _ w).alloc (zn _) _
 have u0:W.cell? (af w.heap.size 0)=some (ab 1048576):=by rw[<-hW];exact BK w _ _ 0
 have u1:W.cell? (af w.heap.size 1)=some (ab 0):=by rw[<-hW];exact BK w _ _ 1
 have hsW:w.heap.size<W.heap.size:=by rw[<-hW,bh];omega
 rw[hW];clear hW;replace c0:=(hbW.cell (p:=(af Q.wb 0)) Iv).trans c0;replace c3:=(hbW.cell (p:=(af Q.wb 3)) Iv).trans c3;replace c5:=(hbW.cell (p:=(af Q.wb 5)) Iv).trans c5;replace d1:=(hbW.cell (p:=(af Q.T.tb 1)) (by exact ab1)).trans d1;replace cpi:=(hbW.cell (p:=(af Q.gp i)) (by exact Va)).trans cpi;have Jv:=hid hbW;have HRn:Hid (∀V,Below W.heap.size W V->Calls Tryz.prog 216 #[ae w.heap.size 1 1,ab nN] V λe w'=>∃g,e=.returned (ae g nN nN)/\V.heap.size<=g/\w'.heap[g]?=some (.cells (C4 nN nN).toArray 313 (0,0))/\Below V.heap.size V w'):=hid λV hb=>UZ nN w.heap.size 1 Tc (by omega) V ((hb.cell (p:=(af w.heap.size 0)) (by exact hsW)).trans u0) ((hb.cell (p:=(af w.heap.size 1)) (by exact hsW)).trans u1)
 have HRq:Hid (∀V,Below W.heap.size W V->Calls Tryz.prog 216 #[ae w.heap.size 1 1,ab nQ] V λe w'=>∃g,e=.returned (ae g nQ nQ)/\V.heap.size<=g/\w'.heap[g]?=some (.cells (C4 nQ nQ).toArray 313 (0,0))/\Below V.heap.size V w'):=hid λV hb=>UZ nQ w.heap.size 1 Ca (by omega) V ((hb.cell (p:=(af w.heap.size 0)) (by exact hsW)).trans u0) ((hb.cell (p:=(af w.heap.size 1)) (by exact hsW)).trans u1)
 clear hbW u0 u1;have Le:Hid (Below W.heap.size W W.drew):=hid (ah _ W).drew
 go_cut [7] (λs7 wx=>∃(pb gn gq:Nat),s7=ac pb/\Hid (gn≠gq/\W.heap.size<=gn/\W.heap.size<=gq/\W.heap.size<=pb/\Below W.heap.size W wx/\wx.heap[pb]?=some (.cells #[ae gn nN nN,ae gq nQ nQ] 351 (0,0))/\wx.heap[gn]?=some (.cells (C4 nN nN).toArray 313 (0,0))/\wx.heap[gq]?=some (.cells (C4 nQ nQ).toArray 313 (0,0))))
 case first=>
  refine AH (λw'=>w'.cell? (af Q.wb 0)=some (ac Q.T.tb)/\w'.cell? (af Q.wb 3)=some (ae Q.gt nQ Q.ct)/\w'.cell? (af Q.T.tb 1)=some (ae Q.T.gN nN Q.T.yQ)) hmx yM ⟨c0,c3,d1⟩ (λhH=>?_);simp only[AG,BP,AR];refine tB 0 hH ?_;refine tB 1 hH ?_;refine tB 2 hH ?_;refine tB 3 hH ?_;refine tB 4 hH ?_;refine tB 5 hH ?_;refine tB 6 hH ?_;refine tB 7 hH ?_;refine tB 8 hH ?_;refine tB 9 hH ?_;refine tB 10 hH ?_;refine tB 12 hH ?_;refine tB 13 hH ?_;refine tB 14 hH ?_;refine tB 15 hH ?_;refine tB 16 hH ?_;refine tB 17 hH ?_;refine tL ?_;refine wpAnyH_ready (rs:=[11,20]) yM (by simp) ?_;refine xd rfl (λK hK=>?_) (xd rfl (λK hK=>?_) AllReadyH.nil)
  ·refine tM ?_
   go_simp;refine(HRn.out _ Le.out).mono ?_;rintro e w1 ⟨gn,rfl,Td,Xo,hb1⟩;try dsimp only
   refine hK.out _ _ ?_ λhH=>?_
   ·exact⟨(hb1.cell aaE).trans hH.1,(hb1.cell aaE).trans hH.2.1,(hb1.cell adQ).trans hH.2.2⟩
   clear hK K;refine tL ?_;have hs1:W.heap.size<=w1.heap.size:=hb1.size;have aai:gn<w1.heap.size:=ak Xo;have ajV:W.heap.size<=gn:=Td;have zL:Hid (Below W.heap.size W w1):=hid (Le.out.trans hb1);refine wpAnyH_ready (rs:=[18,20]) yM (by simp) ?_;refine xd rfl (λK hK=>?_) (xd rfl (λK hK=>?_) AllReadyH.nil)
   ·refine tM ?_
    go_simp;refine(HRq.out _ zL.out).mono ?_;rintro e w2 ⟨gq,rfl,Vc,Kw,hb2⟩;try dsimp only
    refine hK.out _ _ ?_ λhH=>?_
    ·exact ahc
    clear hK K;refine tL ?_;have hs2:w1.heap.size<=w2.heap.size:=hb2.size;have ac8:gq<w2.heap.size:=ak Kw;have aa7:=(hb2.block gn aai).trans Xo;have zO:Hid (Below W.heap.size W w2):=hid (zL.out.trans (hb2.mono hs1));refine tB 19 hH ?_;refine tL ?_;refine tS 20 λK hK=>?_
    refine tM ?_;go_simp;refine hK.out _ _ ?_ λhH=>?_
    ·exact⟨A6 _ hH.1,A6 _ hH.2.1,A6 _ hH.2.2⟩
    clear hK K;refine tB 21 hH ?_;refine tL ?_;have Sf:(w2.alloc (.cells #[.slice none 0 0,.slice none 0 0] 351)).heap[w2.heap.size]?=some (.cells #[.slice none 0 0,.slice none 0 0] 351 (0,0)):=bg w2 _;refine bq yM ?_ _;clear hH;have p0:=(A0 (j:=0) Sf).trans rfl;have p1:=(A0 (j:=1) Sf).trans rfl;have q0:=A7 (j:=0) Sf;have q1:=A7 (j:=1) Sf;show wpList _ _ _ _ _ _;go_wp2
    go_meet
    exact⟨w2.heap.size,gn,gq,rfl,hid ⟨by omega,by omega,by omega,by omega,zO.out.alloc (by omega) _,bg w2 _,(dw _ _ _ (ak aa7)).trans aa7,(dw _ _ _ ac8).trans Kw⟩⟩
   ·refine tM ?_
    go_simp;refine hK.out _ _ ?_ λhH=>?_
    ·exact⟨A6 _ hH.1,A6 _ hH.2.1,A6 _ hH.2.2⟩
    clear hK K;refine tL ?_;have HBa:Hid (Below W.heap.size W (w1.alloc (.cells #[.slice none 0 0,.slice none 0 0] 351))):=hid (zL.out.alloc hs1 _);have Sf:(w1.alloc (.cells #[.slice none 0 0,.slice none 0 0] 351)).heap[w1.heap.size]?=some (.cells #[.slice none 0 0,.slice none 0 0] 351 (0,0)):=bg w1 _;refine tS 18 λK hK=>?_
    refine tM ?_
    go_simp;refine(HRq.out _ HBa.out).mono ?_;rintro e w2 ⟨gq,rfl,Vc,Kw,hb2⟩;try dsimp only
    refine hK.out _ _ ?_ λhH=>?_
    ·exact⟨(hb2.cell afC).trans hH.1,(hb2.cell afC).trans hH.2.1,(hb2.cell (by show Q.T.tb< (w1.alloc _).heap.size;rw[bh];omega)).trans hH.2.2⟩
    clear hK K;refine tL ?_;have hs2:w1.heap.size+1<=w2.heap.size:=by have:=hb2.size;rw[bh]at this;exact this
    have ama:w1.heap.size+1<=gq:=by have:=Vc;rw[bh]at this;exact this
    have aa7:=(hb2.block gn Kk).trans ((dw _ _ _ aai).trans Xo);have Qk:=(hb2.block w1.heap.size Kk).trans Sf;have zO:Hid (Below W.heap.size W w2):=hid (HBa.out.trans (hb2.mono Kk));refine tB 19 hH ?_;refine tB 21 hH ?_;refine tL ?_;refine bq yM ?_ _;clear hH;have zz:=YM (a:=ae gn nN nN) (b:=ae gq nQ nQ) zO.out Qk aa7 Kw (by omega);have p0:=(A0 (j:=0) Qk).trans rfl;have p1:=(A0 (j:=1) Qk).trans rfl;have q0:=A7 (j:=0) Qk;have q1:=A7 (j:=1) Qk;have HZ:=hid zz;clear zz;show wpList _ _ _ _ _ _;go_wp2
    go_meet
    exact⟨w1.heap.size,gn,gq,rfl,hid ⟨by omega,by omega,by omega,by omega,HZ.out⟩⟩
  ·refine tM ?_
   go_simp;refine hK.out _ _ ?_ λhH=>?_
   ·exact⟨A6 _ hH.1,A6 _ hH.2.1,A6 _ hH.2.2⟩
   clear hK K;refine tL ?_;have HBa:Hid (Below W.heap.size W (W.alloc (.cells #[.slice none 0 0,.slice none 0 0] 351)).drew):=hid ((ah _ W).alloc (zn _) _).drew;have Sf:(W.alloc (.cells #[.slice none 0 0,.slice none 0 0] 351)).drew.heap[W.heap.size]?=some (.cells #[.slice none 0 0,.slice none 0 0] 351 (0,0)):=bg W _;have aaL:(W.alloc (.cells #[.slice none 0 0,.slice none 0 0] 351)).drew.heap.size=W.heap.size+1:=bh ..;refine tS 11 λK hK=>?_
   refine tM ?_
   go_simp;refine(HRn.out _ HBa.out).mono ?_;rintro e w1 ⟨gn,rfl,Td,Xo,hb1⟩;try dsimp only
   refine hK.out _ _ ?_ λhH=>?_
   ·exact⟨(hb1.cell afD).trans hH.1,(hb1.cell afD).trans hH.2.1,(hb1.cell (by show Q.T.tb< (W.alloc _).drew.heap.size;rw[aaL];omega)).trans hH.2.2⟩
   clear hK K;refine tL ?_;have hs1:W.heap.size+1<=w1.heap.size:=by have:=hb1.size;rw[aaL]at this;exact this
   have ajV:W.heap.size+1<=gn:=by have:=Td;rw[aaL]at this;exact this
   have aai:gn<w1.heap.size:=ak Xo;have ajW:=(hb1.block W.heap.size (by rw[aaL];omega)).trans Sf;have zL:Hid (Below W.heap.size W w1):=hid (HBa.out.trans (hb1.mono (by rw[aaL];omega)));refine tS 18 λK hK=>?_
   refine tM ?_
   go_simp;refine(HRq.out _ zL.out).mono ?_;rintro e w2 ⟨gq,rfl,Vc,Kw,hb2⟩;try dsimp only
   refine hK.out _ _ ?_ λhH=>?_
   ·exact ahc
   clear hK K;refine tL ?_;have hs2:w1.heap.size<=w2.heap.size:=hb2.size;have aa7:=(hb2.block gn aai).trans Xo;have Qk:=(hb2.block W.heap.size (by omega)).trans ajW;have zO:Hid (Below W.heap.size W w2):=hid (zL.out.trans (hb2.mono (by omega)));refine tB 19 hH ?_;refine tB 21 hH ?_;refine tL ?_;refine bq yM ?_ _;clear hH;have zz:=YM (a:=ae gn nN nN) (b:=ae gq nQ nQ) zO.out Qk aa7 Kw (zn _);have p0:=(A0 (j:=0) Qk).trans rfl;have p1:=(A0 (j:=1) Qk).trans rfl;have q0:=A7 (j:=0) Qk;have q1:=A7 (j:=1) Qk;have HZ:=hid zz;clear zz;show wpList _ _ _ _ _ _;go_wp2
   go_meet
   exact⟨W.heap.size,gn,gq,rfl,hid ⟨by omega,by omega,by omega,by omega,HZ.out⟩⟩
 case rest=>
  obtain⟨pb,gn,gq,rfl,hx⟩:=hcut;obtain⟨hne,Td,Vc,amb,Ku,adm,aeV,aeW⟩:=hx.out;have amc:=Ku.size;have ab2:Below w.heap.size w wc:=Jv.out.trans (Ku.mono (by omega));have aa8:wc.heap[gi]?=some (.cells C 351 (0,0)):=(ab2.block gi ajU).trans HG.out.1;have hC2:C.size=L*2:=by rw[HG.out.2,HL.out]
  have p0:wc.cell? (af pb 0)=some (ae gn nN nN):=(A0 adm).trans rfl;have p1:wc.cell? (af pb 1)=some (ae gq nQ nQ):=(A0 adm).trans rfl;have c5x:=(ab2.cell (p:=(af Q.wb 5)) Iv).trans ((Jv.out.cell (p:=(af Q.wb 5)) Iv).symm.trans c5);have cpx:=(ab2.cell (p:=(af Q.gp i)) (by exact Va)).trans ((Jv.out.cell (p:=(af Q.gp i)) (by exact Va)).symm.trans cpi);obtain⟨v0,hv0⟩:∃v,wc.cell? (af gi (k*2))=some v:=⟨C[k*2]'(by omega),by rw[A0 aa8];exact jw (by omega)⟩;obtain⟨v1,hv1⟩:∃v,wc.cell? (af gi (k*2+1))=some v:=⟨C[k*2+1]'(by omega),by rw[A0 aa8];exact jw (by omega)⟩;have ajX:=A7 (j:=k*2) aa8;have ajY:=A7 (j:=k*2+1) aa8;have HX:=hid (And.intro ab2 (And.intro aa8 (And.intro aeV aeW)));have amd:gi<wc.heap.size:=by omega
  have ajZ:pb<wc.heap.size:=ak adm;have aai:gn<wc.heap.size:=ak aeV;have ac8:gq<wc.heap.size:=ak aeW;have hpg:pb≠gi:=by omega
  clear Ku ab2 aa8 adm aeV aeW c0 c3 d1 c5 cpi
  go_upto_region 2 with fail
  refine AH (λw'=>w'.cell? (af Q.wb 5)=some (ae Q.gp L L)/\w'.cell? (af Q.gp i)=some (ae gi L L)/\w'.cell? (af pb 0)=some (ae gn nN nN)/\w'.cell? (af pb 1)=some (ae gq nQ nQ)) hmx yM ⟨c5x,cpx,p0,p1⟩ (λhH=>?_);simp only[AG,BP,AR];refine tB 0 hH ?_;refine tB 1 hH ?_;refine tB 2 hH ?_;refine tB 3 hH ?_;refine tB 4 hH ?_;refine tB 5 hH ?_;refine tB 6 hH ?_;refine tB 7 hH ?_;refine tB 8 hH ?_;refine tB 9 hH ?_;refine tB 10 hH ?_;refine tL ?_;refine bq yM ?_ _;clear hH;show wpList _ _ _ _ _ _
  go_upto_region 3 with fail
  have hk4:A5 wc ((wc.setCell (af gi (k*2)) (ae gn nN nN)).setCell (af gi (k*2+1)) (ae gq nQ nQ)).drew [gi]:=(((A5.refl wc [gi]).setCell (by simp) _).setCell (by simp) _).drew;have hh4:((wc.setCell (af gi (k*2)) (ae gn nN nN)).setCell (af gi (k*2+1)) (ae gq nQ nQ)).drew.heap[gi]?=some (.cells ((C.setIfInBounds (k*2) (ae gn nN nN)).setIfInBounds (k*2+1) (ae gq nQ nQ)) 351 (0,0)):=AA (j:=k*2+1) (AA (j:=k*2) HX.out.2.1 _) _;obtain⟨W4,Be⟩:=qE (((wc.setCell (af gi (k*2)) (ae gn nN nN)).setCell (af gi (k*2+1)) (ae gq nQ nQ)).drew);rw[Be]at hk4 hh4 ⊢;clear Be;have ab3:A5 w W4 [gi]:=(A5.zQ HX.out.1 _).trans hk4;have ho4:∀j,j≠k*2->j≠k*2+1->W4.cell? (af gi j)=w.cell? (af gi j):=λj h1 h2=>by
   rw[A0 hh4,A0 HG.out.1,eu (yB h2),eu (yB h1)]
  have ahd:W4.cell? (af Q.gp i)=some (ae gi (Q.row.length+1) (Q.row.length+1)):=(ab3.cell (by exact Va) zG).trans HKR.out.pi;have Fx:wc.heap.size<=W4.heap.size:=hk4.size;have ab4:=(hk4.block gn aai zG).trans HX.out.2.2.1;have ab5:=(hk4.block gq ac8 zG).trans HX.out.2.2.2;have adq:W4.heap[pb]?=some (.cells #[ae gn nN nN,ae gq nQ nQ] 351 (0,0)):=(hk4.block pb ajZ (by simpa using hpg)).trans hx.out.2.2.2.2.2.1;have aeX:W4.cell? (af gi (k*2))=some (ae gn nN nN):=by
   rw[A0 hh4,eu (by omega),rj,ay rfl,ay (by omega)]
  have aeY:W4.cell? (af gi (k*2+1))=some (ae gq nQ nQ):=by
   rw[A0 hh4,rj,ay rfl,ay zG]
  have Iy:Hid (EF Q W4 W.heap.size gi gn gq i k NF NF):=hid (by
   rw[Fz.out]at ab4 aeX;rw[Ol.out]at ab5 aeY;exact⟨ahd,aeX,aeY,by omega,by omega,Td,Vc,hne,by omega,by omega,pP ab4,pP ab5,λj=>A7 ab4,λj=>A7 ab5⟩)
  have Ke:Hid (Oi Q W4 W.heap.size i k cn ct):=hid (HKR.out.kn' ab3 (by omega) ho4);have HQ4:Hid (Q.In W4):=hid (HQ.out W4 (ab3.below (by omega) (λq hq=>by rw[mS.1 hq];omega)));have c3:W4.cell? (af Q.wb 3)=some (ae Q.gt nQ Q.ct):=by rw[Ol.out];exact(A0 HQ4.out.blk).trans rfl
  have HF4:Hid (A5 w W4 [gi]/\(∀j,j≠k*2->j≠k*2+1->W4.cell? (af gi j)=w.cell? (af gi j))/\W4.heap[gi]?=some (.cells ((C.setIfInBounds (k*2) (ae gn nN nN)).setIfInBounds (k*2+1) (ae gq nQ nQ)) 351 (0,0))/\W4.heap[pb]?=some (.cells #[ae gn nN nN,ae gq nQ nQ] 351 (0,0))):=hid ⟨ab3,ho4,hh4,adq⟩;have Te:W.heap.size<=W4.heap.size:=by omega
  have Vd:Q.gp<=W.heap.size:=by omega
  have aj0:pb≠gn:=by
   have h1:=GI ab4 adq (by decide);exact λe=>h1 e.symm
  have aj1:pb≠gq:=by
   have h1:=GI ab5 adq (by decide);exact λe=>h1 e.symm
  have aj2:pb<W4.heap.size:=by omega
  clear hk4 hh4 ab3 ho4 ahd ab4 ab5 adq aeX aeY p0 p1 c5x cpx hv0 hv1 ajX ajY hx;go_wp2
  go_loopw [46] (λz wr=>∃q:Nat,q<=nQ/\z=ab q/\Hid (EF Q wr W.heap.size gi gn gq i k NF (λx=>if x<q then GM Q cn ct i k x else(AJ,0)))/\Hid (A5 W4 wr [gq])) (λz _=>nQ - (intOf z).toNat)
  case atStart=>exact⟨0,dh _,rfl,hid (by
   have e:(λx=>if x<0 then GM Q cn ct i k x else((AJ,0):Wt))=NF:=by funext x;rw[aq (by omega)];rfl
   rw[e];exact Iy.out),hid (A5.refl _ _)⟩
  case round=>
   obtain⟨q,hq,rfl,hcv,zW⟩:=hrel;have hbr:Below W.heap.size W4 wr:=zW.out.below Te (λx hx=>by rw[mS.1 hx];exact Vc)
   by_cases hlt:q<nQ
   ·obtain⟨o,ho⟩:∃o,Q.zK[q]?=some o:=⟨_,gE (by rw[<-Ol.out];exact hlt)⟩
    have Fu:Q.In wr:=HQ4.out.below (hbr.mono Vd);have hstep:∀v,v=GM Q cn ct i k q->BA (λx=>if x<q then GM Q cn ct i k x else((AJ,0):Wt)) q v=λx=>if x<q+1 then GM Q cn ct i k x else(AJ,0):=λv hv=>by
     funext x
     unfold BA
     by_cases e:x=q
     ·rw[ay e,ay (by omega),hv,e]
     ·rw[aq e]
      by_cases e2:x<q
      ·simp only[ay e2,ay (show x<q+1 by omega)]
      ·simp only[aq e2,aq (show ¬x<q+1 by omega)]
    have ads:Hid (Calls Tryz.prog 217 #[ac Q.wb,ab q,ab i,ab k] wr λe w'=>e=.returned (.tuple #[])/\EF Q w' W.heap.size gi gn gq i k NF (λx=>if x<q+1 then GM Q cn ct i k x else(AJ,0))/\A5 wr w' [gq]):=hid (by
     have Ga:W.heap.size<=wr.heap.size:=zV Te hbr.size;cases o with
     |none=>
      have h:=vY Fu hcv.out Ga hik hk ho;simp only[aq (Nat.lt_irrefl q)]at h;rw[hstep _ (by unfold GM;rw[ho])]at h;exact h
     |some p=>
      have h:=qQ Fu hcv.out (Ke.out.below hbr (by omega)) Dr.out.1 Dr.out.2 Ga hik hk ho (MZ Xp.out ho).1 (by simp);rw[hstep _ (by unfold GM;rw[ho])]at h;exact h)
    clear hstep ho Fu hbr
    go_wp2_with (go_at_call 217;refine ads.out.mono ?_;rintro e w5 ⟨rfl,hc5,Ag⟩;have H5:=hid (And.intro hc5 Ag);clear hc5 Ag)
    go_roundw
    case rel=>exact⟨q+1,by omega,by go_num,hid H5.out.1,hid (zW.out.trans H5.out.2)⟩
    case measure=>simp[intOf];omega
   ·have Nb:Hid (EF Q wr W.heap.size gi gn gq i k NF (GM Q cn ct i k)):=hid (by
     have h:=hcv.out;refine⟨h.pi,h.pn,h.pq,h.Qg,h.Qx,h.Xm,h.Sz,h.ne,h.Qh,h.Ta,h.Qi,λx hx=>?_,h.nmf,h.Xn⟩;have h1:=h.tac x hx;simp only[ay (show x<q by have:=Ol.out;omega)]at h1;exact h1)
    have Hq:Hid (A5 W4 wr [gn,gq]):=hid (zW.out.mono (λx hx=>by simp[mS.1 hx]));clear hcv zW hbr;have HM5:=hid (jA Xp.out cn ct i k);have HQB:Hid (∀V,A5 W4 V [gn,gq]->Q.In V/\Oi Q V W.heap.size i k cn ct/\W.heap.size<=V.heap.size):=hid λV hv=>by
     have hb:Below W.heap.size W4 V:=hv.below Te (λx hx=>by
      simp only[bk,ko,su]at hx
      rcases hx with rfl |rfl <;> assumption)
     exact⟨HQ4.out.below (hb.mono Vd),Ke.out.below hb (by omega),zV Te hb.size⟩
    go_wp2
    go_loopg [59] (Hv nN NF) (λg z wr=>∃(nm ta:Nat->Wt),g=Hv nN nm/\Hid (EF Q wr W.heap.size gi gn gq i k nm ta)/\Hid (A5 W4 wr [gn,gq])/\Hid (Io Q.T.N (BR Q.zK) (FY Q.hds) Q.row cn ct i k nm ta)/\Hid (GE nm/\GE ta))
    case atStart=>exact⟨NF,GM Q cn ct i k,rfl,Nb,Hq,HM5,hid ⟨uI,pN Q cn ct i k⟩⟩
    case round=>
     clear Nb Hq HM5;obtain⟨nm,ta,rfl,hcv,zW,Gb,hsm⟩:=hrel;obtain⟨Fu,hKr,Ga⟩:=HQB.out wr zW.out;have Vw:wr.heap[pb]?=some (.cells #[ae gn nN nN,ae gq nQ nQ] 351 (0,0)):=(zW.out.block pb aj2 (by simp;exact⟨aj0,aj1⟩)).trans HF4.out.2.2.2;have p0:wr.cell? (af pb 0)=some (ae gn nN nN):=(A0 Vw).trans rfl;have p1:wr.cell? (af pb 1)=some (ae gq nQ nQ):=(A0 Vw).trans rfl;have HR:=hid (mR Fu Xp.out hcv.out hKr Dr.out.1 Dr.out.2 hsm.out.1 hsm.out.2 Ga hik hk);rw[<-Fz.out,<-Ol.out]at HR;clear Fu hKr Vw
     go_wp2_with (go_at_call 218;refine HR.out.mono ?_;rintro e w5 ⟨low,nm',zZ,rfl,hc5,Ag,Ip,Lj,ht5⟩;have H5:=hid (And.intro hc5 (And.intro Ag (And.intro Ip (And.intro Lj ht5))));clear hc5 Ag Ip Lj ht5;cases low)
     ·go_end0
      obtain⟨hc5,Ag,Ip,Lj,ht5⟩:=H5.out;obtain⟨rfl,hf6,hf7⟩:=Lj (by trivial);have Ek:A5 W4 w5 [gn,gq]:=zW.out.trans Ag;have aj3:=(Ek.block gi (by omega) zG).trans HF4.out.2.2.1;have Rm:A5 w w5 [gi]:=HF4.out.1.trans' Ek (λx hx=>by
       simp only[bk,ko,su]at hx
       rcases hx with rfl |rfl <;> exact .inr (by omega))
      refine⟨rfl,_,zZ,_,HKR.out.next Rm hc5 (by omega) (λj h1 h2=>?_),Ip.sm.1,Ip.sm.2,(Ip.mid Gb.out).done hf6 hf7,Rm,aj3,by simp⟩;exact(Ek.cell (p:=(af gi j)) (by show gi<W4.heap.size;omega) zG).trans (HF4.out.2.1 j h1 h2)
     ·go_roundg (Hv nN nm')
      case measure=>
       exact H5.out.2.2.2.2 (by trivial)
      case rel=>exact⟨nm',zZ,rfl,hid H5.out.1,hid (zW.out.trans H5.out.2.1),hid (H5.out.2.2.1.mid Gb.out),hid H5.out.2.2.1.sm⟩
end Go.Proofs.YtjjggdcnpndgjaaGreatDoor
