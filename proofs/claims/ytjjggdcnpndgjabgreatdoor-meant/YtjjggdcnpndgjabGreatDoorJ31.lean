import Derived.Test.YtjjggdcnpndgjabGreatDoorJ30
import Derived.Test.YtjjggdcnpndgjabGreatDoorShelf3
import Derived.Laws.CopyOwn
set_option linter.unusedSimpArgs false
set_option maxHeartbeats 8000000
set_option maxRecDepth 100000
namespace Go.Proofs.YtjjggdcnpndgjabGreatDoor
open Go.RowKit Go.Shelf
variable {B g gi i j k m n:Nat}{P:Program}{Q:Wts}{cn ct:Nat->Nat->Nat->Wt}{f:Nat->Wt}{v:Value}{w w':World}
theorem Q9  (w:World) (dT sT ty elem:TypeId) (sz g o dLen dCap:Nat) (a:Addr) (sLen sCap:Nat) (cur:Array Value) (t:TypeId) (cs:List Value)
  (hu:P.underlying dT=some (.slice elem)) (hs:(P.info? elem).map (·.size)=some sz)
  (hg:w.heap[g]?=some (.cells cur t (0,0))) (hn:cs.length=Nat.min sLen dLen*sz)
  (hsrc:∀j v,cs[j]?=some v->w.cell? (a.add j)=some v) (hfit:o+cs.length<=cur.size) (h1:∀v∈cs,v.oneCell'=true):
  (Builtin.copy_ #[dT,sT] ty #[.slice (some (af g o)) dLen dCap,.slice (some a) sLen sCap]).run P w=
   .ok (goInt (Nat.min sLen dLen)) (w.setRow g (cur.toList.take o++cs++cur.toList.drop (o+cs.length)).toArray):=by
 have hl:=run_loadCells_list (P:=P) w a cs hsrc;have hst:=run_storeCells_at P g o t cs 0 cur w hg (by simpa using hfit) h1;cases hq:P.info? elem with
 |none=>simp[hq]at hs
 |some i=>
  have hi:i.size=sz:=by simpa[hq] using hs
  simp[Builtin.copy_,run_underlying hu,Builtin.lenOf,Builtin.firstCells,sizeOf,typeInfo,hq,hi,<-hn,hl,hst]
theorem TB {ops:Array Oper}{rest:List Oper}{o:Oper}{a:Act}{Q:Exit->Act->World->Prop} (hgd:o.guard=none) (d s:Operand) (dT sT:TypeId)
  (ho:o.op=.call {callee:=.builtin .copy,args:= #[d,s],argTypes:= #[dT,sT]}) (elem:TypeId) (hu:P.underlying dT=some (.slice elem)) (sz:Nat) (hsz:(P.info? elem).map (·.size)=some sz)
  (g off dLen dCap:Nat) (ad:Addr) (sLen sCap:Nat) (hd:a.eval d=.slice (some (af g off)) dLen dCap) (hs:a.eval s=.slice (some ad) sLen sCap)
  (cur:Array Value) (t:TypeId) (hg:w.heap[g]?=some (.cells cur t (0,0))) (cs:List Value) (k:Nat) (hk:k=Nat.min sLen dLen) (hn:cs.length=k*sz)
  (hsrc:∀j v,cs[j]?=some v->w.cell? (ad.add j)=some v) (hfit:off+cs.length<=cur.size) (h1:∀v∈cs,v.oneCell'=true)
  (h:∀w',w'=w.setRow g (cur.toList.take off++cs++cur.toList.drop (off+cs.length)).toArray->wpList P ops Q rest (a.put o.dst (goInt k)) w'):wpList P ops Q (o::rest) a w:=by
 subst hk;refine wpList_plain hgd fun K hK=>?_
 have hrun:=Q9 (P:=P) w dT sT o.type elem sz g off dLen dCap ad sLen sCap cur t cs hu hsz hg hn hsrc hfit h1;unfold Oper.wp;simp[execOp,ho,resolve,invoke,builtin,hd,hs,hrun,Result.andThen];exact hK _ _ (h _ (by simp))
theorem aJ {o:Oper}{a:Act}{K:Act->World->Prop}{Q:Exit->Act->World->Prop} (d s:Operand) (dT sT:TypeId)
  (ho:o.op=.call {callee:=.builtin .copy,args:= #[d,s],argTypes:= #[dT,sT]}) (elem:TypeId) (hu:P.underlying dT=some (.slice elem)) (sz:Nat) (hsz:(P.info? elem).map (·.size)=some sz)
  (g off dLen dCap:Nat) (ad:Addr) (sLen sCap:Nat) (hd:a.eval d=.slice (some (af g off)) dLen dCap) (hs:a.eval s=.slice (some ad) sLen sCap)
  (cur:Array Value) (t:TypeId) (hg:w.heap[g]?=some (.cells cur t (0,0))) (cs:List Value) (k:Nat) (hk:k=Nat.min sLen dLen) (hn:cs.length=k*sz)
  (hsrc:∀j v,cs[j]?=some v->w.cell? (ad.add j)=some v) (hfit:off+cs.length<=cur.size) (h1:∀v∈cs,v.oneCell'=true)
  (h:∀w',w'=w.setRow g (cur.toList.take off++cs++cur.toList.drop (off+cs.length)).toArray->K (a.put o.dst (goInt k)) w'):o.wp P a w K Q:=by
 subst hk;have hrun:=Q9 (P:=P) w dT sT o.type elem sz g off dLen dCap ad sLen sCap cur t cs hu hsz hg hn hsrc hfit h1;unfold Oper.wp;simp[execOp,ho,resolve,invoke,builtin,hd,hs,hrun,Result.andThen];exact h _ (by simp)
def WC (c:Int):List Value:=[ab c,ab 0]
def BU (m n:Nat):List Value:=(List.replicate m (1048576:Int)++List.replicate (n - m) (0:Int)).flatMap WC
theorem TN (l:List Int):(l.flatMap WC).length=l.length*2:=by
 induction l with
 |nil=>rfl
 |cons a r ih=>rw[List.flatMap_cons,lA,ih];simp[WC];omega
theorem IH  (h:m<=n):(BU m n).length=n*2:=by unfold BU;rw[TN];simp;omega
theorem OS  (h:i<m):(BU m n)[i*2]?=some (ab 1048576)/\(BU m n)[i*2+1]?=some (ab 0):=by
 have hi:(List.replicate m (1048576:Int)++List.replicate (n - m) (0:Int))[i]?=some 1048576:=by
  rw[aL y20Z,List.getElem?_replicate,if_pos h]
 unfold BU;exact⟨RZ WC (fun _=>rfl) _ i _ 0 hi (by omega),RZ WC (fun _=>rfl) _ i _ 1 hi (by omega)⟩
theorem YC {c:Nat} (h:m+c<=n):(BU m n).take (m*2)++BU c c++(BU m n).drop (m*2+(BU c c).length)=BU (m+c) n:=by
 have e:∀a b:List Int,(a++b).flatMap WC=a.flatMap WC++b.flatMap WC:=fun a b=>List.flatMap_append
 have e1:BU m n=(List.replicate m (1048576:Int)).flatMap WC++((List.replicate c (0:Int)).flatMap WC++(List.replicate (n - (m+c)) (0:Int)).flatMap WC):=by
  unfold BU;rw[show n - m=c+(n - (m+c)) by omega,<-List.replicate_append_replicate,e,e]
 have e2:BU c c=(List.replicate c (1048576:Int)).flatMap WC:=by
  unfold BU;rw[Nat.sub_self,List.replicate_zero,List.append_nil]
 have e3:BU (m+c) n=(List.replicate m (1048576:Int)).flatMap WC++(List.replicate c (1048576:Int)).flatMap WC++(List.replicate (n - (m+c)) (0:Int)).flatMap WC:=by
  unfold BU;rw[<-e,<-e,List.replicate_append_replicate]
 have hl1:((List.replicate m (1048576:Int)).flatMap WC).length=m*2:=by rw[TN];simp
 have hl2:((List.replicate c (0:Int)).flatMap WC).length=c*2:=by rw[TN];simp
 rw[IH (lR_ c),e1,e2,e3,List.take_left' hl1,List.drop_append,List.drop_of_length_le (by omega),hl1,List.nil_append,show m*2+c*2 - m*2=c*2 by omega,List.drop_left' hl2]
theorem d7  (h:v∈BU m n):v.oneCell'=true:=by
 unfold BU at h;obtain⟨c,_,h⟩:=List.mem_flatMap.1 h;simp[WC]at h
 rcases h with rfl |rfl <;> rfl
theorem rO {c:Nat} (h:c<=m)  (hj:(BU c c)[j]?=some v):(BU m n)[j]?=some v:=by
 have hjl:=(gS_.1 hj).1;rw[IH (lR_ c)]at hjl
 rcases Nat.mod_two_eq_zero_or_one j with e |e
 ·obtain⟨i,rfl⟩:∃i,j=i*2:=⟨j / 2,by omega⟩
  rw[(OS (by omega)).1]at hj ⊢;exact hj
 ·obtain⟨i,rfl⟩:∃i,j=i*2+1:=⟨j / 2,by omega⟩
  rw[(OS (by omega)).2]at hj ⊢;exact hj
theorem U4 (n b c:Nat) (hn:0<n) (hn2:n<=1000) (w:World) (h0:w.cell? (af b 0)=some (ab 1048576)) (h1:w.cell? (af b 1)=some (ab 0)):
  Calls Tryz.prog 106 #[ae b 1 c,ab n] w fun e w'=>∃g,e=.returned (ae g n n)/\w.heap.size<=g/\w'.heap[g]?=some (.cells (BU n n).toArray 175 (0,0))/\Below w.heap.size w w':=by
 obtain⟨iW,hiW,hzW0,hzW1,hzW2⟩:=info_parts (P:=Tryz.prog) (e:=175) (z:=.agg #[ab 0,ab 0]) (size:=2) (bytes:=16) y1Z;have hbl:b<w.heap.size:=World.block_lt_of_cell? _ _ h0;have HM:Hid (∀W,Calls Tryz.prog 125 #[.int .u64 (1:Nat),.int .u64 n] W fun e w'=>e=.returned (.tuple #[.int .u64 (0:Nat),.int .u64 n])/\W=w'):=hid fun W=>by
  refine(Tryz.bits_Mul 1 n (by omega) (by omega) W).mono ?_;rintro e w' ⟨rfl,rfl⟩;refine⟨?_,rfl⟩;rw[Nat.one_mul,Nat.div_eq_of_lt (by omega),Nat.mod_eq_of_lt (by omega)]
 have hng:¬((n:Int)<0):=by omega
 have hng2:¬((n:Int)>9223372036854775807):=by omega
 go_enter Tryz.func106,Tryz.ntmps106
 go_upto_region 7 with(first
  | (go_at_call 125;refine(HM.out _).mono ?_;rintro e w1 ⟨rfl,rfl⟩)
  | (at_make;refine M8 _ rfl _ _ 207 rfl 175 iW (.agg #[ab 0,ab 0]) Tryz.underlying207 hiW hzW0 _ _ n rfl rfl rfl rfl (by rw[hzW2];omega) (by omega) ?_;rw[hzW1]))
 have hmade:madeCells #[ab 0,ab 0] (n*2)=(BU 0 n).toArray:=by
  have h2:=NF 2 (by omega) WC (fun _=>rfl) (0:Int) n;have h3:BU 0 n=(List.replicate n (0:Int)).flatMap WC:=by unfold BU;simp
  rw[h3,<-h2];rfl
 simp only[hmade];obtain⟨W1,hW1⟩:=qE (w.alloc (.cells (BU 0 n).toArray 175));have hg1:W1.heap[w.heap.size]?=some (.cells (BU 0 n).toArray 175 (0,0)):=by rw[<-hW1];exact World.alloc_heap_new w _
 have hb1:Below w.heap.size w W1:=by rw[<-hW1];exact(Below.refl _ w).alloc (lR_ _) _
 rw[hW1];have HG1:=hid hg1;have HB1:=hid hb1;have h01:=(hb1.cell (p:=(af b 0)) (by exact hbl)).trans h0;have h11:=(hb1.cell (p:=(af b 1)) (by exact hbl)).trans h1;have hsrc:∀(j:Nat) (v:Value),(BU 1 1)[j]?=some v->W1.cell? (((af b 0):Addr).add j)=some v:=fun j v hj=>by
  have h2:((af b 0):Addr).add j=(af b j):=by simp[Addr.add];exact fun e=>e.symm
  rw[h2];have hjl:=(gS_.1 hj).1;rw[IH (lR_ 1)]at hjl
  match j with
  |0=>rw[show(0:Nat)=0*2 from rfl,(OS (by omega)).1]at hj;injection hj with hj;rw[<-hj];exact h01
  |1=>rw[show(1:Nat)=0*2+1 from rfl,(OS (by omega)).2]at hj;injection hj with hj;rw[<-hj];exact h11
  |j+2=>omega
 have HSrc:=hid hsrc;have hsz1:(Tryz.prog.info? 175).map (·.size)=some 2:=by rw[hiW];simp[hzW1]
 clear hW1 hg1 hb1 hmade h01 h11 hsrc h0 h1;refine wp_region_lit ?_
 iterate 6 go_step
 refine TB rfl (.tmp 31) (.tmp 32) 207 207 rfl 175 Tryz.underlying207 2 hsz1 w.heap.size 0 n n (af b 0) 1 c (by rfl) (by rfl) _ _ HG1.out (BU 1 1) 1 (by show 1=min 1 n;omega) (by rw[IH (lR_ 1)]) HSrc.out (by rw[IH (lR_ 1)];show 0+1*2<=(BU 0 n).length;rw[IH (Nat.zero_le n)];omega) (fun v hv=>d7 hv) ?_;intro W2 hW2;have HG2:Hid (W2.heap[w.heap.size]?=some (.cells (BU 1 n).toArray 175 (0,0))):=hid (by
  have h2:=setRow_heap W1 w.heap.size _ (BU 1 n).toArray _ _ HG1.out;have h3:=YC (m:=0) (n:=n) (c:=1) (by omega);rw[Nat.zero_mul,Nat.zero_add,Nat.zero_add]at h3;rw[hW2,Nat.zero_add,show(BU 0 n).toArray.toList=BU 0 n from rfl,h3];exact h2)
 have HB2:Hid (Below w.heap.size w W2):=hid (by rw[hW2];exact below_setRow HB1.out (lR_ _) _);clear hW2;go_wp2
 go_loopw [8] (fun z wr=>∃m:Nat,1<=m/\m<=n/\z=ab m/\Hid (wr.heap[w.heap.size]?=some (.cells (BU m n).toArray 175 (0,0)))/\Hid (Below w.heap.size w wr)) (fun z _=>n - (intOf z).toNat)
 case atStart=>exact⟨1,lR_ _,hn,rfl,HG2,HB2⟩
 case round=>
  obtain⟨m,hm1,hmn,rfl,hg,hb⟩:=hrel
  by_cases hlt:m<n
  ·have hne:¬n=m:=by omega
   have hne2:¬m=n:=by omega
   go_upto_region 9 with fail
   refine wp_region_held_drew (S:=fun _=>True) y1Z trivial (fun hH=>?_);refine tB 0 hH ?_;refine tB 1 hH ?_;refine tB 2 hH ?_;refine tB 3 hH ?_;refine tB 4 hH ?_;refine tB 5 hH ?_;refine tB 6 hH ?_;refine tL ?_;obtain⟨cc,hcc⟩:=qF (Nat.min m (n - m));have hcm:cc<=m:=by rw[hcc];exact Nat.min_le_left _ _
   have hcn:m+cc<=n:=by have:cc<=n - m:=(by rw[hcc];exact Nat.min_le_right _ _);omega
   have hc0:0<cc:=by rw[hcc];exact Nat.lt_min.2 ⟨by omega,by omega⟩
   have hsrc:∀(j:Nat) (v:Value),(BU cc cc)[j]?=some v->wr.drew.cell? (((af w.heap.size 0):Addr).add j)=some v:=fun j v hj=>by
    have h2:((af w.heap.size 0):Addr).add j=(af w.heap.size j):=by simp[Addr.add];exact fun e=>e.symm
    rw[h2];have h3:wr.cell? (af w.heap.size j)=_:=A0 hg.out;exact h3.trans (by rw[List.getElem?_toArray];exact rO hcm hj)
   have HSrc:=hid hsrc;have HCC:=hid hcc;clear hsrc hcc;refine tS 7 fun K hK=>?_
   refine tM ?_;rw[if_pos (by rfl)];refine aJ (.tmp 41) (.tmp 44) 207 207 rfl 175 Tryz.underlying207 2 hsz1 w.heap.size (m*2) (n - m) (n - m) (af w.heap.size 0) m n (by rfl) (by rfl) _ _ hg.out (BU cc cc) cc HCC.out (by rw[IH (lR_ cc)]) HSrc.out (by rw[IH (lR_ cc)];show m*2+cc*2<=(BU m n).length;rw[IH hmn];omega) (fun v hv=>d7 hv) ?_;intro W3 hW3;refine hK.out _ _ ?_ fun hH=>?_
   ·trivial
   clear hK K;refine tL ?_;have hg3:W3.heap[w.heap.size]?=some (.cells (BU (m+cc) n).toArray 175 (0,0)):=by
    have h2:=setRow_heap wr w.heap.size _ (BU (m+cc) n).toArray _ _ hg.out;have h3:=YC (m:=m) (n:=n) (c:=cc) hcn;rw[hW3,show(BU m n).toArray.toList=BU m n from rfl,h3];exact h2
   have hb3:Below w.heap.size w W3:=by rw[hW3];exact below_setRow hb.out.drew (lR_ _) _
   have HG3:=hid hg3;have HB3:=hid hb3;clear hW3 hg3 hb3;simp only[goInt];have hwr:IntKind.i64.wrap ((m:Int)+(cc:Int))=(m:Int)+(cc:Int):=by rw[w64];omega
   refine tB 8 hH ?_;refine tB 9 hH ?_;refine tL ?_;refine wpAnyH_done y1Z ?_ _;clear hH;go_wp2
   go_roundw
   case rel=>exact⟨m+cc,by omega,hcn,by go_num,HG3,HB3⟩
   case measure=>simp[intOf];omega
  ·have hmn':m=n:=by omega
   subst hmn';go_wp2;go_ret;exact⟨w.heap.size,rfl,lR_ _,hg.out,hb.out⟩
def N8:Nat->Wt:=fun _=>(AB,0)
def GB (Q:Wts) (cn ct:Nat->Nat->Nat->Wt) (i k q:Nat):Wt:=match Q.tls[q]? with
 |some (some p)=>JM Q cn ct p q i k (k - (i+1))
 |_=>if i=k then(0,0)else(AB,0)
theorem sK:FX N8:=fun _=>⟨lR_ _,Nat.zero_le _⟩
theorem o0 (Q:Wts) (cn ct:Nat->Nat->Nat->Wt) (i k:Nat):FX (GB Q cn ct i k):=fun q=>by
 unfold GB;split
 ·exact bC ..
 ·split
  ·exact⟨Nat.zero_le _,Nat.zero_le _⟩
  ·exact⟨lR_ _,Nat.zero_le _⟩
theorem aM (Q:Wts) (cn ct:Nat->Nat->Nat->Wt) (p:Pt) (q i k:Nat):∀{M m:Nat},m<M->wle (JM Q cn ct p q i k M) (D3 Q.T.N Q.row cn ct p q i (i+1+m) k)
 |M+1,m,h=>by
  by_cases e:m=M
  ·subst e;exact bM _ _
  ·exact GF (RM _ _) (aM Q cn ct p q i k (by omega))
theorem cQ (Q:Wts) (cn ct:Nat->Nat->Nat->Wt) (p:Pt) (q i k:Nat):∀(M:Nat),JM Q cn ct p q i k M=(AB,0)\/∃m,m<M/\JM Q cn ct p q i k M=D3 Q.T.N Q.row cn ct p q i (i+1+m) k
 |0=>.inl rfl
 |M+1=>by
  rcases RV (JM Q cn ct p q i k M) (D3 Q.T.N Q.row cn ct p q i (i+1+M) k)with e |e
  ·rcases cQ Q cn ct p q i k M with h | ⟨m,h1,h2⟩
   ·exact .inl (e.trans h)
   ·exact .inr ⟨m,by omega,e.trans h2⟩
  ·exact .inr ⟨M,by omega,e⟩
theorem US {N:NG}{row:List Nat}{nm ta:Nat->Wt}{p:Pt}{q:Nat} (h1:i<j) (h2:j<k):EQ N row cn ct i k nm ta p q j=D3 N row cn ct p q i j k:=by
 unfold EQ D3;have e1:CZ N row (AK cn i k nm) p i j=CZ N row cn p i j:=by
  cases p with
  |tok t=>rfl
  |nam n=>show AK cn i k nm n i j=cn n i j;unfold AK;rw[if_neg (by omega)]
 have e2:AK ct i k ta (q+1) j k=ct (q+1) j k:=by unfold AK;rw[if_neg (by omega)]
 rw[e1,e2]
theorem kC  (hk:PH Q.tls) (cn ct:Nat->Nat->Nat->Wt) (i k:Nat):Mid Q.T.N (BK Q.tls) (FI Q.hds) Q.row cn ct i k N8 (GB Q cn ct i k) where
 nul:=fun q hq=>by
  rcases RW hk hq with⟨_,h⟩ | ⟨p,ps,h,_⟩
  ·unfold GB;rw[h]
  ·cases h
 cut:=fun q p ps j hq h1 h2=>by
  rcases RW hk hq with⟨h,_⟩ | ⟨p',ps',h,h3⟩
  ·cases h
  ·injection h with h4 _
   subst h4;rw[US h1 h2];unfold GB;rw[h3];have h5:=aM Q cn ct p q i k (M:=k - (i+1)) (m:=j - (i+1)) (by omega);rw[show i+1+(j - (i+1))=j by omega]at h5;exact h5
 cutA:=fun q p ps hq=>by
  rcases RW hk hq with⟨h,_⟩ | ⟨p',ps',h,h3⟩
  ·cases h
  ·injection h with h4 _
   subst h4;unfold GB;rw[h3]
   rcases cQ Q cn ct p q i k (k - (i+1))with h5 | ⟨m,h5,h6⟩
   ·exact .inl h5
   ·refine .inr ⟨i+1+m,by omega,by omega,?_⟩
    rw[US (by omega) (by omega)];simp only;rw[h6];exact FL _
 namA:=fun n _=>.inl rfl
structure KnR (Q:Wts) (w:World) (gi i k:Nat) (cn ct:Nat->Nat->Nat->Wt):Prop where
 gpl:Q.gp<gi
 gil:gi<w.heap.size
 pi:w.cell? (af Q.gp i)=some (ae gi (Q.row.length+1) (Q.row.length+1))
 old:∀a b,i<a->a<=b->b<=Q.row.length->NmV Q w gi a b (fun n=>cn n a b)/\TlV Q w gi a b (fun q=>ct q a b)
 own:∀b,i<=b->b<k->∃gn gq,gi<gn/\gi<gq/\gn<w.heap.size/\gq<w.heap.size/\w.cell? (af gi (b*2))=some (ae gn Q.T.N.nN Q.T.N.nN)/\w.cell? (af gi (b*2+1))=some (ae gq Q.tls.length Q.tls.length)/\GZ w gn Q.T.N.nN (fun n=>cn n i b)/\GZ w gq Q.tls.length (fun q=>ct q i b)
theorem ZQ  (h:w.cell? (af g j)=some v):∃cs e fr,w.heap[g]?=some (.cells cs e fr):=by
 simp only[World.cell?]at h;cases ho:w.heap[g]? with
 |none=>rw[ho]at h;cases h
 |some o=>
  cases o with
  |cells cs e fr=>exact⟨cs,e,fr,rfl⟩
  |_=>rw[ho]at h;cases h
theorem GZ.keeps {S:List Nat} (h:GZ w g n f) (hk:A1 w w' S) (hg:g<w.heap.size) (hS:g∉S):GZ w' g n f:=fun i hi=>⟨(hk.cell y12Z hS).trans (h i hi).1,(hk.cell y12Z hS).trans (h i hi).2⟩
theorem NmV.mono {B':Nat} (h:NmV Q w B i k f) (hB:B<=B'):NmV Q w B' i k f:=by
 obtain⟨gi,gn,h1,h2,h3⟩:=h;exact⟨gi,gn,by omega,by omega,h3⟩
theorem TlV.mono {B':Nat} (h:TlV Q w B i k f) (hB:B<=B'):TlV Q w B' i k f:=by
 obtain⟨gi,gn,h1,h2,h3⟩:=h;exact⟨gi,gn,by omega,by omega,h3⟩
theorem KnR.kn'  (h:KnR Q w gi i k cn ct) (hk:A1 w w' [gi]) (hB:w.heap.size<=B)
  (ho:∀j,j≠k*2->j≠k*2+1->w'.cell? (af gi j)=w.cell? (af gi j)):KnP Q w' B i k cn ct:=fun a b h1 h2 h3=>by
 have hb:Below gi w w':=hk.below (Nat.le_of_lt h.gil) (fun q hq=>by rw[mS.1 hq];exact lR_ _);have hgi:=h.gil;have hgp:=h.gpl
 rcases h3 with h3 | ⟨rfl,h3⟩
 ·obtain⟨z1,z2⟩:=h.old a b h3 h1 h2
  exact⟨(z1.below hb h.gpl).mono (by omega),(z2.below hb h.gpl).mono (by omega)⟩
 ·obtain⟨gn,gq,h4,h5,h6,h7,h8,h9,h10,h11⟩:=h.own b h1 h3
  have hpi:=(hk.cell (p:=(af Q.gp a)) (by show Q.gp<w.heap.size;omega) y2Z).trans h.pi;exact⟨⟨gi,gn,by omega,by omega,hpi,(ho _ (by omega) (by omega)).trans h8,h10.keeps hk h6 y2Z⟩,⟨gi,gq,by omega,by omega,hpi,(ho _ (by omega) (by omega)).trans h9,h11.keeps hk h7 y2Z⟩⟩
theorem o1  (h:w.heap[g]?=some (.cells (BU n n).toArray 175 (0,0))):GZ w g n N8:=fun i hi=>by
 rw[A0 h,A0 h,List.getElem?_toArray,List.getElem?_toArray];exact OS hi
theorem KnR.next {gn gq:Nat}{nm ta:Nat->Wt} (h:KnR Q w gi i k cn ct) (hk:A1 w w' [gi]) (hc:E5 Q w' B gi gn gq i k nm ta) (hB:gi<B)
  (ho:∀j,j≠k*2->j≠k*2+1->w'.cell? (af gi j)=w.cell? (af gi j)):KnR Q w' gi i (k+1) (AK cn i k nm) (AK ct i k ta) where
 gpl:=h.gpl
 gil:=lL h.gil hk.size
 pi:=hc.pi
 old:=fun a b h1 h2 h3=>by
  have hb:Below gi w w':=hk.below (Nat.le_of_lt h.gil) (fun q hq=>by rw[mS.1 hq];exact lR_ _);have e1:(fun n=>AK cn i k nm n a b)=fun n=>cn n a b:=by funext n;unfold AK;rw[if_neg (by omega)]
  have e2:(fun n=>AK ct i k ta n a b)=fun n=>ct n a b:=by funext n;unfold AK;rw[if_neg (by omega)]
  rw[e1,e2];exact⟨(h.old a b h1 h2 h3).1.below hb h.gpl,(h.old a b h1 h2 h3).2.below hb h.gpl⟩
 own:=fun b h1 h2=>by
  by_cases e:b=k
  ·subst e
   have e1:(fun n=>AK cn i b nm n i b)=nm:=by funext n;unfold AK;rw[if_pos ⟨rfl,rfl⟩]
   have e2:(fun n=>AK ct i b ta n i b)=ta:=by funext n;unfold AK;rw[if_pos ⟨rfl,rfl⟩]
   rw[e1,e2];exact⟨gn,gq,by have:=hc.gnB;omega,by have:=hc.gqB;omega,hc.gnl,hc.gql,hc.pn,hc.pq,hc.nmc,hc.tac⟩
  ·obtain⟨gn',gq',h4,h5,h6,h7,h8,h9,h10,h11⟩:=h.own b h1 (by omega)
   have e1:(fun n=>AK cn i k nm n i b)=fun n=>cn n i b:=by funext n;unfold AK;rw[if_neg (by omega)]
   have e2:(fun n=>AK ct i k ta n i b)=fun n=>ct n i b:=by funext n;unfold AK;rw[if_neg (by omega)]
   rw[e1,e2];exact⟨gn',gq',h4,h5,lL h6 hk.size,lL h7 hk.size,(ho _ (by omega) (by omega)).trans h8,(ho _ (by omega) (by omega)).trans h9,h10.keeps hk h6 y2Z,h11.keeps hk h7 y2Z⟩
theorem YA {W wX:World}{pb gn gq nN nQ:Nat}{a b:Value} (hb:Below W.heap.size W wX) (hp:wX.heap[pb]?=some (.cells #[.slice none 0 0,.slice none 0 0] 210 (0,0))) (hn:wX.heap[gn]?=some (.cells (BU nN nN).toArray 175 (0,0))) (hq:wX.heap[gq]?=some (.cells (BU nQ nQ).toArray 175 (0,0))) (hW:W.heap.size<=pb):
  Below W.heap.size W ((wX.setCell (af pb 0) a).setCell (af pb 1) b)/\((wX.setCell (af pb 0) a).setCell (af pb 1) b).heap[pb]?=some (.cells #[a,b] 210 (0,0))/\((wX.setCell (af pb 0) a).setCell (af pb 1) b).heap[gn]?=some (.cells (BU nN nN).toArray 175 (0,0))/\((wX.setCell (af pb 0) a).setCell (af pb 1) b).heap[gq]?=some (.cells (BU nQ nQ).toArray 175 (0,0)):=by
 have hk:A1 wX ((wX.setCell (af pb 0) a).setCell (af pb 1) b) [pb]:=((A1.refl wX [pb]).setCell (by simp) _).setCell (by simp) _;refine⟨(hb.setCell hW _).setCell hW _,A5 (j:=1) (A5 (j:=0) hp a) b,(hk.block gn (lt_of_block hn) ?_).trans hn,(hk.block gq (lt_of_block hq) ?_).trans hq⟩
 ·simpa using FY hn hp (by decide)
 ·simpa using FY hq hp (by decide)
theorem Mz33 {P:Prop} (h:P:=by
  exact⟨(hb2.cell (by show Q.wb<w1.heap.size;omega)).trans hH.1,(hb2.cell (by show Q.wb<w1.heap.size;omega)).trans hH.2.1,(hb2.cell (by show Q.T.tb<w1.heap.size;omega)).trans hH.2.2⟩):P:=h
theorem WU  (hQ:Q.In w) (hTl:PH Q.tls)  (hK:KnR Q w gi i k cn ct) (hcn:WSm cn) (hct:WSm ct) (hik:i<=k) (hk:k<=Q.row.length) (hpt:0<Q.tls.length) {C:Array Value} (hgi:w.heap[gi]?=some (.cells C 210 (0,0))) (hC:C.size=(Q.row.length+1)*2):
  Calls Tryz.prog 80 #[ac Q.wb,ab i,ab k] w fun e w'=>e=.returned (.tuple #[])/\∃(nm ta:Nat->Wt) (C':Array Value),KnR Q w' gi i (k+1) (AK cn i k nm) (AK ct i k ta)/\FX nm/\FX ta/\EG Q.T.N (BK Q.tls) (FI Q.hds) Q.row (AK cn i k nm) (AK ct i k ta) i k/\A1 w w' [gi]/\w'.heap[gi]?=some (.cells C' 210 (0,0))/\C'.size=C.size:=by
 have c0:w.cell? (af Q.wb 0)=some (ac Q.T.tb):=(A0 hQ.blk).trans rfl;have c3:w.cell? (af Q.wb 3)=some (ae Q.gt Q.tls.length Q.ct):=(A0 hQ.blk).trans rfl;have c5:w.cell? (af Q.wb 5)=some (ae Q.gp (Q.row.length+1) (Q.row.length+1)):=(A0 hQ.blk).trans rfl;obtain⟨_,d1,_⟩:=hQ.tab.tv.heads;have cpi:=hK.pi;have hwl:=hQ.wlt;have hgpl:=hQ.gpl;have hwbl:=hQ.wbl;have htbl:Q.T.tb<w.heap.size:=hQ.tab.bd.tb;have hgil:=hK.gil;have hgpgi:=hK.gpl;have hr100:=hQ.r40;have htl:=hQ.tl20;have htc:=hQ.tlc2;have hn20:=hQ.tab.fc.gr.leN;have hN0:0<Q.T.N.nN:=hQ.tab.fc.gr.ok.pos;have HQ:Hid (∀V,Below Q.gp w V->Q.In V):=hid fun V hb=>hQ.below hb
 have HKR:=hid hK;have HTl:=hid hTl;have HCS:Hid (WSm cn/\WSm ct):=hid ⟨hcn,hct⟩;have HG:Hid (w.heap[gi]?=some (.cells C 210 (0,0))/\C.size=(Q.row.length+1)*2):=hid ⟨hgi,hC⟩;obtain⟨nQ,hnQ⟩:=qF (Q.tls.length);obtain⟨nN,hnN⟩:=qF (Q.T.N.nN);obtain⟨L,hL⟩:=qF (Q.row.length+1);have hiL:i<L:=by omega
 have hkL:k<L:=by omega
 have hL1:L<=101:=by omega
 have HNQ:=hid hnQ;have HNN:=hid hnN;have HL:=hid hL;rw[<-hnQ]at c3 htl htc hpt;rw[<-hnN]at d1 hn20 hN0;rw[<-hL]at c5 cpi;clear hQ hK hTl hcn hct hgi hC hnQ hnN hL
 go_enter Tryz.func80,Tryz.ntmps80
 go_upto_region 1 with fail
 obtain⟨W,hW⟩:=qE (w.alloc (.cells #[ab 1048576,ab 0] 175));have hbW:Below w.heap.size w W:=by rw[<-hW];exact(Below.refl _ w).alloc (lR_ _) _
 have u0:W.cell? (af w.heap.size 0)=some (ab 1048576):=by rw[<-hW];exact BG w _ _ 0
 have u1:W.cell? (af w.heap.size 1)=some (ab 0):=by rw[<-hW];exact BG w _ _ 1
 have hsW:w.heap.size<W.heap.size:=by rw[<-hW,World.size_alloc];omega
 rw[hW];clear hW;replace c0:=(hbW.cell (p:=(af Q.wb 0)) y19Z).trans c0;replace c3:=(hbW.cell (p:=(af Q.wb 3)) y19Z).trans c3;replace c5:=(hbW.cell (p:=(af Q.wb 5)) y19Z).trans c5;replace d1:=(hbW.cell (p:=(af Q.T.tb 1)) (by exact htbl)).trans d1;replace cpi:=(hbW.cell (p:=(af Q.gp i)) (by exact hgpl)).trans cpi;have HBW:=hid hbW;have HRn:Hid (∀V,Below W.heap.size W V->Calls Tryz.prog 106 #[ae w.heap.size 1 1,ab nN] V fun e w'=>∃g,e=.returned (ae g nN nN)/\V.heap.size<=g/\w'.heap[g]?=some (.cells (BU nN nN).toArray 175 (0,0))/\Below V.heap.size V w'):=hid fun V hb=>U4 nN w.heap.size 1 hN0 (by omega) V ((hb.cell (p:=(af w.heap.size 0)) (by exact hsW)).trans u0) ((hb.cell (p:=(af w.heap.size 1)) (by exact hsW)).trans u1)
 have HRq:Hid (∀V,Below W.heap.size W V->Calls Tryz.prog 106 #[ae w.heap.size 1 1,ab nQ] V fun e w'=>∃g,e=.returned (ae g nQ nQ)/\V.heap.size<=g/\w'.heap[g]?=some (.cells (BU nQ nQ).toArray 175 (0,0))/\Below V.heap.size V w'):=hid fun V hb=>U4 nQ w.heap.size 1 hpt (by omega) V ((hb.cell (p:=(af w.heap.size 0)) (by exact hsW)).trans u0) ((hb.cell (p:=(af w.heap.size 1)) (by exact hsW)).trans u1)
 clear hbW u0 u1;have HWd:Hid (Below W.heap.size W W.drew):=hid (Below.refl _ W).drew
 go_cut [7] (fun s7 wx=>∃(pb gn gq:Nat),s7=ac pb/\Hid (gn≠gq/\W.heap.size<=gn/\W.heap.size<=gq/\W.heap.size<=pb/\Below W.heap.size W wx/\wx.heap[pb]?=some (.cells #[ae gn nN nN,ae gq nQ nQ] 210 (0,0))/\wx.heap[gn]?=some (.cells (BU nN nN).toArray 175 (0,0))/\wx.heap[gq]?=some (.cells (BU nQ nQ).toArray 175 (0,0))))
 case first=>
  refine AE (fun w'=>w'.cell? (af Q.wb 0)=some (ac Q.T.tb)/\w'.cell? (af Q.wb 3)=some (ae Q.gt nQ Q.ct)/\w'.cell? (af Q.T.tb 1)=some (ae Q.T.gN nN Q.T.capN)) hmx y1Z ⟨c0,c3,d1⟩ (fun hH=>?_);simp only[AC,BM,AO];refine tB 0 hH ?_;refine tB 1 hH ?_;refine tB 2 hH ?_;refine tB 3 hH ?_;refine tB 4 hH ?_;refine tB 5 hH ?_;refine tB 6 hH ?_;refine tB 7 hH ?_;refine tB 8 hH ?_;refine tB 9 hH ?_;refine tB 10 hH ?_;refine tB 12 hH ?_;refine tB 13 hH ?_;refine tB 14 hH ?_;refine tB 15 hH ?_;refine tB 16 hH ?_;refine tB 17 hH ?_;refine tL ?_;refine wpAnyH_ready (rs:=[11,20]) y1Z (by simp) ?_;refine AllReadyH.cons rfl (fun K hK=>?_) (AllReadyH.cons rfl (fun K hK=>?_) AllReadyH.nil)
  ·refine tM ?_
   go_simp;refine(HRn.out _ HWd.out).mono ?_;rintro e w1 ⟨gn,rfl,hgn,hgnB,hb1⟩;try dsimp only
   refine hK.out _ _ ?_ fun hH=>?_
   ·exact⟨(hb1.cell y25Z).trans hH.1,(hb1.cell y25Z).trans hH.2.1,(hb1.cell y65Z).trans hH.2.2⟩
   clear hK K;refine tL ?_;have hs1:W.heap.size<=w1.heap.size:=hb1.size;have hgnl:gn<w1.heap.size:=lt_of_block hgnB;have hgn':W.heap.size<=gn:=hgn;have HB1:Hid (Below W.heap.size W w1):=hid (HWd.out.trans hb1);refine wpAnyH_ready (rs:=[18,20]) y1Z (by simp) ?_;refine AllReadyH.cons rfl (fun K hK=>?_) (AllReadyH.cons rfl (fun K hK=>?_) AllReadyH.nil)
   ·refine tM ?_
    go_simp;refine(HRq.out _ HB1.out).mono ?_;rintro e w2 ⟨gq,rfl,hgq,hgqB,hb2⟩;try dsimp only
    refine hK.out _ _ ?_ fun hH=>?_
    ·exact Mz33
    clear hK K;refine tL ?_;have hs2:w1.heap.size<=w2.heap.size:=hb2.size;have hgql:gq<w2.heap.size:=lt_of_block hgqB;have hgnB2:=(hb2.block gn hgnl).trans hgnB;have HB2:Hid (Below W.heap.size W w2):=hid (HB1.out.trans (hb2.mono hs1));refine tB 19 hH ?_;refine tL ?_;refine tS 20 fun K hK=>?_
    refine tM ?_;go_simp;refine hK.out _ _ ?_ fun hH=>?_
    ·exact⟨A2 _ hH.1,A2 _ hH.2.1,A2 _ hH.2.2⟩
    clear hK K;refine tB 21 hH ?_;refine tL ?_;have hpb:(w2.alloc (.cells #[.slice none 0 0,.slice none 0 0] 210)).heap[w2.heap.size]?=some (.cells #[.slice none 0 0,.slice none 0 0] 210 (0,0)):=World.alloc_heap_new w2 _;refine wpAnyH_done y1Z ?_ _;clear hH;have p0:=(A0 (j:=0) hpb).trans rfl;have p1:=(A0 (j:=1) hpb).trans rfl;have q0:=A3 (j:=0) hpb;have q1:=A3 (j:=1) hpb;show wpList _ _ _ _ _ _;go_wp2
    go_meet
    exact⟨w2.heap.size,gn,gq,rfl,hid ⟨by omega,by omega,by omega,by omega,HB2.out.alloc (by omega) _,World.alloc_heap_new w2 _,(Below.heap_alloc _ _ _ (lt_of_block hgnB2)).trans hgnB2,(Below.heap_alloc _ _ _ hgql).trans hgqB⟩⟩
   ·refine tM ?_
    go_simp;refine hK.out _ _ ?_ fun hH=>?_
    ·exact⟨A2 _ hH.1,A2 _ hH.2.1,A2 _ hH.2.2⟩
    clear hK K;refine tL ?_;have HBa:Hid (Below W.heap.size W (w1.alloc (.cells #[.slice none 0 0,.slice none 0 0] 210))):=hid (HB1.out.alloc hs1 _);have hpb:(w1.alloc (.cells #[.slice none 0 0,.slice none 0 0] 210)).heap[w1.heap.size]?=some (.cells #[.slice none 0 0,.slice none 0 0] 210 (0,0)):=World.alloc_heap_new w1 _;refine tS 18 fun K hK=>?_
    refine tM ?_
    go_simp;refine(HRq.out _ HBa.out).mono ?_;rintro e w2 ⟨gq,rfl,hgq,hgqB,hb2⟩;try dsimp only
    refine hK.out _ _ ?_ fun hH=>?_
    ·exact⟨(hb2.cell y46Z).trans hH.1,(hb2.cell y46Z).trans hH.2.1,(hb2.cell (by show Q.T.tb< (w1.alloc _).heap.size;rw[World.size_alloc];omega)).trans hH.2.2⟩
    clear hK K;refine tL ?_;have hs2:w1.heap.size+1<=w2.heap.size:=by have:=hb2.size;rw[World.size_alloc]at this;exact this
    have hgq':w1.heap.size+1<=gq:=by have:=hgq;rw[World.size_alloc]at this;exact this
    have hgnB2:=(hb2.block gn y5Z).trans ((Below.heap_alloc _ _ _ hgnl).trans hgnB);have hpb2:=(hb2.block w1.heap.size y5Z).trans hpb;have HB2:Hid (Below W.heap.size W w2):=hid (HBa.out.trans (hb2.mono y5Z));refine tB 19 hH ?_;refine tB 21 hH ?_;refine tL ?_;refine wpAnyH_done y1Z ?_ _;clear hH;have zz:=YA (a:=ae gn nN nN) (b:=ae gq nQ nQ) HB2.out hpb2 hgnB2 hgqB (by omega);have p0:=(A0 (j:=0) hpb2).trans rfl;have p1:=(A0 (j:=1) hpb2).trans rfl;have q0:=A3 (j:=0) hpb2;have q1:=A3 (j:=1) hpb2;have HZ:=hid zz;clear zz;show wpList _ _ _ _ _ _;go_wp2
    go_meet
    exact⟨w1.heap.size,gn,gq,rfl,hid ⟨by omega,by omega,by omega,by omega,HZ.out⟩⟩
  ·refine tM ?_
   go_simp;refine hK.out _ _ ?_ fun hH=>?_
   ·exact⟨A2 _ hH.1,A2 _ hH.2.1,A2 _ hH.2.2⟩
   clear hK K;refine tL ?_;have HBa:Hid (Below W.heap.size W (W.alloc (.cells #[.slice none 0 0,.slice none 0 0] 210)).drew):=hid ((Below.refl _ W).alloc (lR_ _) _).drew;have hpb:(W.alloc (.cells #[.slice none 0 0,.slice none 0 0] 210)).drew.heap[W.heap.size]?=some (.cells #[.slice none 0 0,.slice none 0 0] 210 (0,0)):=World.alloc_heap_new W _;have hszA:(W.alloc (.cells #[.slice none 0 0,.slice none 0 0] 210)).drew.heap.size=W.heap.size+1:=World.size_alloc ..;refine tS 11 fun K hK=>?_
   refine tM ?_
   go_simp;refine(HRn.out _ HBa.out).mono ?_;rintro e w1 ⟨gn,rfl,hgn,hgnB,hb1⟩;try dsimp only
   refine hK.out _ _ ?_ fun hH=>?_
   ·exact⟨(hb1.cell y60Z).trans hH.1,(hb1.cell y60Z).trans hH.2.1,(hb1.cell (by show Q.T.tb< (W.alloc _).drew.heap.size;rw[hszA];omega)).trans hH.2.2⟩
   clear hK K;refine tL ?_;have hs1:W.heap.size+1<=w1.heap.size:=by have:=hb1.size;rw[hszA]at this;exact this
   have hgn':W.heap.size+1<=gn:=by have:=hgn;rw[hszA]at this;exact this
   have hgnl:gn<w1.heap.size:=lt_of_block hgnB;have hpb1:=(hb1.block W.heap.size (by rw[hszA];omega)).trans hpb;have HB1:Hid (Below W.heap.size W w1):=hid (HBa.out.trans (hb1.mono (by rw[hszA];omega)));refine tS 18 fun K hK=>?_
   refine tM ?_
   go_simp;refine(HRq.out _ HB1.out).mono ?_;rintro e w2 ⟨gq,rfl,hgq,hgqB,hb2⟩;try dsimp only
   refine hK.out _ _ ?_ fun hH=>?_
   ·exact Mz33
   clear hK K;refine tL ?_;have hs2:w1.heap.size<=w2.heap.size:=hb2.size;have hgnB2:=(hb2.block gn hgnl).trans hgnB;have hpb2:=(hb2.block W.heap.size (by omega)).trans hpb1;have HB2:Hid (Below W.heap.size W w2):=hid (HB1.out.trans (hb2.mono (by omega)));refine tB 19 hH ?_;refine tB 21 hH ?_;refine tL ?_;refine wpAnyH_done y1Z ?_ _;clear hH;have zz:=YA (a:=ae gn nN nN) (b:=ae gq nQ nQ) HB2.out hpb2 hgnB2 hgqB (lR_ _);have p0:=(A0 (j:=0) hpb2).trans rfl;have p1:=(A0 (j:=1) hpb2).trans rfl;have q0:=A3 (j:=0) hpb2;have q1:=A3 (j:=1) hpb2;have HZ:=hid zz;clear zz;show wpList _ _ _ _ _ _;go_wp2
   go_meet
   exact⟨W.heap.size,gn,gq,rfl,hid ⟨by omega,by omega,by omega,by omega,HZ.out⟩⟩
 case rest=>
  obtain⟨pb,gn,gq,rfl,hx⟩:=hcut;obtain⟨hne,hgn,hgq,hpbW,hbx,hpbx,hgnx,hgqx⟩:=hx.out;have hszx:=hbx.size;have hbwx:Below w.heap.size w wc:=HBW.out.trans (hbx.mono (by omega));have hgiX:wc.heap[gi]?=some (.cells C 210 (0,0)):=(hbwx.block gi hgil).trans HG.out.1;have hC2:C.size=L*2:=by rw[HG.out.2,HL.out]
  have p0:wc.cell? (af pb 0)=some (ae gn nN nN):=(A0 hpbx).trans rfl;have p1:wc.cell? (af pb 1)=some (ae gq nQ nQ):=(A0 hpbx).trans rfl;have c5x:=(hbwx.cell (p:=(af Q.wb 5)) y19Z).trans ((HBW.out.cell (p:=(af Q.wb 5)) y19Z).symm.trans c5);have cpx:=(hbwx.cell (p:=(af Q.gp i)) (by exact hgpl)).trans ((HBW.out.cell (p:=(af Q.gp i)) (by exact hgpl)).symm.trans cpi);obtain⟨v0,hv0⟩:∃v,wc.cell? (af gi (k*2))=some v:=⟨C[k*2]'(by omega),by rw[A0 hgiX];exact Array.getElem?_eq_getElem (by omega)⟩;obtain⟨v1,hv1⟩:∃v,wc.cell? (af gi (k*2+1))=some v:=⟨C[k*2+1]'(by omega),by rw[A0 hgiX];exact Array.getElem?_eq_getElem (by omega)⟩;have hfz0:=A3 (j:=k*2) hgiX;have hfz1:=A3 (j:=k*2+1) hgiX;have HX:=hid (And.intro hbwx (And.intro hgiX (And.intro hgnx hgqx)));have hgix:gi<wc.heap.size:=by omega
  have hpbl:pb<wc.heap.size:=lt_of_block hpbx;have hgnl:gn<wc.heap.size:=lt_of_block hgnx;have hgql:gq<wc.heap.size:=lt_of_block hgqx;have hpg:pb≠gi:=by omega
  clear hbx hbwx hgiX hpbx hgnx hgqx c0 c3 d1 c5 cpi
  go_upto_region 2 with fail
  refine AE (fun w'=>w'.cell? (af Q.wb 5)=some (ae Q.gp L L)/\w'.cell? (af Q.gp i)=some (ae gi L L)/\w'.cell? (af pb 0)=some (ae gn nN nN)/\w'.cell? (af pb 1)=some (ae gq nQ nQ)) hmx y1Z ⟨c5x,cpx,p0,p1⟩ (fun hH=>?_);simp only[AC,BM,AO];refine tB 0 hH ?_;refine tB 1 hH ?_;refine tB 2 hH ?_;refine tB 3 hH ?_;refine tB 4 hH ?_;refine tB 5 hH ?_;refine tB 6 hH ?_;refine tB 7 hH ?_;refine tB 8 hH ?_;refine tB 9 hH ?_;refine tB 10 hH ?_;refine tL ?_;refine wpAnyH_done y1Z ?_ _;clear hH;show wpList _ _ _ _ _ _
  go_upto_region 3 with fail
  have hk4:A1 wc ((wc.setCell (af gi (k*2)) (ae gn nN nN)).setCell (af gi (k*2+1)) (ae gq nQ nQ)).drew [gi]:=(((A1.refl wc [gi]).setCell (by simp) _).setCell (by simp) _).drew;have hh4:((wc.setCell (af gi (k*2)) (ae gn nN nN)).setCell (af gi (k*2+1)) (ae gq nQ nQ)).drew.heap[gi]?=some (.cells ((C.setIfInBounds (k*2) (ae gn nN nN)).setIfInBounds (k*2+1) (ae gq nQ nQ)) 210 (0,0)):=A5 (j:=k*2+1) (A5 (j:=k*2) HX.out.2.1 _) _;obtain⟨W4,hW4⟩:=qE (((wc.setCell (af gi (k*2)) (ae gn nN nN)).setCell (af gi (k*2+1)) (ae gq nQ nQ)).drew);rw[hW4]at hk4 hh4 ⊢;clear hW4;have hkw4:A1 w W4 [gi]:=(A1.of_below HX.out.1 _).trans hk4;have ho4:∀j,j≠k*2->j≠k*2+1->W4.cell? (af gi j)=w.cell? (af gi j):=fun j h1 h2=>by
   rw[A0 hh4,A0 HG.out.1,Array.getElem?_setIfInBounds_ne (Ne.symm h2),Array.getElem?_setIfInBounds_ne (Ne.symm h1)]
  have hpi4:W4.cell? (af Q.gp i)=some (ae gi (Q.row.length+1) (Q.row.length+1)):=(hkw4.cell (by exact hgpl) y2Z).trans HKR.out.pi;have hs4:wc.heap.size<=W4.heap.size:=hk4.size;have hgn4:=(hk4.block gn hgnl y2Z).trans HX.out.2.2.1;have hgq4:=(hk4.block gq hgql y2Z).trans HX.out.2.2.2;have hpb4:W4.heap[pb]?=some (.cells #[ae gn nN nN,ae gq nQ nQ] 210 (0,0)):=(hk4.block pb hpbl (by simpa using hpg)).trans hx.out.2.2.2.2.2.1;have hpn4:W4.cell? (af gi (k*2))=some (ae gn nN nN):=by
   rw[A0 hh4,Array.getElem?_setIfInBounds_ne (by omega),Array.getElem?_setIfInBounds,if_pos rfl,if_pos (by omega)]
  have hpq4:W4.cell? (af gi (k*2+1))=some (ae gq nQ nQ):=by
   rw[A0 hh4,Array.getElem?_setIfInBounds,if_pos rfl,if_pos y2Z]
  have HC4:Hid (E5 Q W4 W.heap.size gi gn gq i k N8 N8):=hid (by
   rw[HNN.out]at hgn4 hpn4;rw[HNQ.out]at hgq4 hpq4;exact⟨hpi4,hpn4,hpq4,by omega,by omega,hgn,hgq,hne,by omega,by omega,o1 hgn4,o1 hgq4,fun j=>A3 hgn4,fun j=>A3 hgq4⟩)
  have HK4:Hid (KnP Q W4 W.heap.size i k cn ct):=hid (HKR.out.kn' hkw4 (by omega) ho4);have HQ4:Hid (Q.In W4):=hid (HQ.out W4 (hkw4.below (by omega) (fun q hq=>by rw[mS.1 hq];omega)));have c3:W4.cell? (af Q.wb 3)=some (ae Q.gt nQ Q.ct):=by rw[HNQ.out];exact(A0 HQ4.out.blk).trans rfl
  have HF4:Hid (A1 w W4 [gi]/\(∀j,j≠k*2->j≠k*2+1->W4.cell? (af gi j)=w.cell? (af gi j))/\W4.heap[gi]?=some (.cells ((C.setIfInBounds (k*2) (ae gn nN nN)).setIfInBounds (k*2+1) (ae gq nQ nQ)) 210 (0,0))/\W4.heap[pb]?=some (.cells #[ae gn nN nN,ae gq nQ nQ] 210 (0,0))):=hid ⟨hkw4,ho4,hh4,hpb4⟩;have hwB:W.heap.size<=W4.heap.size:=by omega
  have hgpB:Q.gp<=W.heap.size:=by omega
  have hpbn:pb≠gn:=by
   have h1:=FY hgn4 hpb4 (by decide);exact fun e=>h1 e.symm
  have hpbq:pb≠gq:=by
   have h1:=FY hgq4 hpb4 (by decide);exact fun e=>h1 e.symm
  have hpb4l:pb<W4.heap.size:=by omega
  clear hk4 hh4 hkw4 ho4 hpi4 hgn4 hgq4 hpb4 hpn4 hpq4 p0 p1 c5x cpx hv0 hv1 hfz0 hfz1 hx;go_wp2
  go_loopw [46] (fun z wr=>∃q:Nat,q<=nQ/\z=ab q/\Hid (E5 Q wr W.heap.size gi gn gq i k N8 (fun x=>if x<q then GB Q cn ct i k x else(AB,0)))/\Hid (A1 W4 wr [gq])) (fun z _=>nQ - (intOf z).toNat)
  case atStart=>exact⟨0,Nat.zero_le _,rfl,hid (by
   have e:(fun x=>if x<0 then GB Q cn ct i k x else((AB,0):Wt))=N8:=by funext x;rw[if_neg (by omega)];rfl
   rw[e];exact HC4.out),hid (A1.refl _ _)⟩
  case round=>
   obtain⟨q,hq,rfl,hcv,hkw⟩:=hrel;have hbr:Below W.heap.size W4 wr:=hkw.out.below hwB (fun x hx=>by rw[mS.1 hx];exact hgq)
   by_cases hlt:q<nQ
   ·obtain⟨o,ho⟩:∃o,Q.tls[q]?=some o:=⟨_,gE (by rw[<-HNQ.out];exact hlt)⟩
    have hQr:Q.In wr:=HQ4.out.below (hbr.mono hgpB);have hstep:∀v,v=GB Q cn ct i k q->AZ (fun x=>if x<q then GB Q cn ct i k x else((AB,0):Wt)) q v=fun x=>if x<q+1 then GB Q cn ct i k x else(AB,0):=fun v hv=>by
     funext x
     unfold AZ
     by_cases e:x=q
     ·rw[if_pos e,if_pos (by omega),hv,e]
     ·rw[if_neg e]
      by_cases e2:x<q
      ·simp only[if_pos e2,if_pos (show x<q+1 by omega)]
      ·simp only[if_neg e2,if_neg (show ¬x<q+1 by omega)]
    have HCut:Hid (Calls Tryz.prog 107 #[ac Q.wb,ab q,ab i,ab k] wr fun e w'=>e=.returned (.tuple #[])/\E5 Q w' W.heap.size gi gn gq i k N8 (fun x=>if x<q+1 then GB Q cn ct i k x else(AB,0))/\A1 wr w' [gq]):=hid (by
     have hBr:W.heap.size<=wr.heap.size:=lT_ hwB hbr.size;cases o with
     |none=>
      have h:=tF hQr hcv.out hBr hik hk ho;simp only[if_neg (Nat.lt_irrefl q)]at h;rw[hstep _ (by unfold GB;rw[ho])]at h;exact h
     |some p=>
      have h:=pF hQr hcv.out (HK4.out.below hbr (by omega)) HCS.out.1 HCS.out.2 hBr hik hk ho (MR HTl.out ho).1 (by simp);rw[hstep _ (by unfold GB;rw[ho])]at h;exact h)
    clear hstep ho hQr hbr
    go_wp2_with (go_at_call 107;refine HCut.out.mono ?_;rintro e w5 ⟨rfl,hc5,hk5⟩;have H5:=hid (And.intro hc5 hk5);clear hc5 hk5)
    go_roundw
    case rel=>exact⟨q+1,by omega,by go_num,hid H5.out.1,hid (hkw.out.trans H5.out.2)⟩
    case measure=>simp[intOf];omega
   ·have HC5:Hid (E5 Q wr W.heap.size gi gn gq i k N8 (GB Q cn ct i k)):=hid (by
     have h:=hcv.out;refine⟨h.pi,h.pn,h.pq,h.gpB,h.giB,h.gnB,h.gqB,h.ne,h.gnl,h.gql,h.nmc,fun x hx=>?_,h.nmf,h.taf⟩;have h1:=h.tac x hx;simp only[if_pos (show x<q by have:=HNQ.out;omega)]at h1;exact h1)
    have HK5:Hid (A1 W4 wr [gn,gq]):=hid (hkw.out.mono (fun x hx=>by simp[mS.1 hx]));clear hcv hkw hbr;have HM5:=hid (kC HTl.out cn ct i k);have HQB:Hid (∀V,A1 W4 V [gn,gq]->Q.In V/\KnP Q V W.heap.size i k cn ct/\W.heap.size<=V.heap.size):=hid fun V hv=>by
     have hb:Below W.heap.size W4 V:=hv.below hwB (fun x hx=>by
      simp only[List.mem_cons,List.not_mem_nil,or_false]at hx
      rcases hx with rfl |rfl <;> assumption)
     exact⟨HQ4.out.below (hb.mono hgpB),HK4.out.below hb (by omega),lT_ hwB hb.size⟩
    go_wp2
    go_loopg [59] (muN nN N8) (fun g z wr=>∃(nm ta:Nat->Wt),g=muN nN nm/\Hid (E5 Q wr W.heap.size gi gn gq i k nm ta)/\Hid (A1 W4 wr [gn,gq])/\Hid (Mid Q.T.N (BK Q.tls) (FI Q.hds) Q.row cn ct i k nm ta)/\Hid (FX nm/\FX ta))
    case atStart=>exact⟨N8,GB Q cn ct i k,rfl,HC5,HK5,HM5,hid ⟨sK,o0 Q cn ct i k⟩⟩
    case round=>
     clear HC5 HK5 HM5;obtain⟨nm,ta,rfl,hcv,hkw,hmd,hsm⟩:=hrel;obtain⟨hQr,hKr,hBr⟩:=HQB.out wr hkw.out;have hpr:wr.heap[pb]?=some (.cells #[ae gn nN nN,ae gq nQ nQ] 210 (0,0)):=(hkw.out.block pb hpb4l (by simp;exact⟨hpbn,hpbq⟩)).trans HF4.out.2.2.2;have p0:wr.cell? (af pb 0)=some (ae gn nN nN):=(A0 hpr).trans rfl;have p1:wr.cell? (af pb 1)=some (ae gq nQ nQ):=(A0 hpr).trans rfl;have HR:=hid (oR hQr HTl.out hcv.out hKr HCS.out.1 HCS.out.2 hsm.out.1 hsm.out.2 hBr hik hk);rw[<-HNN.out,<-HNQ.out]at HR;clear hQr hKr hpr
     go_wp2_with (go_at_call 108;refine HR.out.mono ?_;rintro e w5 ⟨low,nm',ta',rfl,hc5,hk5,hr5,hf5,ht5⟩;have H5:=hid (And.intro hc5 (And.intro hk5 (And.intro hr5 (And.intro hf5 ht5))));clear hc5 hk5 hr5 hf5 ht5;cases low)
     ·go_end0
      obtain⟨hc5,hk5,hr5,hf5,ht5⟩:=H5.out;obtain⟨rfl,hf6,hf7⟩:=hf5 (by trivial);have hk9:A1 W4 w5 [gn,gq]:=hkw.out.trans hk5;have hgi9:=(hk9.block gi (by omega) y2Z).trans HF4.out.2.2.1;have hkW:A1 w w5 [gi]:=HF4.out.1.trans' hk9 (fun x hx=>by
       simp only[List.mem_cons,List.not_mem_nil,or_false]at hx
       rcases hx with rfl |rfl <;> exact .inr (by omega))
      refine⟨rfl,_,ta',_,HKR.out.next hkW hc5 (by omega) (fun j h1 h2=>?_),hr5.sm.1,hr5.sm.2,(hr5.mid hmd.out).done hf6 hf7,hkW,hgi9,by simp⟩;exact(hk9.cell (p:=(af gi j)) (by show gi<W4.heap.size;omega) y2Z).trans (HF4.out.2.1 j h1 h2)
     ·go_roundg (muN nN nm')
      case measure=>
       exact H5.out.2.2.2.2 (by trivial)
      case rel=>exact⟨nm',ta',rfl,hid H5.out.1,hid (hkw.out.trans H5.out.2.1),hid (H5.out.2.2.1.mid hmd.out),hid H5.out.2.2.1.sm⟩
end Go.Proofs.YtjjggdcnpndgjabGreatDoor
