import Derived.Test.YtjjggdcnpndgjaaGreatDoorJ30
import Derived.Test.YtjjggdcnpndgjaaGreatDoorShelf3
import Derived.Laws.CopyOwn
set_option linter.unusedSimpArgs false
set_option maxHeartbeats 4000000
set_option maxRecDepth 100000
namespace Go.Proofs.YtjjggdcnpndgjaaGreatDoor
open Go.RowKit Go.Shelf
variable {B g i j k m n:Nat}{P:Program}{Q:Wts}{cn ct:Nat->Nat->Nat->Wt}{f:Nat->Wt}{v:Value}{w w':World}
theorem QC  (w:World) (dT sT ty elem:TypeId) (sz g o dLen dCap:Nat) (a:Addr) (sLen sCap:Nat) (cur:Array Value) (t:TypeId) (cs:List Value)
  (hu:P.underlying dT=some (.slice elem)) (hs:(P.info? elem).map (·.size)=some sz)
  (hg:w.heap[g]?=some (.cells cur t (0,0))) (hn:cs.length=Nat.min sLen dLen*sz)
  (hsrc:∀j v,cs[j]?=some v->w.cell? (a.add j)=some v) (hfit:o+cs.length<=cur.size) (h1:∀v∈cs,v.oneCell'=true):
  (Builtin.copy_ #[dT,sT] ty #[.slice (some (af g o)) dLen dCap,.slice (some a) sLen sCap]).run P w=
   .ok (goInt (Nat.min sLen dLen)) (w.setRow g (cur.toList.take o++cs++cur.toList.drop (o+cs.length)).toArray):=by
 have hl:=run_loadCells_list (P:=P) w a cs hsrc;have hst:=run_storeCells_at P g o t cs 0 cur w hg (by simpa using hfit) h1;cases hq:P.info? elem with
 |none=>simp[hq]at hs
 |some i=>
  have hi:i.size=sz:=by simpa[hq] using hs
  simp[Builtin.copy_,run_underlying hu,Builtin.lenOf,Builtin.firstCells,sizeOf,typeInfo,hq,hi,<-hn,hl,hst]
theorem TT {ops:Array Oper}{rest:List Oper}{o:Oper}{a:Act}{Q:Exit->Act->World->Prop} (hgd:o.guard=none) (d s:Operand) (dT sT:TypeId)
  (ho:o.op=.call {callee:=.builtin .copy,args:= #[d,s],argTypes:= #[dT,sT]}) (elem:TypeId) (hu:P.underlying dT=some (.slice elem)) (sz:Nat) (hsz:(P.info? elem).map (·.size)=some sz)
  (g off dLen dCap:Nat) (ad:Addr) (sLen sCap:Nat) (hd:a.eval d=.slice (some (af g off)) dLen dCap) (hs:a.eval s=.slice (some ad) sLen sCap)
  (cur:Array Value) (t:TypeId) (hg:w.heap[g]?=some (.cells cur t (0,0))) (cs:List Value) (k:Nat) (hk:k=Nat.min sLen dLen) (hn:cs.length=k*sz)
  (hsrc:∀j v,cs[j]?=some v->w.cell? (ad.add j)=some v) (hfit:off+cs.length<=cur.size) (h1:∀v∈cs,v.oneCell'=true)
  (h:∀w',w'=w.setRow g (cur.toList.take off++cs++cur.toList.drop (off+cs.length)).toArray->wpList P ops Q rest (a.put o.dst (goInt k)) w'):wpList P ops Q (o::rest) a w:=by
 subst hk;refine wpList_plain hgd fun K hK=>?_
 have hrun:=QC (P:=P) w dT sT o.type elem sz g off dLen dCap ad sLen sCap cur t cs hu hsz hg hn hsrc hfit h1;unfold Oper.wp;simp[execOp,ho,resolve,invoke,builtin,hd,hs,hrun,Result.andThen];exact hK _ _ (h _ (by simp))
theorem b9 {o:Oper}{a:Act}{K:Act->World->Prop}{Q:Exit->Act->World->Prop} (d s:Operand) (dT sT:TypeId)
  (ho:o.op=.call {callee:=.builtin .copy,args:= #[d,s],argTypes:= #[dT,sT]}) (elem:TypeId) (hu:P.underlying dT=some (.slice elem)) (sz:Nat) (hsz:(P.info? elem).map (·.size)=some sz)
  (g off dLen dCap:Nat) (ad:Addr) (sLen sCap:Nat) (hd:a.eval d=.slice (some (af g off)) dLen dCap) (hs:a.eval s=.slice (some ad) sLen sCap)
  (cur:Array Value) (t:TypeId) (hg:w.heap[g]?=some (.cells cur t (0,0))) (cs:List Value) (k:Nat) (hk:k=Nat.min sLen dLen) (hn:cs.length=k*sz)
  (hsrc:∀j v,cs[j]?=some v->w.cell? (ad.add j)=some v) (hfit:off+cs.length<=cur.size) (h1:∀v∈cs,v.oneCell'=true)
  (h:∀w',w'=w.setRow g (cur.toList.take off++cs++cur.toList.drop (off+cs.length)).toArray->K (a.put o.dst (goInt k)) w'):o.wp P a w K Q:=by
 subst hk;have hrun:=QC (P:=P) w dT sT o.type elem sz g off dLen dCap ad sLen sCap cur t cs hu hsz hg hn hsrc hfit h1;unfold Oper.wp;simp[execOp,ho,resolve,invoke,builtin,hd,hs,hrun,Result.andThen];exact h _ (by simp)
def WC (c:Int):List Value:=[ab c,ab 0]
def BW (m n:Nat):List Value:=(List.replicate m (1048576:Int)++List.replicate (n - m) (0:Int)).flatMap WC
theorem TS (l:List Int):(l.flatMap WC).length=l.length*2:=by
 induction l with
 |nil=>rfl
 |cons a r ih=>rw[List.flatMap_cons,lA,ih];simp[WC];omega
theorem Bzq  (h:m<=n):(BW m n).length=n*2:=by unfold BW;rw[TS];simp;omega
theorem OL  (h:i<m):(BW m n)[i*2]?=some (ab 1048576)/\(BW m n)[i*2+1]?=some (ab 0):=by
 have hi:(List.replicate m (1048576:Int)++List.replicate (n - m) (0:Int))[i]?=some 1048576:=by
  rw[aL y20Z,List.getElem?_replicate,if_pos h]
 unfold BW;exact⟨S9 WC (fun _=>rfl) _ i _ 0 hi (by omega),S9 WC (fun _=>rfl) _ i _ 1 hi (by omega)⟩
theorem YH {c:Nat} (h:m+c<=n):(BW m n).take (m*2)++BW c c++(BW m n).drop (m*2+(BW c c).length)=BW (m+c) n:=by
 have e:∀a b:List Int,(a++b).flatMap WC=a.flatMap WC++b.flatMap WC:=fun a b=>List.flatMap_append
 have e1:BW m n=(List.replicate m (1048576:Int)).flatMap WC++((List.replicate c (0:Int)).flatMap WC++(List.replicate (n - (m+c)) (0:Int)).flatMap WC):=by
  unfold BW;rw[show n - m=c+(n - (m+c)) by omega,<-List.replicate_append_replicate,e,e]
 have e2:BW c c=(List.replicate c (1048576:Int)).flatMap WC:=by
  unfold BW;rw[Nat.sub_self,List.replicate_zero,List.append_nil]
 have e3:BW (m+c) n=(List.replicate m (1048576:Int)).flatMap WC++(List.replicate c (1048576:Int)).flatMap WC++(List.replicate (n - (m+c)) (0:Int)).flatMap WC:=by
  unfold BW;rw[<-e,<-e,List.replicate_append_replicate]
 have hl1:((List.replicate m (1048576:Int)).flatMap WC).length=m*2:=by rw[TS];simp
 have hl2:((List.replicate c (0:Int)).flatMap WC).length=c*2:=by rw[TS];simp
 rw[Bzq (lR_ c),e1,e2,e3,List.take_left' hl1,List.drop_append,List.drop_of_length_le (by omega),hl1,List.nil_append,show m*2+c*2 - m*2=c*2 by omega,List.drop_left' hl2]
theorem aK  (h:v∈BW m n):v.oneCell'=true:=by
 unfold BW at h;obtain⟨c,_,h⟩:=List.mem_flatMap.1 h;simp[WC]at h
 rcases h with rfl |rfl <;> rfl
theorem qW {c:Nat} (h:c<=m)  (hj:(BW c c)[j]?=some v):(BW m n)[j]?=some v:=by
 have hjl:=(gS_.1 hj).1;rw[Bzq (lR_ c)]at hjl
 rcases Nat.mod_two_eq_zero_or_one j with e |e
 ·obtain⟨i,rfl⟩:∃i,j=i*2:=⟨j / 2,by omega⟩
  rw[(OL (by omega)).1]at hj ⊢;exact hj
 ·obtain⟨i,rfl⟩:∃i,j=i*2+1:=⟨j / 2,by omega⟩
  rw[(OL (by omega)).2]at hj ⊢;exact hj
theorem V4 (n b c:Nat) (hn:0<n) (hn2:n<=1000) (w:World) (h0:w.cell? (af b 0)=some (ab 1048576)) (h1:w.cell? (af b 1)=some (ab 0)):
  Calls Tryz.prog 216 #[ae b 1 c,ab n] w fun e w'=>∃g,e=.returned (ae g n n)/\w.heap.size<=g/\w'.heap[g]?=some (.cells (BW n n).toArray 313 (0,0))/\Below w.heap.size w w':=by
 obtain⟨iW,hiW,hzW0,hzW1,hzW2⟩:=info_parts (P:=Tryz.prog) (e:=313) (z:=.agg #[ab 0,ab 0]) (size:=2) (bytes:=16) y1Z;have hbl:b<w.heap.size:=World.block_lt_of_cell? _ _ h0;have HM:Hid (∀W,Calls Tryz.prog 233 #[.int .u64 (1:Nat),.int .u64 n] W fun e w'=>e=.returned (.tuple #[.int .u64 (0:Nat),.int .u64 n])/\W=w'):=hid fun W=>by
  refine(Tryz.bits_Mul 1 n (by omega) (by omega) W).mono ?_;rintro e w' ⟨rfl,rfl⟩;refine⟨?_,rfl⟩;rw[Nat.one_mul,Nat.div_eq_of_lt (by omega),Nat.mod_eq_of_lt (by omega)]
 have hng:¬((n:Int)<0):=by omega
 have hng2:¬((n:Int)>9223372036854775807):=by omega
 go_enter Tryz.func216,Tryz.ntmps216
 go_upto_region 7 with(first
  | (go_at_call 233;refine(HM.out _).mono ?_;rintro e w1 ⟨rfl,rfl⟩)
  | (at_make;refine MD _ rfl _ _ 348 rfl 313 iW (.agg #[ab 0,ab 0]) Tryz.underlying348 hiW hzW0 _ _ n rfl rfl rfl rfl (by rw[hzW2];omega) (by omega) ?_;rw[hzW1]))
 have hmade:madeCells #[ab 0,ab 0] (n*2)=(BW 0 n).toArray:=by
  have h2:=NP 2 (by omega) WC (fun _=>rfl) (0:Int) n;have h3:BW 0 n=(List.replicate n (0:Int)).flatMap WC:=by unfold BW;simp
  rw[h3,<-h2];rfl
 simp only[hmade];obtain⟨W1,hW1⟩:=qE (w.alloc (.cells (BW 0 n).toArray 313));have hg1:W1.heap[w.heap.size]?=some (.cells (BW 0 n).toArray 313 (0,0)):=by rw[<-hW1];exact World.alloc_heap_new w _
 have hb1:Below w.heap.size w W1:=by rw[<-hW1];exact(Below.refl _ w).alloc (lR_ _) _
 rw[hW1];have HG1:=hid hg1;have HB1:=hid hb1;have h01:=(hb1.cell (p:=(af b 0)) (by exact hbl)).trans h0;have h11:=(hb1.cell (p:=(af b 1)) (by exact hbl)).trans h1;have hsrc:∀(j:Nat) (v:Value),(BW 1 1)[j]?=some v->W1.cell? (((af b 0):Addr).add j)=some v:=fun j v hj=>by
  have h2:((af b 0):Addr).add j=(af b j):=by simp[Addr.add];exact fun e=>e.symm
  rw[h2];have hjl:=(gS_.1 hj).1;rw[Bzq (lR_ 1)]at hjl
  match j with
  |0=>rw[show(0:Nat)=0*2 from rfl,(OL (by omega)).1]at hj;injection hj with hj;rw[<-hj];exact h01
  |1=>rw[show(1:Nat)=0*2+1 from rfl,(OL (by omega)).2]at hj;injection hj with hj;rw[<-hj];exact h11
  |j+2=>omega
 have HSrc:=hid hsrc;have hsz1:(Tryz.prog.info? 313).map (·.size)=some 2:=by rw[hiW];simp[hzW1]
 clear hW1 hg1 hb1 hmade h01 h11 hsrc h0 h1;refine wp_region_lit ?_
 iterate 6 go_step
 refine TT rfl (.tmp 31) (.tmp 32) 348 348 rfl 313 Tryz.underlying348 2 hsz1 w.heap.size 0 n n (af b 0) 1 c (by rfl) (by rfl) _ _ HG1.out (BW 1 1) 1 (by show 1=min 1 n;omega) (by rw[Bzq (lR_ 1)]) HSrc.out (by rw[Bzq (lR_ 1)];show 0+1*2<=(BW 0 n).length;rw[Bzq (Nat.zero_le n)];omega) (fun v hv=>aK hv) ?_;intro W2 hW2;have HG2:Hid (W2.heap[w.heap.size]?=some (.cells (BW 1 n).toArray 313 (0,0))):=hid (by
  have h2:=setRow_heap W1 w.heap.size _ (BW 1 n).toArray _ _ HG1.out;have h3:=YH (m:=0) (n:=n) (c:=1) (by omega);rw[Nat.zero_mul,Nat.zero_add,Nat.zero_add]at h3;rw[hW2,Nat.zero_add,show(BW 0 n).toArray.toList=BW 0 n from rfl,h3];exact h2)
 have HB2:Hid (Below w.heap.size w W2):=hid (by rw[hW2];exact below_setRow HB1.out (lR_ _) _);clear hW2;go_wp2
 go_loopw [8] (fun z wr=>∃m:Nat,1<=m/\m<=n/\z=ab m/\Hid (wr.heap[w.heap.size]?=some (.cells (BW m n).toArray 313 (0,0)))/\Hid (Below w.heap.size w wr)) (fun z _=>n - (intOf z).toNat)
 case atStart=>exact⟨1,lR_ _,hn,rfl,HG2,HB2⟩
 case round=>
  obtain⟨m,hm1,hmn,rfl,hg,hb⟩:=hrel
  by_cases hlt:m<n
  ·have hne:¬n=m:=by omega
   have hne2:¬m=n:=by omega
   go_upto_region 9 with fail
   refine wp_region_held_drew (S:=fun _=>True) y1Z trivial (fun hH=>?_);refine tB 0 hH ?_;refine tB 1 hH ?_;refine tB 2 hH ?_;refine tB 3 hH ?_;refine tB 4 hH ?_;refine tB 5 hH ?_;refine tB 6 hH ?_;refine tL ?_;obtain⟨cc,hcc⟩:=qF (Nat.min m (n - m));have hcm:cc<=m:=by rw[hcc];exact Nat.min_le_left _ _
   have hcn:m+cc<=n:=by have:cc<=n - m:=(by rw[hcc];exact Nat.min_le_right _ _);omega
   have hc0:0<cc:=by rw[hcc];exact Nat.lt_min.2 ⟨by omega,by omega⟩
   have hsrc:∀(j:Nat) (v:Value),(BW cc cc)[j]?=some v->wr.drew.cell? (((af w.heap.size 0):Addr).add j)=some v:=fun j v hj=>by
    have h2:((af w.heap.size 0):Addr).add j=(af w.heap.size j):=by simp[Addr.add];exact fun e=>e.symm
    rw[h2];have h3:wr.cell? (af w.heap.size j)=_:=A0 hg.out;exact h3.trans (by rw[List.getElem?_toArray];exact qW hcm hj)
   have HSrc:=hid hsrc;have HCC:=hid hcc;clear hsrc hcc;refine tS 7 fun K hK=>?_
   refine tM ?_;rw[if_pos (by rfl)];refine b9 (.tmp 41) (.tmp 44) 348 348 rfl 313 Tryz.underlying348 2 hsz1 w.heap.size (m*2) (n - m) (n - m) (af w.heap.size 0) m n (by rfl) (by rfl) _ _ hg.out (BW cc cc) cc HCC.out (by rw[Bzq (lR_ cc)]) HSrc.out (by rw[Bzq (lR_ cc)];show m*2+cc*2<=(BW m n).length;rw[Bzq hmn];omega) (fun v hv=>aK hv) ?_;intro W3 hW3;refine hK.out _ _ ?_ fun hH=>?_
   ·trivial
   clear hK K;refine tL ?_;have hg3:W3.heap[w.heap.size]?=some (.cells (BW (m+cc) n).toArray 313 (0,0)):=by
    have h2:=setRow_heap wr w.heap.size _ (BW (m+cc) n).toArray _ _ hg.out;have h3:=YH (m:=m) (n:=n) (c:=cc) hcn;rw[hW3,show(BW m n).toArray.toList=BW m n from rfl,h3];exact h2
   have hb3:Below w.heap.size w W3:=by rw[hW3];exact below_setRow hb.out.drew (lR_ _) _
   have HG3:=hid hg3;have HB3:=hid hb3;clear hW3 hg3 hb3;simp only[goInt];have hwr:IntKind.i64.wrap ((m:Int)+(cc:Int))=(m:Int)+(cc:Int):=by rw[w64];omega
   refine tB 8 hH ?_;refine tB 9 hH ?_;refine tL ?_;refine wpAnyH_done y1Z ?_ _;clear hH;go_wp2
   go_roundw
   case rel=>exact⟨m+cc,by omega,hcn,by go_num,HG3,HB3⟩
   case measure=>simp[intOf];omega
  ·have hmn':m=n:=by omega
   subst hmn';go_wp2;go_ret;exact⟨w.heap.size,rfl,lR_ _,hg.out,hb.out⟩
def N5:Nat->Wt:=fun _=>(AB,0)
def GD (Q:Wts) (cn ct:Nat->Nat->Nat->Wt) (i k q:Nat):Wt:=match Q.tls[q]? with
 |some (some p)=>JO Q cn ct p q i k (k - (i+1))
 |_=>if i=k then(0,0)else(AB,0)
theorem tI:FZ N5:=fun _=>⟨lR_ _,Nat.zero_le _⟩
theorem kZ (Q:Wts) (cn ct:Nat->Nat->Nat->Wt) (i k:Nat):FZ (GD Q cn ct i k):=fun q=>by
 unfold GD;split
 ·exact ZS ..
 ·split
  ·exact⟨Nat.zero_le _,Nat.zero_le _⟩
  ·exact⟨lR_ _,Nat.zero_le _⟩
theorem ZO (Q:Wts) (cn ct:Nat->Nat->Nat->Wt) (p:Pt) (q i k:Nat):∀{M m:Nat},m<M->wle (JO Q cn ct p q i k M) (D8 Q.T.N Q.row cn ct p q i (i+1+m) k)
 |M+1,m,h=>by
  by_cases e:m=M
  ·subst e;exact bG _ _
  ·exact GJ (QK _ _) (ZO Q cn ct p q i k (by omega))
theorem d6 (Q:Wts) (cn ct:Nat->Nat->Nat->Wt) (p:Pt) (q i k:Nat):∀(M:Nat),JO Q cn ct p q i k M=(AB,0)\/∃m,m<M/\JO Q cn ct p q i k M=D8 Q.T.N Q.row cn ct p q i (i+1+m) k
 |0=>.inl rfl
 |M+1=>by
  rcases RW (JO Q cn ct p q i k M) (D8 Q.T.N Q.row cn ct p q i (i+1+M) k)with e |e
  ·rcases d6 Q cn ct p q i k M with h | ⟨m,h1,h2⟩
   ·exact .inl (e.trans h)
   ·exact .inr ⟨m,by omega,e.trans h2⟩
  ·exact .inr ⟨M,by omega,e⟩
theorem VQ {N:NG}{row:List Nat}{nm ta:Nat->Wt}{p:Pt}{q:Nat} (h1:i<j) (h2:j<k):EU N row cn ct i k nm ta p q j=D8 N row cn ct p q i j k:=by
 unfold EU D8;have e1:D3 N row (AK cn i k nm) p i j=D3 N row cn p i j:=by
  cases p with
  |tok t=>rfl
  |nam n=>show AK cn i k nm n i j=cn n i j;unfold AK;rw[if_neg (by omega)]
 have e2:AK ct i k ta (q+1) j k=ct (q+1) j k:=by unfold AK;rw[if_neg (by omega)]
 rw[e1,e2]
theorem j7  (hk:PM Q.tls) (cn ct:Nat->Nat->Nat->Wt) (i k:Nat):Mid Q.T.N (BK Q.tls) (FM Q.hds) Q.row cn ct i k N5 (GD Q cn ct i k) where
 nul:=fun q hq=>by
  rcases RY hk hq with⟨_,h⟩ | ⟨p,ps,h,_⟩
  ·unfold GD;rw[h]
  ·cases h
 cut:=fun q p ps j hq h1 h2=>by
  rcases RY hk hq with⟨h,_⟩ | ⟨p',ps',h,h3⟩
  ·cases h
  ·injection h with h4 _
   subst h4;rw[VQ h1 h2];unfold GD;rw[h3];have h5:=ZO Q cn ct p q i k (M:=k - (i+1)) (m:=j - (i+1)) (by omega);rw[show i+1+(j - (i+1))=j by omega]at h5;exact h5
 cutA:=fun q p ps hq=>by
  rcases RY hk hq with⟨h,_⟩ | ⟨p',ps',h,h3⟩
  ·cases h
  ·injection h with h4 _
   subst h4;unfold GD;rw[h3]
   rcases d6 Q cn ct p q i k (k - (i+1))with h5 | ⟨m,h5,h6⟩
   ·exact .inl h5
   ·refine .inr ⟨i+1+m,by omega,by omega,?_⟩
    rw[VQ (by omega) (by omega)];simp only;rw[h6];exact FQ _
 namA:=fun n _=>.inl rfl
structure KnR (Q:Wts) (w:World) (gi i k:Nat) (cn ct:Nat->Nat->Nat->Wt):Prop where
 gpl:Q.gp<gi
 gil:gi<w.heap.size
 pi:w.cell? (af Q.gp i)=some (ae gi (Q.row.length+1) (Q.row.length+1))
 old:∀a b,i<a->a<=b->b<=Q.row.length->NmV Q w gi a b (fun n=>cn n a b)/\TlV Q w gi a b (fun q=>ct q a b)
 own:∀b,i<=b->b<k->∃gn gq,gi<gn/\gi<gq/\gn<w.heap.size/\gq<w.heap.size/\w.cell? (af gi (b*2))=some (ae gn Q.T.N.nN Q.T.N.nN)/\w.cell? (af gi (b*2+1))=some (ae gq Q.tls.length Q.tls.length)/\I3 w gn Q.T.N.nN (fun n=>cn n i b)/\I3 w gq Q.tls.length (fun q=>ct q i b)
theorem bI  (h:w.cell? (af g j)=some v):∃cs e fr,w.heap[g]?=some (.cells cs e fr):=by
 simp only[World.cell?]at h;cases ho:w.heap[g]? with
 |none=>rw[ho]at h;cases h
 |some o=>
  cases o with
  |cells cs e fr=>exact⟨cs,e,fr,rfl⟩
  |_=>rw[ho]at h;cases h
theorem I3.keeps {S:List Nat} (h:I3 w g n f) (hk:A1 w w' S) (hg:g<w.heap.size) (hS:g∉S):I3 w' g n f:=fun i hi=>⟨(hk.cell y12Z hS).trans (h i hi).1,(hk.cell y12Z hS).trans (h i hi).2⟩
theorem NmV.mono {B':Nat} (h:NmV Q w B i k f) (hB:B<=B'):NmV Q w B' i k f:=by
 obtain⟨gi,gn,h1,h2,h3⟩:=h;exact⟨gi,gn,by omega,by omega,h3⟩
theorem TlV.mono {B':Nat} (h:TlV Q w B i k f) (hB:B<=B'):TlV Q w B' i k f:=by
 obtain⟨gi,gn,h1,h2,h3⟩:=h;exact⟨gi,gn,by omega,by omega,h3⟩
theorem KnR.kn' {gi:Nat} (h:KnR Q w gi i k cn ct) (hk:A1 w w' [gi]) (hB:w.heap.size<=B)
  (ho:∀j,j≠k*2->j≠k*2+1->w'.cell? (af gi j)=w.cell? (af gi j)):KnP Q w' B i k cn ct:=fun a b h1 h2 h3=>by
 have hb:Below gi w w':=hk.below (Nat.le_of_lt h.gil) (fun q hq=>by rw[mS.1 hq];exact lR_ _);have hgi:=h.gil;have hgp:=h.gpl
 rcases h3 with h3 | ⟨rfl,h3⟩
 ·obtain⟨z1,z2⟩:=h.old a b h3 h1 h2
  exact⟨(z1.below hb h.gpl).mono (by omega),(z2.below hb h.gpl).mono (by omega)⟩
 ·obtain⟨gn,gq,h4,h5,h6,h7,h8,h9,h10,h11⟩:=h.own b h1 h3
  have hpi:=(hk.cell (p:=(af Q.gp a)) (by show Q.gp<w.heap.size;omega) y2Z).trans h.pi;exact⟨⟨gi,gn,by omega,by omega,hpi,(ho _ (by omega) (by omega)).trans h8,h10.keeps hk h6 y2Z⟩,⟨gi,gq,by omega,by omega,hpi,(ho _ (by omega) (by omega)).trans h9,h11.keeps hk h7 y2Z⟩⟩
theorem nG  (h:w.heap[g]?=some (.cells (BW n n).toArray 313 (0,0))):I3 w g n N5:=fun i hi=>by
 rw[A0 h,A0 h,List.getElem?_toArray,List.getElem?_toArray];exact OL hi
theorem KnR.next {gi gn gq:Nat}{nm ta:Nat->Wt} (h:KnR Q w gi i k cn ct) (hk:A1 w w' [gi]) (hc:E9 Q w' B gi gn gq i k nm ta) (hB:gi<B)
  (ho:∀j,j≠k*2->j≠k*2+1->w'.cell? (af gi j)=w.cell? (af gi j)):KnR Q w' gi i (k+1) (AK cn i k nm) (AK ct i k ta) where
 gpl:=h.gpl
 gil:=lL h.gil hk.size
 pi:=hc.pi
 old:=fun a b h1 h2 h3=>by
  have hb:Below gi w w':=hk.below (Nat.le_of_lt h.gil) (fun q hq=>by rw[mS.1 hq];exact lR_ _);have e1:(fun n=>AK cn i k nm n a b)=fun n=>cn n a b:=by funext n;unfold AK;rw[if_neg (by omega)]
  have e2:(fun n=>AK ct i k ta n a b)=fun n=>ct n a b:=by funext n;unfold AK;rw[if_neg (by omega)]
  rw[e1,e2];exact⟨(h.old a b h1 h2 h3).1.below hb h.gpl,(h.old a b h1 h2 h3).2.below hb h.gpl⟩
 own:=fun b h1 h2=>by
  by_cases e:b=k
  ·subst e
   have e1:(fun n=>AK cn i b nm n i b)=nm:=by funext n;unfold AK;rw[if_pos ⟨rfl,rfl⟩]
   have e2:(fun n=>AK ct i b ta n i b)=ta:=by funext n;unfold AK;rw[if_pos ⟨rfl,rfl⟩]
   rw[e1,e2];exact⟨gn,gq,by have:=hc.gnB;omega,by have:=hc.gqB;omega,hc.gnl,hc.gql,hc.pn,hc.pq,hc.nmc,hc.tac⟩
  ·obtain⟨gn',gq',h4,h5,h6,h7,h8,h9,h10,h11⟩:=h.own b h1 (by omega)
   have e1:(fun n=>AK cn i k nm n i b)=fun n=>cn n i b:=by funext n;unfold AK;rw[if_neg (by omega)]
   have e2:(fun n=>AK ct i k ta n i b)=fun n=>ct n i b:=by funext n;unfold AK;rw[if_neg (by omega)]
   rw[e1,e2];exact⟨gn',gq',h4,h5,lL h6 hk.size,lL h7 hk.size,(ho _ (by omega) (by omega)).trans h8,(ho _ (by omega) (by omega)).trans h9,h10.keeps hk h6 y2Z,h11.keeps hk h7 y2Z⟩
end Go.Proofs.YtjjggdcnpndgjaaGreatDoor
