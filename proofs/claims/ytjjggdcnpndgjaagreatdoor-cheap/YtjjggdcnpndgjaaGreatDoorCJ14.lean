import Derived.Test.YtjjggdcnpndgjaaGreatDoorCJ13
import Derived.Shelf.Spec.TrailingZeros
import Derived.RangeFuncBox
import Derived.Maps.AppendAt
import Derived.Laws.EntriesVeiled
set_option linter.unusedSimpArgs false
set_option maxHeartbeats 2000000
set_option maxRecDepth 100000
namespace Go.Proofs.YtjjggdcnpndgjaaGreatDoor
abbrev vh:=@Go.size_madeCells
abbrev yq:=@Nat.pow_pos
abbrev yC:=@Nat.testBit_div_two_pow
abbrev ze:=@Array.length_toList
open Go.RowKit Go.Shelf
variable {k:List Fa}{p:Fa->Bool}{w:World}{x:Nat}
theorem QT (w:World) (n₀ fb kb:Nat) (N:NG) (zy:List ByteArray) (pg:List Nm) (yZ:Option Addr) (yT gN yQ:Nat) (k0:List Fa) (h:Aw w n₀ fb kb N zy pg yZ yT gN yQ k0) (h0:∀n,AQ k0 n=0):
  Calls Tryz.prog 109 #[ac fb] w λe w'=>e=.returned (.tuple #[])/\A5 w w' [kb]/\∃k,IF N k0 k/\(∀r∈N.rules,EM k r=k)/\zY w' kb N.nN k:=by
 have hkb:=h.kn.lt;obtain⟨W1,hW1⟩:=qE (w.alloc (.cells #[ac fb] 212));have Pn:A5 w W1 [kb]:=by rw[<-hW1];exact(A5.refl w [kb]).alloc _
 have h3:zY W1 kb N.nN k0:=by rw[<-hW1];exact h.kn.keeps ((A5.refl w []).alloc _) (by simp)
 have hb:W1.cell? (af w.heap.size 0)=some (ac fb):=by rw[<-hW1];exact GX w _ _
 have Pm:w.heap.size<W1.heap.size:=bu W1 _ hb;have hX:=h.keeps Pn h3;have CS:=MR N zy pg yZ yT gN yQ kb fb n₀ W1 hX.gr hX.n0 hX.lf hX.ne hX.ln hX.f0 hX.f1 hX.f2 161 #[ac w.heap.size] (rq Tryz.func161 yM rfl)
  EM (GD aC) (IF N k0) (λk hk r hr=>dC hX.gr.ok hX.gr.Ch hk hr)
  (λW k r v hW hk hI hr hv=>kS W n₀ fb kb N zy pg yZ yT gN yQ k (hX.keeps hW hk) hI.lt w.heap.size ((hW.cell (by exact Pm) aaB).trans hb) v r hr hv)
  hX.gr.ok.pos k0 hX.kn (eC h.kn.1 h0)
 have Dr:=hid CS;have Bt:=hid Pn;clear CS hX Pn h3 h h0
 go_enter Tryz.func109,Tryz.ntmps109
 go_wp2_with (go_at_call 153;refine Dr.out.mono ?_;rintro e w2 ⟨rfl,hk2,hr2⟩;have HR:=hid (And.intro hk2 hr2);clear hk2 hr2)
 go_end0
 exact⟨rfl,Bt.out.trans HR.out.1,HR.out.2⟩
theorem cX (W1:World) (n₀ fb kb:Nat) (N:NG) (zy:List ByteArray) (pg:List Nm) (yZ:Option Addr) (yT gN yQ:Nat) (k0 k1:List Fa) (hX:Aw W1 n₀ fb kb N zy pg yZ yT gN yQ k1) (Uh:FM N k0 k1) (Bx:Nat) (hBk:Bx≠kb) (hb:W1.cell? (af Bx 0)=some (ac fb)):
  Calls Tryz.prog 153 #[ac fb,.func (.func 164) #[] #[ac Bx]] W1 λe w'=>e=.returned (.tuple #[])/\A5 W1 w' [kb]/\∃k,FM N k0 k/\(∀r∈N.rules,EZ k r=k)/\zY w' kb N.nN k:=
 MR N zy pg yZ yT gN yQ kb fb n₀ W1 hX.gr hX.n0 hX.lf hX.ne hX.ln hX.f0 hX.f1 hX.f2 164 #[ac Bx] (rq Tryz.func164 yM rfl)
  EZ (GD O1) (FM N k0) (λk hk r hr=>ZT hX.gr.ok hX.gr.Ch hk hr)
  (λW k r v hW hk hI hr hv=>fK W n₀ fb kb N zy pg yZ yT gN yQ k (hX.keeps hW hk) hI.hlt hI.lt Bx ((hW.cell (by exact bu W1 _ hb) (by simpa using hBk)).trans hb) hBk v r hr hv)
  hX.gr.ok.pos k1 hX.kn Uh
theorem N2 (w:World) (yZ:Option Addr) (nT yT gN nN yQ:Nat):Calls Tryz.prog 115 #[.agg #[.slice yZ nT yT,ae gN nN yQ]] w λe w'=>e=.returned (ab nT)/\Below w.heap.size w w':=by
 go_enter Tryz.func115,Tryz.ntmps115
 go_wp2;go_ret;exact⟨rfl,(ah _ _).alloc (zn _) _⟩
theorem OS (w:World) (n₀ fb kb:Nat) (N:NG) (zy:List ByteArray) (pg:List Nm) (yZ:Option Addr) (yT gN yQ:Nat) (k0:List Fa) (h:Aw w n₀ fb kb N zy pg yZ yT gN yQ k0) (hh:∀n,AQ k0 n<2 ^21) (h0:∀n,BC k0 n=0):
  Calls Tryz.prog 110 #[ac fb] w λe w'=>e=.returned (.tuple #[])/\A5 w w' [kb]/\∃k,FM N k0 k/\(∀r∈N.rules,EZ k r=k)/\zY w' kb N.nN k:=by
 have hkb:=h.kn.lt;have Dx:=h.gr.Ch;have hpos:=h.gr.ok.pos;have hFI:=bA h.gr.ok h.gr.Ch h.kn.1 hh h0;obtain⟨a,ha⟩:∃a,k0[0]?=some a:=⟨_,gE (by rw[h.kn.1];exact hpos)⟩;obtain⟨W1,hW1⟩:=qE (w.alloc (.cells #[ac fb] 212));have Pn:A5 w W1 [kb]:=by rw[<-hW1];exact(A5.refl w [kb]).alloc _
 have h3:zY W1 kb N.nN k0:=by rw[<-hW1];exact h.kn.keeps ((A5.refl w []).alloc _) (by simp)
 have hb:W1.cell? (af w.heap.size 0)=some (ac fb):=by rw[<-hW1];exact GX w _ _
 have Pm:w.heap.size<W1.heap.size:=bu W1 _ hb;have hX:=h.keeps Pn h3;have f0:=hX.f0;have f1:=hX.f1;have f2:=hX.f2;have hfw:=hX.lf;have zW:=hX.kn.lt;have c3:W1.cell? (af kb 3)=some (.int .u32 a.follow):=by have:=(hX.kn.cells ha).2.2.2;simpa using this
 have fz:W1.frozen? (af kb 3)=false:=hX.kn.free 3;have HX:=hid hX;have Bt:=hid Pn;obtain⟨nN,hn1⟩:=qF (N.nN);obtain⟨nT,hn2⟩:=qF (N.nT);rw[<-hn1]at f1 f2 hpos;rw[<-hn2]at f0 Dx hFI;obtain⟨x,hx⟩:∃x:Nat,1<<<nT=x:=⟨_,rfl⟩;have CO:=λW=>U6 W nT Dx
 rw[hx]at hFI CO;have HFI:=hid hFI;have HCO:=hid CO;have Nn:Hid (nN=N.nN):=hid hn1;clear hX Pn h3 h h0 hh ha hFI hn1 hn2 CO hx
 go_enter Tryz.func110,Tryz.ntmps110
 go_wp2;refine AH (λw'=>w'.cell? (af w.heap.size 0)=some (ac fb)/\w'.cell? (af fb 0)=some (.slice yZ nT yT)/\w'.cell? (af fb 1)=some (ae gN nN yQ)/\w'.cell? (af fb 2)=some (ae kb nN nN)/\w'.cell? (af kb 3)=some (.int .u32 a.follow)/\w'.frozen? (af kb 3)=false/\Below W1.heap.size W1 w') yM yM ⟨hb,f0,f1,f2,c3,fz,Cb (ah _ _)⟩ (λhH=>?_);simp only[AG,BP,AR];refine tB 0 hH ?_;refine tB 1 hH ?_;refine tB 2 hH ?_;refine tB 3 hH ?_;refine tB 4 hH ?_;refine tB 5 hH ?_;refine tB 6 hH ?_;refine tB 7 hH ?_;refine tL ?_;refine tS 8 λK hK=>?_
 refine tM ?_;rw[ay (by rfl)];go_simp;refine(N2 _ _ _ _ _ _ _).mono ?_;rintro e w2 ⟨rfl,hb2⟩;refine hK.out _ _ ?_ λhH=>?_
 ·exact⟨(hb2.cell (by exact Pm)).trans hH.1,(hb2.cell (by exact hfw)).trans hH.2.1,(hb2.cell (by exact hfw)).trans hH.2.2.1,(hb2.cell (by exact hfw)).trans hH.2.2.2.1,(hb2.cell (by exact zW)).trans hH.2.2.2.2.1,(og (w:=W1.drew) (a:=(af kb 3)) (hb2.block kb zW)).trans hH.2.2.2.2.2.1,hH.2.2.2.2.2.2.trans hb2⟩
 clear hK K;refine tL ?_;refine tS 9 λK hK=>?_
 refine tM ?_;rw[ay (by rfl)];go_simp;refine(HCO.out _).mono ?_;rintro e w3 ⟨rfl,rfl⟩;refine hK.out _ _ ?_ λhH=>?_
 ·exact hH
 clear hK K;refine tB 10 hH ?_;refine tB 11 hH ?_;refine tB 12 hH ?_;refine tL ?_;refine bq yM ?_ _;have zO:=hid hH.2.2.2.2.2.2;have zz:=hH.2.2.2.2.2.1;have zc:=hH.2.2.2.2.1;have zb:=hH.1;clear hH hb2 f0 f1 f2 c3 fz hb;obtain⟨h4,h5⟩:=(HX.out.kn.keeps (A5.zQ zO.out []) (by simp)).put HX.out.gr.ok.pos (λa=>{a with follow:=x}) 3 (by omega) (.int .u32 x) (λa _=>rfl);rw[yy,ju]at h4 h5;have HKX:=hid ((A5.zQ zO.out [kb]).trans h5);have HV4:=hid h4;have hz:w.heap.size≠kb:=by omega
 have hzb:(w2.setCell (af kb 3) (.int .u32 x)).cell? (af w.heap.size 0)=some (ac fb):=(h5.cell (by exact bu w2 _ zb) (by simpa using hz)).trans zb;have CS:=cX (w2.setCell (af kb 3) (.int .u32 x)) n₀ fb kb N zy pg yZ yT gN yQ k0 _ (HX.out.keeps HKX.out HV4.out) HFI.out w.heap.size hz hzb;have Dr:=hid CS;clear h4 h5 hzb CS;show wpList _ _ _ _ _ _
 go_wp2_with (go_at_call 153;refine Dr.out.mono ?_;rintro e w3 ⟨rfl,hk2,hr2⟩;have HR:=hid (And.intro hk2 hr2);clear hk2 hr2)
 go_end0
 exact⟨rfl,Bt.out.trans (HKX.out.trans HR.out.1),HR.out.2⟩
section
attribute [local go_sem] Oper.semAt_some
def BG (x:Nat):List Nat:=(List.range 21).filter λi=>x.testBit i
theorem O5 {α:Type}{p:α->Bool}{l:List α} (h:∀a∈l,p a=false):l.filter p=[]:=by
 rw[yF];intro a ha;rw[h a ha];simp
theorem kA {y k:Nat} (hk:k<21) (hb:x.testBit k=true) (hl:∀i,i<k->x.testBit i=false) (hy:∀i,y.testBit i=(x.testBit i&&decide (i≠k))):BG x=k::BG y:=by
 obtain⟨d,e⟩:∃d,21=k+1+d:=⟨20 - k,by omega⟩;unfold BG;rw[e,List.range_add,uw];simp only[ql];have h1:(List.range k).filter (λi=>x.testBit i)=[]:=O5 λi hi=>hl i (jc.1 hi)
 have h2:(List.range k).filter (λi=>y.testBit i)=[]:=O5 λi hi=>by rw[hy,hl i (jc.1 hi)];rfl
 have h3:((List.range d).map (k+1+ ·)).filter (λi=>y.testBit i)=((List.range d).map (k+1+ ·)).filter (λi=>x.testBit i):=by
  apply List.filter_congr;intro i hi;obtain⟨j,_,rfl⟩:=dm.1 hi;rw[hy];simp;omega
 rw[h1,h2,h3];have h4:y.testBit k=false:=by rw[hy];simp
 simp[hb,h4]
theorem fX:BG 0=[]:=O5 λi _=>Nat.zero_testBit i
theorem t7 (k m:Nat):(∀i,i<k->(2 ^k*(2*m+1)).testBit i=false)/\(2 ^k*(2*m+1)).testBit k=true/\∀i,((2 ^k*(2*m+1))&&& (2 ^k*(2*m+1) - 1)).testBit i=((2 ^k*(2*m+1)).testBit i&&decide (i≠k)):=by
 have h1:∀i,i<k->(2 ^k*(2*m+1)).testBit i=false:=λi hi=>by
  rw[Nat.mul_comm,Nat.testBit_mul_two_pow];simp;omega
 have hp:0<2 ^k:=yq (by decide);have hd1:(2 ^k*(2*m+1)) / 2 ^k=2*m+1:=Nat.mul_div_cancel_left _ hp;have hd2:(2 ^k*(2*m+1) - 1) / 2 ^k=2*m:=by
  rw[Nat.div_eq_iff hp];rw[Nat.mul_add,yG,Nat.mul_comm (2 ^k)];omega
 refine⟨h1,?_,λi=>?_⟩
 ·have h:((2 ^k*(2*m+1)) / 2 ^k).testBit 0=(2 ^k*(2*m+1)).testBit (0+k):=yC _ _
  rw[hd1,ju]at h;rw[<-h];simp
 ·rw[Nat.testBit_and]
  by_cases hi:i<k
  ·rw[h1 i hi];simp
  ·obtain⟨j,rfl⟩:∃j,i=j+k:=⟨i - k,by omega⟩
   have e1:((2 ^k*(2*m+1)) / 2 ^k).testBit j=(2 ^k*(2*m+1)).testBit (j+k):=yC _ _;have e2:((2 ^k*(2*m+1) - 1) / 2 ^k).testBit j=(2 ^k*(2*m+1) - 1).testBit (j+k):=yC _ _;rw[hd1]at e1;rw[hd2]at e2;cases j with
   |zero=>
    simp only[ju]at e1 e2 ⊢;rw[<-e2];simp
   |succ j=>
    rw[<-e1,<-e2,Nat.testBit_succ,Nat.testBit_succ,show(2*m+1) / 2=m from by omega,show 2*m / 2=m from by omega];simp
theorem eT  (h0:x≠0) (hx:x<2 ^21):BG x=Lib.ctz 32 x::BG (x&&& (x - 1))/\Lib.ctz 32 x<21:=by
 have he:Lib.ctz 32 x=Lib.ctzFrom 32 x:=by unfold Lib.ctz;rw[aq h0]
 rw[he];obtain⟨m,hm,_⟩:=Lib.ctzFrom_spec 32 x (by omega) (by omega);obtain⟨k,hk⟩:=qE (Lib.ctzFrom 32 x);rw[hk]at hm ⊢;have afY:k<21:=by
  apply Nat.lt_of_not_le;intro hle;have h1:2 ^21<=2 ^k:=qg (by decide) hle;have h2:2 ^k<=2 ^k*(2*m+1):=Nat.le_mul_of_pos_right _ (by omega);omega
 subst hm;obtain⟨l1,l2,l3⟩:=t7 k m;exact⟨kA afY l2 l1 l3,afY⟩
theorem wR  (h:x<2 ^21):x&&& (x - 1)<2 ^21:=zo Nat.and_le_left h
theorem uK (x k idx:Nat) (w:World) (hx0:((x:Int)==0)=false)
  (key:bits BinOp.and IntKind.u32 (x:Int) (-(x:Int) % 4294967296)*125613361 % 4294967296 / 134217728=(idx:Int))
  (hi:idx<32) (hk:k<32) (hcell:w.cell? (af 1 idx)=some (.int .u8 k)):
  Calls Tryz.prog 182 #[.int .u32 x] w λe w'=>e=.returned (ab k)/\w=w':=by
 go_enter Tryz.func182,Tryz.ntmps182
 go_wp2_with (simp only[key])
 go_ret;exact⟨rfl,rfl⟩
theorem xC (x:Nat) (hx0:x≠0) (hx:x<4294967296) (w:World) (hT:TabAt 1 Lib.deBruijn32tab w):
  Calls Tryz.prog 182 #[.int .u32 x] w λe w'=>e=.returned (ab (Lib.ctz 32 x))/\w=w':=by
 obtain⟨hlow,hk⟩:=Lib.lowest_bit 32 x hx0 hx;obtain⟨hi,acT⟩:=Lib.deBruijn32_at _ hk;have hcell:=hT _ hi;rw[acT]at hcell;exact uK x _ _ w zG (tz32_key x _ hx hx0 hlow) hi hk hcell
theorem TabAt.below {g:Nat}{tab:List Nat}{w':World}{B:Nat} (h:TabAt g tab w) (hb:Below B w w') (hg:g<B):TabAt g tab w':=λj hj=>(hb.cell Ef).trans (h j hj)
theorem YO (F:Fence) (n:Nat) (hF:F.fn 128) (hro:F.round=none) (s:Int) (w:World):
  CallsIn F n Tryz.prog 128 #[.int .u32 s] w λe w'=>e=.returned (.func (.func 181) #[] #[ac w.heap.size])/\w'=w.alloc (.cells #[.int .u32 s] 214):=by
 refine uq Tryz.func128 rfl hF ?_ hro;simp only[Tryz.ntmps128,jf,lC,jd,Nat.reduceAdd,Nat.reduceSub,jm,jo,jy,jr,ey,iw]
 gi_wp2
 go_ret;exact⟨rfl,rfl⟩
end
section
attribute [local go_sem] Oper.semAt_some
abbrev TI (s:Nat):={t:Nat // t∈BG s}
def iZ {s:Nat} (t:TI s):Array Value:= #[ab (t.1:Int)]
theorem uF (n:Nat) (hn:1<=n) (l Bn n₀ s:Nat) (hs:s<2 ^21) (hn0:1<n₀) (J Jx:List (TI s)->World->Prop) (W:World) (hJ:AbidesFrom W.heap.size J) (hT:TabAt 1 Lib.deBruijn32tab W)
  (hY:∀pre x W,J pre W->pre.length< (BG s).length->YieldAt Fence.wide (n - 1) Tryz.prog l (iZ x) W λe W'=>
   (e=.returned (.bool true)/\J (pre++ [x]) W'/\Below n₀ W W')\/(e=.returned (.bool false)/\Jx (pre++ [x]) W'))
  (Nk:W.cell? (af Bn 0)=some (.int .u32 s)) (h0:J [] W):
  CallsIn Fence.wide n Tryz.prog 181 #[.func (.yield l) #[] #[],ac Bn] W λe W'=>(∃v,e=.returned v)/\
   ((∃ys:List (TI s),ys.map (·.1)=BG s/\J ys W')\/(∃pre:List (TI s),(∃rest,BG s=pre.map (·.1)++rest)/\Jx pre W')):=by
 have HJ:=hid hJ;have HY:=hid hY;have HT:=hid hT;have Me:Hid (J [] W):=hid h0;have HS:Hid (s<2 ^21):=hid hs;clear hJ hY hT h0 hs;refine uq Tryz.func181 rfl trivial ?_ rfl;simp only[Tryz.ntmps181,jf,lC,jd,Nat.reduceAdd,Nat.reduceSub,jm,jo,jy,jr,ey,iw]
 gi_wp2
 gi_loopg [3] (s) (λg p wr=>∃(x:Nat) (pre:List (TI s)),x=g/\p=.int .u32 x/\Hid (x<2 ^21)/\Hid (BG s=pre.map (·.1)++BG x)/\Hid (J pre wr)/\Hid (TabAt 1 Lib.deBruijn32tab wr))
 case atStart=>exact⟨s,[],rfl,rfl,HS,rfl,Me,HT⟩
 case round=>
  obtain⟨x,pre,rfl,rfl,hx,hpre,hJs,Np⟩:=hrel
  by_cases hz:x=0
  ·subst hz
   have HE:Hid (pre.map (·.1)=BG s):=hid (by have h1:=hpre.out;rw[fX,fy]at h1;exact h1.symm)
   gi_wp2
   go_end0
   exact⟨⟨_,rfl⟩,.inl ⟨pre,HE.out,hJs.out⟩⟩
  ·obtain⟨hb1,hb2⟩:=eT hz hx.out
   have hlen:pre.length< (BG s).length:=by rw[hpre.out,hb1];simp
   have hmem:Lib.ctz 32 x∈BG s:=by rw[hpre.out,hb1];simp
   have CT:=(nk (n:=n - 1)).2 (xC x hz (by have:=hx.out;omega) wr Np.out);have hxx:=hx.out;obtain⟨t,ht⟩:=qE (Lib.ctz 32 x);rw[ht]at hb1 hb2 CT hmem;obtain⟨fn,tmps,assign,body,hy,hR⟩:=HY.out pre ⟨t,hmem⟩ wr hJs.out hlen;have hy:(Instr.yield l #[ab (t:Int)]).run Tryz.prog wr=.ok (.round l fn tmps assign body) wr:=hy;have De:Hid (BG s=(pre++ [(⟨t,hmem⟩:TI s)]).map (·.1)++BG (x&&& (x - 1))):=hid (hpre.out.trans (by rw[hb1];simp));have hand:bits .and .u32 (x:Int) ((x:Int) - 1)=((x&&& (x - 1):Nat):Int):=by
    rw[show(x:Int) - 1=((x - 1:Nat):Int) from by omega];exact bits_and_u32_nat x (x - 1) (by omega) (by omega)
   have hxz:((x:Int)==0)=false:=by simp;omega
   have HR:=hid hR;have HX2:Hid (x&&& (x - 1)<2 ^21/\x&&& (x - 1)<x):=hid ⟨wR hxx,by have:x&&& (x - 1)<=x - 1:=Nat.and_le_right;omega⟩;clear hR hlen hb1 ht
   gi_wp2_with (refine⟨trivial,?_⟩;gi_at_call 182;refine CT.mono ?_;rintro e w2 ⟨rfl,rfl⟩;clear CT)
   refine HR.out.mono ?_;rintro e W3 (⟨rfl,hJ3,hk3⟩ | ⟨rfl,abt⟩)
   ·have Zj:=hid hJ3
    have HT3:=hid (TabAt.below Np.out hk3 hn0);clear hJ3 hk3
    gi_wp2
    gi_roundg (x&&& (x - 1))
    case measure=>exact HX2.out.2
    case rel=>exact⟨_,pre++ [⟨t,hmem⟩],rfl,by go_num,HX2.out.1,De,Zj,HT3⟩
   ·gi_wp2
    refine ya (qz rfl _ _ _) rfl ?_;exact⟨⟨_,rfl⟩,.inr ⟨pre++ [⟨t,hmem⟩],⟨_,De.out⟩,abt⟩⟩
theorem XX (n:Nat) (hn:1<=n) (Bn n₀ s:Nat) (hs:s<2 ^21) (hn0:1<n₀) (w:World) (hB:Bn<w.heap.size) (hT:TabAt 1 Lib.deBruijn32tab w) (Nk:w.cell? (af Bn 0)=some (.int .u32 s)):
  SeqStopsK Fence.wide n Tryz.prog 181 #[ac Bn] (iZ (s:=s)) (Below n₀) (λys=>ys.map (·.1)=BG s) (λpre=>∃rest,BG s=pre.map (·.1)++rest) (BG s).length w:=λl J Jx W hW hJ _ hY h0=>by
 refine(uF n hn l Bn n₀ s hs hn0 J Jx W hJ (TabAt.below hT hW (bu _ _ (hT 0 (by decide)))) hY ((hW.cell (p:=(af Bn 0)) hB).trans Nk) h0).mono ?_;rintro e W' ⟨h1,h2⟩;exact⟨h1,h2⟩
end
theorem kD {P:Program}{Q:Exit->Act->World->Prop}{S:World->Prop}{l:List Oper}{a:Act} (hB:MS l=true) (hS:S w.drew)
  (h:S w.drew->wpAnyH P .any (AG l).toArray (FA λa w=>wpList P #[AR l] Q [AR l] a w) S l.length (Array.replicate l.length false) a w.drew):wpAny P .any l.toArray Q l.length (Array.replicate l.length false) a w.drew:=by
 have ho:l.getLast?=some (AR l):=by
  refine M1 l ?_;intro e;subst e;cases hB
 have hpos:0<l.length:=by cases l with |nil=>simp at ho |cons _ _=>simp
 refine T5 ho hB _ _ _ _ (by simp) ?_ ?_ (wpAny_of_held _ _ _ _ (h hS))
 ·intro k o' hk hl
  rw[mg]at hl
  rcases jz k l.length with h' |h'
  ·simp[h']at hl
  ·simp[h']at hl
 rw[mg,jw zG];simp
theorem CV {lp n:Nat}{P:Program}{id:Nat}{l:List Oper}{Q:Exit->Act->World->Prop}{a:Act} (S:World->Prop) (hm:P.follows .mixedOrders=true) (hd:VG l.toArray=true) (hQ:¬LetsOut Q) (hB:MS l=true) (hS:S w.drew)
  (h:S w.drew->wpAnyH P .any (AG l).toArray (FA λa w=>wpList P #[AR l] Q [AR l] a w) S l.length (Array.replicate l.length false) a w.drew):(Code.region id l.toArray true).wpIn (Fence.wide.inRound lp) n P Q a w:=
 wpIn_region_any hm (TD hd hQ _ _ _ _ (by rw[jf];exact kD hB hS h))
def D6 (zy:List ByteArray) (nT t:Nat):ByteArray:=if t=nT then ByteArray.empty else nth zy t
theorem Q5 (w:World) (n₀:Nat) (N:NG) (zy:List ByteArray) (pg:List Nm) (yZ:Option Addr) (yT gN yQ:Nat) (h:Cz w n₀ N zy pg yZ yT gN yQ) (hn:n₀<=w.heap.size) (t:Nat) (ht:t<=N.nT):
  Calls Tryz.prog 129 #[.agg #[.slice yZ N.nT yT,ae gN N.nN yQ],ab t] w λe w'=>e=.returned (.string (D6 zy N.nT t))/\Below w.heap.size w w':=by
 have Dx:=h.Ch;have CE:=N2 (w.alloc (.cells #[.slice yZ N.nT yT,ae gN N.nN yQ] 135)) yZ N.nT yT gN N.nN yQ;have H:=hid h;clear h;obtain⟨nT,hn1⟩:=qF (N.nT);rw[<-hn1]at ht Dx CE ⊢;obtain⟨nN,hn2⟩:=qF (N.nN);rw[<-hn2]at CE ⊢;have Nl:=hid CE;have HN:Hid (nT=N.nT):=hid hn1;clear hn1 hn2 CE
 by_cases he:t=nT
 ·have HR:Hid (D6 zy nT t=ByteArray.empty):=hid (by unfold D6;rw[ay he])
  subst he
  go_enter Tryz.func129,Tryz.ntmps129
  go_wp2_with (go_at_call 115;refine Nl.out.mono ?_;rintro e w2 ⟨rfl,hb2⟩;have HB:=hid hb2;clear hb2)
  go_ret;exact⟨by rw[HR.out];rfl,((ah _ _).alloc (zn _) _).trans (HB.out.mono (by simp))⟩
 ·have hlt:t<nT:=by omega
  obtain⟨gT,rfl,hg,hc,_⟩:=H.out.toks t abg;have Iw:gT<w.heap.size:=by omega
  have HR:Hid (D6 zy nT t=nth zy t):=hid (by unfold D6;rw[aq he]);have hne:((t:Int)==(nT:Int))=false:=by simp;omega
  obtain⟨s,hs⟩:=qE (nth zy t);rw[hs]at hc HR;clear hs
  go_enter Tryz.func129,Tryz.ntmps129
  go_wp2_with (go_at_call 115;refine Nl.out.mono ?_;rintro e w2 ⟨rfl,hb2⟩;have HB:=hid hb2;have hx:=(hb2.cell (p:=(af w.heap.size 0)) (by simp)).trans (BK w #[ae gT nT yT,ae gN nN yQ] 135 0);have hy:=(hb2.cell (p:=(af gT (t*4))) zG).trans (A6 (.cells #[ae gT nT yT,ae gN nN yQ] 135) hc);clear hb2)
  go_ret;exact⟨by rw[HR.out];rfl,((ah _ _).alloc (zn _) _).trans (HB.out.mono (by simp))⟩
def DM (p:Fa->Bool) (k:List Fa):Int:=match k.findIdx? p with
 |some i=>i
 |none=> -1
theorem gW {j:Nat}{a:Fa} (ha:k[j]?=some a) (hp:p a=true) (hno:∀m b,m<j->k[m]?=some b->p b=false):DM p k=j:=by
 obtain⟨hj,he⟩:=zM.1 ha;have h:k.findIdx? p=some j:=by
  rw[pz];refine⟨hj,by rw[he];exact hp,λm hm=>?_⟩;have:=hno m _ hm (gE (by omega));rw[this];simp
 unfold DM;rw[h]
theorem iA  (hno:∀(m:Nat) b,k[m]?=some b->p b=false):DM p k= -1:=by
 have h:k.findIdx? p=none:=by
  rw[yt];intro a ha;obtain⟨i,hi,rfl⟩:=jv.1 ha;exact hno i _ (gE hi)
 unfold DM;rw[h]
def Wd (a:Fa):Value:=.agg #[ab a.least,.bool a.reached,.int .u32 a.first,.int .u32 a.follow]
theorem QB (w:World) (kb n:Nat) (k:List Fa) (hK:zY w kb n k) (hn:n<=20) (cf:Nat) (p:Fa->Bool) (he:∀args W,(callFunc cf args).run Tryz.prog W=.ok (.enter cf args) W)
  (hcf:∀W a,Calls Tryz.prog cf #[Wd a] W λe w'=>e=.returned (.bool (p a))/\Below W.heap.size W w'):
  Calls Tryz.prog 160 #[ae kb n n,.func (.func cf) #[] #[]] w λe w'=>e=.returned (ab (DM p k))/\Below w.heap.size w w':=by
 have HK:=hid hK;have HC:=hid hcf;clear hK hcf
 go_enter Tryz.func160,Tryz.ntmps160
 go_wp2
 go_loopw [8] (λi wr=>∃j:Nat,j<=n/\i=ab j/\Hid (∀m b,m<j->k[m]?=some b->p b=false)/\Hid (Below w.heap.size w wr)) (λi _=>n - (intOf i).toNat)
 case atStart=>exact⟨0,dh _,rfl,λm b h=>by omega,ah _ _⟩
 case round=>
  obtain⟨j,hj,rfl,hno,hB⟩:=hrel
  by_cases hlt:j<n
  ·have Nq:Hid (zY wr kb n k):=hid (HK.out.keeps (A5.zQ hB.out []) (by simp))
   obtain⟨a,ha⟩:∃a,k[j]?=some a:=⟨_,gE (by rw[HK.out.1];exact hlt)⟩;obtain⟨c0,c1,c2,c3⟩:=Nq.out.cells ha;have CC:=HC.out wr a;unfold Wd at CC;have HA:Hid (k[j]?=some a):=hid ha;clear ha;cases hp:p a
   ·rw[hp]at CC
    have HE:Hid (∀m b,m<j+1->k[m]?=some b->p b=false):=hid λm b hm hb=>by
     rcases jz m j with h |h
     ·exact hno.out m b h hb
     ·obtain rfl:m=j:=by omega
      rw[HA.out]at hb;injection hb with hb;rw[<-hb];exact hp
    go_wp2_with (refine CC.mono ?_;rintro e w2 ⟨rfl,hb2⟩;have zO:=hid (hB.out.trans (hb2.mono hB.out.size));clear hb2 CC)
    go_roundw
    case rel=>exact⟨j+1,by omega,by go_num,HE,zO⟩
    case measure=>simp[intOf];omega
   ·rw[hp]at CC
    have HE:Hid (DM p k=j):=hid (gW HA.out hp hno.out)
    go_wp2_with (refine CC.mono ?_;rintro e w2 ⟨rfl,hb2⟩;have zO:=hid (hB.out.trans (hb2.mono hB.out.size));clear hb2 CC)
    go_ret;exact⟨by rw[HE.out];rfl,zO.out⟩
  ·have HE:Hid (DM p k= -1):=hid (iA λm b hb=>hno.out m b (by have h1:=(zM.1 hb).1;have h2:=HK.out.1;omega) hb)
   go_wp2;go_ret;exact⟨by rw[HE.out];rfl,hB.out⟩
theorem j9 (W:World) (a:Fa):Calls Tryz.prog 157 #[Wd a] W λe w'=>e=.returned (.bool ((a.least:Int)==202))/\Below W.heap.size W w':=by
 unfold Wd
 go_enter Tryz.func157,Tryz.ntmps157
 go_wp2;go_ret;exact⟨rfl,(ah _ _).alloc (zn _) _⟩
theorem jF (W:World) (a:Fa):Calls Tryz.prog 158 #[Wd a] W λe w'=>e=.returned (.bool (!a.reached))/\Below W.heap.size W w':=by
 unfold Wd
 go_enter Tryz.func158,Tryz.ntmps158
 go_wp2;go_ret;exact⟨rfl,(ah _ _).alloc (zn _) _⟩
theorem l6 (W:World) (a:Fa):Calls Tryz.prog 159 #[Wd a] W λe w'=>e=.returned (.bool ((a.least:Int)==201))/\Below W.heap.size W w':=by
 unfold Wd
 go_enter Tryz.func159,Tryz.ntmps159
 go_wp2;go_ret;exact⟨rfl,(ah _ _).alloc (zn _) _⟩
def Ui (pg:List Nm) (i:Int):ByteArray:=(pg.getD i.toNat (ByteArray.empty,[])).1
def Mi (a:Fa):Bool:=(a.least:Int)==202
def Nr (a:Fa):Bool:= !a.reached
def Mj (a:Fa):Bool:=(a.least:Int)==201
def Bzx (pg:List Nm) (k:List Fa):ByteArray × Int:=
 if 0<=DM Mi k then(Ui pg (DM Mi k),6)else if 0<=DM Nr k then(Ui pg (DM Nr k),7)else if 0<=DM Mj k then(Ui pg (DM Mj k),8)else(ByteArray.empty,0)
theorem X0  (h:0<=DM p k):∃i:Nat,DM p k=i/\i<k.length:=by
 unfold DM at h ⊢;cases hk:k.findIdx? p with
 |none=>rw[hk]at h;simp at h
 |some i=>
  rw[pz]at hk;exact⟨i,rfl,hk.1⟩
theorem U7  (h:¬0<=DM p k):DM p k= -1:=by
 unfold DM at h ⊢;cases hk:k.findIdx? p with
 |none=>rfl
 |some i=>rw[hk]at h;simp at h
theorem aec {P:Prop} (h:P:=by
  exact⟨(hb3.cell Vr).trans hH.1,(hb3.cell Vr).trans hH.2.1,(hb3.cell (by exact hf2)).trans hH.2.2.1,(hb3.cell (by exact hf2)).trans hH.2.2.2.1,hH.2.2.2.2.trans hb3⟩):P:=h
theorem aed {P:Prop} (h:P:=by
  clear hnm hi hik;go_wp2
  go_quiet (fail)
  go_wp2
  go_ret2
  exact⟨by rw[HR.out];rfl,by repeat (first |exact Wf.out |refine Cb ?_ |exact Wf.out.trans ((G8 _ _).mono Wf.out.size))⟩):P:=h
theorem Y8 (w:World) (n₀ fb kb:Nat) (N:NG) (zy:List ByteArray) (pg:List Nm) (yZ:Option Addr) (yT gN yQ:Nat) (k:List Fa) (h:Aw w n₀ fb kb N zy pg yZ yT gN yQ k):
  Calls Tryz.prog 108 #[ac fb] w λe w'=>e=.returned (.tuple #[.string (Bzx pg k).1,ab (Bzx pg k).2])/\Below w.heap.size w w':=by
 have H:=hid h;have hfw:=h.lf;have Bi:=h.gr.Dm;clear h;obtain⟨nN,hn1⟩:=qF (N.nN);rw[<-hn1]at Bi;have HN:Hid (nN=N.nN):=hid hn1;have e1:∀args W,(callFunc 157 args).run Tryz.prog W=.ok (.enter 157 args) W:=rq Tryz.func157 yM rfl;have e2:∀args W,(callFunc 158 args).run Tryz.prog W=.ok (.enter 158 args) W:=rq Tryz.func158 yM rfl;have e3:∀args W,(callFunc 159 args).run Tryz.prog W=.ok (.enter 159 args) W:=rq Tryz.func159 yM rfl;have HI1:Hid (∀W,zY W kb nN k->Calls Tryz.prog 160 #[ae kb nN nN,.func (.func 157) #[] #[]] W λe w'=>e=.returned (ab (DM Mi k))/\Below W.heap.size W w'):=hid λW hW=>QB W kb nN k hW Bi _ Mi e1 j9
 have HI2:Hid (∀W,zY W kb nN k->Calls Tryz.prog 160 #[ae kb nN nN,.func (.func 158) #[] #[]] W λe w'=>e=.returned (ab (DM Nr k))/\Below W.heap.size W w'):=hid λW hW=>QB W kb nN k hW Bi _ Nr e2 jF
 have Ns:Hid (∀W,zY W kb nN k->Calls Tryz.prog 160 #[ae kb nN nN,.func (.func 159) #[] #[]] W λe w'=>e=.returned (ab (DM Mj k))/\Below W.heap.size W w'):=hid λW hW=>QB W kb nN k hW Bi _ Mj e3 l6
 clear e1 e2 e3 hn1
 go_enter Tryz.func108,Tryz.ntmps108
 have hnk:∀W,Below w.heap.size w W->zY W kb nN k:=λW hW=>by have h1:=H.out.kn.keeps (A5.zQ hW []) (by simp);rw[<-HN.out]at h1;exact h1
 have HNK:=hid hnk;clear hnk;go_wp2;obtain⟨W1,hW1⟩:=qE (w.alloc (.cells #[ab 6,.func (.func 157) #[] #[],ab 7,.func (.func 158) #[] #[],ab 8,.func (.func 159) #[] #[]] 282));have hc:∀j,W1.cell? (af w.heap.size j)= #[ab 6,.func (.func 157) #[] #[],ab 7,.func (.func 158) #[] #[],ab 8,.func (.func 159) #[] #[]][j]?:=λj=>by rw[<-hW1];exact BK w _ _ j
 have hWb:Below w.heap.size w W1:=by rw[<-hW1];exact Aj (ah _ _)
 have hWs:w.heap.size<W1.heap.size:=by rw[<-hW1,bh];omega
 have Yw:=hid hWb;have Jy:=hid hc;rw[hW1];clear hW1 hWb hc
 go_loopw [12] (λi wr=>∃j:Nat,j<=3/\i=ab j/\Hid ((1<=j->¬0<=DM Mi k)/\(2<=j->¬0<=DM Nr k)/\(3<=j->¬0<=DM Mj k))/\Hid (Below W1.heap.size W1 wr)) (λi _=>3 - (intOf i).toNat)
 case atStart=>exact⟨0,by omega,rfl,⟨λh=>by omega,λh=>by omega,λh=>by omega⟩,ah _ _⟩
 case round=>
  obtain⟨j,hj,rfl,hE,hB⟩:=hrel;have Wh:=hB.out.size;have Rp:Hid (Below w.heap.size w wr):=hid (Yw.out.trans (hB.out.mono (by omega)));have Nq:Hid (Aw wr n₀ fb kb N zy pg yZ yT gN yQ k):=hid (H.out.below Rp.out);have f1:=Nq.out.f1;have f2:=Nq.out.f2;rw[<-HN.out]at f1 f2;have hfr:fb<wr.heap.size:=by omega
  by_cases hlt:j<3
  ·have hj3:j=0\/j=1\/j=2:=by omega
   rcases hj3 with rfl |rfl |rfl
   ·have d0:wr.cell? (af w.heap.size 0)=some (ab 6):=(hB.out.cell (p:=(af w.heap.size 0)) aaQ).trans (Jy.out 0)
    have d1:wr.cell? (af w.heap.size 1)=some (.func (.func 157) #[] #[]):=(hB.out.cell (p:=(af w.heap.size 1)) aaQ).trans (Jy.out 1);go_wp2;have g0:=BK wr #[ab 6,.func (.func 157) #[] #[]] 282 0;have g1:=BK wr #[ab 6,.func (.func 157) #[] #[]] 282 1;have g2:=A6 (.cells #[ab 6,.func (.func 157) #[] #[]] 282) f2;have g3:=A6 (.cells #[ab 6,.func (.func 157) #[] #[]] 282) f1;have zO:Hid (Below wr.heap.size wr (wr.alloc (.cells #[ab 6,.func (.func 157) #[] #[]] 282))):=hid (Aj (ah _ _));have hs2:wr.heap.size< (wr.alloc (.cells #[ab 6,.func (.func 157) #[] #[]] 282)).heap.size:=by rw[bh];omega
    obtain⟨W2,hW2⟩:=qE (wr.alloc (.cells #[ab 6,.func (.func 157) #[] #[]] 282));rw[hW2]at g0 g1 g2 g3 zO hs2 ⊢;clear hW2 d0 d1 f1 f2;have g0:W2.cell? (af wr.heap.size 0)=some (ab 6):=g0;have g1:W2.cell? (af wr.heap.size 1)=some (.func (.func 157) #[] #[]):=g1;have Lh:Hid (Below w.heap.size w W2):=hid (Rp.out.trans (zO.out.mono Rp.out.size));have CI:=HI1.out W2.drew (HNK.out W2.drew (Cb Lh.out));obtain⟨x,hx⟩:=qE (DM Mi k);rw[hx]at CI;have HCI:=hid CI;have HX:Hid (DM Mi k=x):=hid hx;have hf2:fb<W2.heap.size:=by omega
    clear CI hx;refine dy (S:=λw'=>w'.cell? (af wr.heap.size 0)=some (ab 6)/\w'.cell? (af wr.heap.size 1)=some (.func (.func 157) #[] #[])/\w'.cell? (af fb 2)=some (ae kb nN nN)/\w'.cell? (af fb 1)=some (ae gN nN yQ)/\Below W2.heap.size W2 w') yM ⟨g0,g1,g2,g3,Cb (ah _ _)⟩ (λhH=>?_);refine tB 0 hH ?_;refine tB 1 hH ?_;refine tB 2 hH ?_;refine tB 3 hH ?_;refine tB 4 hH ?_;refine tB 5 hH ?_;refine tL ?_;refine tS 6 λK hK=>?_
    refine tM ?_;rw[ay (by rfl)];go_simp;refine HCI.out.mono ?_;rintro e w3 ⟨rfl,hb3⟩;refine hK.out _ _ ?_ λhH=>?_
    ·exact aec
    clear hK K;refine tB 7 hH ?_;refine tL ?_;refine bq yM ?_ _;obtain⟨z0,z1,z2,z3,zb⟩:=hH;have hgN:=H.out.gr.hgN;have Fg:=H.out.ln;have Ap:Hid (Below W1.heap.size W1 w3):=hid ((hB.out.trans (zO.out.mono hB.out.size)).trans (zb.mono (by omega)));have Wf:Hid (Below w.heap.size w w3):=hid (Lh.out.trans (zb.mono Lh.out.size));have hs3:wr.heap.size<w3.heap.size:=by have:=zb.size;omega
    have hf3:fb<w3.heap.size:=by have:=zb.size;omega
    have hg3:gN<w3.heap.size:=by have:=zb.size;omega
    clear g0 g1 g2 g3 hb3 zb z1 z2
    by_cases hx0:0<=x
    ·obtain⟨i,hi,hik⟩:=X0 (p:=Mi) (k:=k) aaH
     have hxi:x=(i:Int):=HX.out.symm.trans hi;subst hxi;have Kl:i<nN:=by rw[HN.out,<-H.out.kn.1];exact hik
     obtain⟨nm,hnm⟩:∃nm,pg[i]?=some nm:=⟨_,gE adP⟩;have cn:=(Wf.out.cell (p:=(af gN (i*2))) abe).trans (H.out.gr.names i nm hnm).1;have HR:Hid (Bzx pg k=(nm.1,6)):=hid (by
      unfold Bzx;rw[ay (by rw[hi];omega),hi];unfold Ui;rw[ug,Af,hnm];rfl)
     exact aed
    ·have hxn:x= -1:=HX.out.symm.trans (U7 aaH)
     have Ba:Hid ((1<=1->¬0<=DM Mi k)/\(2<=1->¬0<=DM Nr k)/\(3<=1->¬0<=DM Mj k)):=hid (by
      have h1:=hE.out;have h2:=HX.out;refine⟨λq=>?_,λq=>?_,λq=>?_⟩ <;> first |omega | (rw[h2];exact hx0) |exact h1.1 (by omega) |exact h1.2.1 (by omega))
     subst hxn;clear hx0;go_wp2
     go_roundw
     case rel=>exact⟨1,by omega,by go_num,Ba,Ap⟩
     case measure=>simp[intOf]
   ·have d0:wr.cell? (af w.heap.size 2)=some (ab 7):=(hB.out.cell (p:=(af w.heap.size 2)) aaQ).trans (Jy.out 2)
    have d1:wr.cell? (af w.heap.size 3)=some (.func (.func 158) #[] #[]):=(hB.out.cell (p:=(af w.heap.size 3)) aaQ).trans (Jy.out 3);go_wp2;have g0:=BK wr #[ab 7,.func (.func 158) #[] #[]] 282 0;have g1:=BK wr #[ab 7,.func (.func 158) #[] #[]] 282 1;have g2:=A6 (.cells #[ab 7,.func (.func 158) #[] #[]] 282) f2;have g3:=A6 (.cells #[ab 7,.func (.func 158) #[] #[]] 282) f1;have zO:Hid (Below wr.heap.size wr (wr.alloc (.cells #[ab 7,.func (.func 158) #[] #[]] 282))):=hid (Aj (ah _ _));have hs2:wr.heap.size< (wr.alloc (.cells #[ab 7,.func (.func 158) #[] #[]] 282)).heap.size:=by rw[bh];omega
    obtain⟨W2,hW2⟩:=qE (wr.alloc (.cells #[ab 7,.func (.func 158) #[] #[]] 282));rw[hW2]at g0 g1 g2 g3 zO hs2 ⊢;clear hW2 d0 d1 f1 f2;have g0:W2.cell? (af wr.heap.size 0)=some (ab 7):=g0;have g1:W2.cell? (af wr.heap.size 1)=some (.func (.func 158) #[] #[]):=g1;have Lh:Hid (Below w.heap.size w W2):=hid (Rp.out.trans (zO.out.mono Rp.out.size));have CI:=HI2.out W2.drew (HNK.out W2.drew (Cb Lh.out));obtain⟨x,hx⟩:=qE (DM Nr k);rw[hx]at CI;have HCI:=hid CI;have HX:Hid (DM Nr k=x):=hid hx;have hf2:fb<W2.heap.size:=by omega
    clear CI hx;refine dy (S:=λw'=>w'.cell? (af wr.heap.size 0)=some (ab 7)/\w'.cell? (af wr.heap.size 1)=some (.func (.func 158) #[] #[])/\w'.cell? (af fb 2)=some (ae kb nN nN)/\w'.cell? (af fb 1)=some (ae gN nN yQ)/\Below W2.heap.size W2 w') yM ⟨g0,g1,g2,g3,Cb (ah _ _)⟩ (λhH=>?_);refine tB 0 hH ?_;refine tB 1 hH ?_;refine tB 2 hH ?_;refine tB 3 hH ?_;refine tB 4 hH ?_;refine tB 5 hH ?_;refine tL ?_;refine tS 6 λK hK=>?_
    refine tM ?_;rw[ay (by rfl)];go_simp;refine HCI.out.mono ?_;rintro e w3 ⟨rfl,hb3⟩;refine hK.out _ _ ?_ λhH=>?_
    ·exact aec
    clear hK K;refine tB 7 hH ?_;refine tL ?_;refine bq yM ?_ _;obtain⟨z0,z1,z2,z3,zb⟩:=hH;have hgN:=H.out.gr.hgN;have Fg:=H.out.ln;have Ap:Hid (Below W1.heap.size W1 w3):=hid ((hB.out.trans (zO.out.mono hB.out.size)).trans (zb.mono (by omega)));have Wf:Hid (Below w.heap.size w w3):=hid (Lh.out.trans (zb.mono Lh.out.size));have hs3:wr.heap.size<w3.heap.size:=by have:=zb.size;omega
    have hf3:fb<w3.heap.size:=by have:=zb.size;omega
    have hg3:gN<w3.heap.size:=by have:=zb.size;omega
    clear g0 g1 g2 g3 hb3 zb z1 z2
    by_cases hx0:0<=x
    ·obtain⟨i,hi,hik⟩:=X0 (p:=Nr) (k:=k) aaH
     have hxi:x=(i:Int):=HX.out.symm.trans hi;subst hxi;have Kl:i<nN:=by rw[HN.out,<-H.out.kn.1];exact hik
     obtain⟨nm,hnm⟩:∃nm,pg[i]?=some nm:=⟨_,gE adP⟩;have cn:=(Wf.out.cell (p:=(af gN (i*2))) abe).trans (H.out.gr.names i nm hnm).1;have HR:Hid (Bzx pg k=(nm.1,7)):=hid (by
      unfold Bzx;rw[aq (by have:=hE.out.1 (by omega);omega)];rw[ay (by rw[hi];omega),hi];unfold Ui;rw[ug,Af,hnm];rfl)
     exact aed
    ·have hxn:x= -1:=HX.out.symm.trans (U7 aaH)
     have Ba:Hid ((1<=2->¬0<=DM Mi k)/\(2<=2->¬0<=DM Nr k)/\(3<=2->¬0<=DM Mj k)):=hid (by
      have h1:=hE.out;have h2:=HX.out;refine⟨λq=>?_,λq=>?_,λq=>?_⟩ <;> first |omega | (rw[h2];exact hx0) |exact h1.1 (by omega) |exact h1.2.1 (by omega))
     subst hxn;clear hx0;go_wp2
     go_roundw
     case rel=>exact⟨2,by omega,by go_num,Ba,Ap⟩
     case measure=>simp[intOf]
   ·have d0:wr.cell? (af w.heap.size 4)=some (ab 8):=(hB.out.cell (p:=(af w.heap.size 4)) aaQ).trans (Jy.out 4)
    have d1:wr.cell? (af w.heap.size 5)=some (.func (.func 159) #[] #[]):=(hB.out.cell (p:=(af w.heap.size 5)) aaQ).trans (Jy.out 5);go_wp2;have g0:=BK wr #[ab 8,.func (.func 159) #[] #[]] 282 0;have g1:=BK wr #[ab 8,.func (.func 159) #[] #[]] 282 1;have g2:=A6 (.cells #[ab 8,.func (.func 159) #[] #[]] 282) f2;have g3:=A6 (.cells #[ab 8,.func (.func 159) #[] #[]] 282) f1;have zO:Hid (Below wr.heap.size wr (wr.alloc (.cells #[ab 8,.func (.func 159) #[] #[]] 282))):=hid (Aj (ah _ _));have hs2:wr.heap.size< (wr.alloc (.cells #[ab 8,.func (.func 159) #[] #[]] 282)).heap.size:=by rw[bh];omega
    obtain⟨W2,hW2⟩:=qE (wr.alloc (.cells #[ab 8,.func (.func 159) #[] #[]] 282));rw[hW2]at g0 g1 g2 g3 zO hs2 ⊢;clear hW2 d0 d1 f1 f2;have g0:W2.cell? (af wr.heap.size 0)=some (ab 8):=g0;have g1:W2.cell? (af wr.heap.size 1)=some (.func (.func 159) #[] #[]):=g1;have Lh:Hid (Below w.heap.size w W2):=hid (Rp.out.trans (zO.out.mono Rp.out.size));have CI:=Ns.out W2.drew (HNK.out W2.drew (Cb Lh.out));obtain⟨x,hx⟩:=qE (DM Mj k);rw[hx]at CI;have HCI:=hid CI;have HX:Hid (DM Mj k=x):=hid hx;have hf2:fb<W2.heap.size:=by omega
    clear CI hx;refine dy (S:=λw'=>w'.cell? (af wr.heap.size 0)=some (ab 8)/\w'.cell? (af wr.heap.size 1)=some (.func (.func 159) #[] #[])/\w'.cell? (af fb 2)=some (ae kb nN nN)/\w'.cell? (af fb 1)=some (ae gN nN yQ)/\Below W2.heap.size W2 w') yM ⟨g0,g1,g2,g3,Cb (ah _ _)⟩ (λhH=>?_);refine tB 0 hH ?_;refine tB 1 hH ?_;refine tB 2 hH ?_;refine tB 3 hH ?_;refine tB 4 hH ?_;refine tB 5 hH ?_;refine tL ?_;refine tS 6 λK hK=>?_
    refine tM ?_;rw[ay (by rfl)];go_simp;refine HCI.out.mono ?_;rintro e w3 ⟨rfl,hb3⟩;refine hK.out _ _ ?_ λhH=>?_
    ·exact aec
    clear hK K;refine tB 7 hH ?_;refine tL ?_;refine bq yM ?_ _;obtain⟨z0,z1,z2,z3,zb⟩:=hH;have hgN:=H.out.gr.hgN;have Fg:=H.out.ln;have Ap:Hid (Below W1.heap.size W1 w3):=hid ((hB.out.trans (zO.out.mono hB.out.size)).trans (zb.mono (by omega)));have Wf:Hid (Below w.heap.size w w3):=hid (Lh.out.trans (zb.mono Lh.out.size));have hs3:wr.heap.size<w3.heap.size:=by have:=zb.size;omega
    have hf3:fb<w3.heap.size:=by have:=zb.size;omega
    have hg3:gN<w3.heap.size:=by have:=zb.size;omega
    clear g0 g1 g2 g3 hb3 zb z1 z2
    by_cases hx0:0<=x
    ·obtain⟨i,hi,hik⟩:=X0 (p:=Mj) (k:=k) aaH
     have hxi:x=(i:Int):=HX.out.symm.trans hi;subst hxi;have Kl:i<nN:=by rw[HN.out,<-H.out.kn.1];exact hik
     obtain⟨nm,hnm⟩:∃nm,pg[i]?=some nm:=⟨_,gE adP⟩;have cn:=(Wf.out.cell (p:=(af gN (i*2))) abe).trans (H.out.gr.names i nm hnm).1;have HR:Hid (Bzx pg k=(nm.1,8)):=hid (by
      unfold Bzx;rw[aq (by have:=hE.out.1 (by omega);omega),aq (by have:=hE.out.2.1 (by omega);omega)];rw[ay (by rw[hi];omega),hi];unfold Ui;rw[ug,Af,hnm];rfl)
     exact aed
    ·have hxn:x= -1:=HX.out.symm.trans (U7 aaH)
     have Ba:Hid ((1<=3->¬0<=DM Mi k)/\(2<=3->¬0<=DM Nr k)/\(3<=3->¬0<=DM Mj k)):=hid (by
      have h1:=hE.out;have h2:=HX.out;refine⟨λq=>?_,λq=>?_,λq=>?_⟩ <;> first |omega | (rw[h2];exact hx0) |exact h1.1 (by omega) |exact h1.2.1 (by omega))
     subst hxn;clear hx0;go_wp2
     go_roundw
     case rel=>exact⟨3,by omega,by go_num,Ba,Ap⟩
     case measure=>simp[intOf]
  ·have HR:Hid (Bzx pg k=(ByteArray.empty,0)):=hid (by
    unfold Bzx;rw[aq (hE.out.1 (by omega)),aq (hE.out.2.1 (by omega)),aq (hE.out.2.2 (by omega))])
   go_wp2
   go_ret2
   exact⟨by rw[HR.out];rfl,Rp.out⟩
theorem xS {α:Type} (m:Nat) (f:α->List Value) (hf:∀a,(f a).length=m):∀(l:List α) (i:Nat) (a:α) (j:Nat),l[i]?=some a->j<m->(l.flatMap f)[i*m+j]?=(f a)[j]?:=by
 intro l
 induction l with
 |nil=>intro i a j h;simp at h
 |cons x r ih=>
  intro i a j h hj;rw[ij]
  match i with
  |0=>
   simp at h;subst h;rw[aL abj]
   congr 1;omega
  |i+1=>
   simp at h;rw[Bc (by rw[hf,vn];omega),hf];rw[<-ih i a j h hj]
   congr 1;rw[vn];omega
theorem oS {α:Type} (m:Nat) (f:α->List Value) (hf:∀a,(f a).length=m) (l:List α):(l.flatMap f).length=l.length*m:=by
 induction l with
 |nil=>simp
 |cons x r ih=>rw[ij,lA,ih,hf,lC,vn];omega
theorem NZ {α:Type} (m:Nat) (hm:0<m) (f:α->List Value) (hf:∀a,(f a).length=m) (a:α) (n:Nat):(madeCells (f a).toArray (n*m)).toList=(List.replicate n a).flatMap f:=by
 apply oo;intro q
 by_cases hq:q<n*m
 ·have hd:q / m<n:=by rw[Nat.div_lt_iff_lt_mul hm];exact hq
  have hr:q % m<m:=Nat.mod_lt _ hm;have h1:=xS m f hf (List.replicate n a) (q / m) a (q % m) (by simp[hd]) hr;rw[show q / m*m+q % m=q from by rw[Nat.mul_comm];exact Nat.div_add_mod q m]at h1;rw[h1];unfold madeCells;rw[Array.toList_map,gM];rw[show(Array.range (n*m)).toList[q]?=some q from by simp[hq]];simp only[kq,jf,hf];rw[gE (by rw[hf];exact hr)];simp[hf,hr]
 ·rw[eo (by rw[ze,vh];omega),eo (by rw[oS m f hf];simp;omega)]
theorem LM (w:World) (cur:Array Value) (n size e base:Nat) (hb:base<=w.heap.size) (hm:n<=maxLen) (hs:cur.size=n*size):
  (w.alloc (.cells cur e)).ownsRow base e size (ae w.heap.size n n) n cur.toList:=
 ⟨by rw[ze];exact hs,.inr ⟨w.heap.size,n,cur,rfl,hb,dz w _,zn _,hm,hs,jk (by rw[ze,hs];exact zn _)⟩⟩
end Go.Proofs.YtjjggdcnpndgjaaGreatDoor
