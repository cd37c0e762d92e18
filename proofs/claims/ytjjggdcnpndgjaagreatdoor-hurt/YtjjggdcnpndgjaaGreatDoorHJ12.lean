import Derived.Test.YtjjggdcnpndgjaaGreatDoorHJ11
import Derived.Laws.StructEq
import Derived.Lib.SliceRun
import Derived.OrdersIn
import Derived.TacticsIn
import Derived.Sort.LoopGhostIn
import Derived.Shelf.RegionOpen
set_option linter.unusedSimpArgs false
set_option maxHeartbeats 1000000
set_option maxRecDepth 100000
namespace Go.Proofs.YtjjggdcnpndgjaaGreatDoor
abbrev ay:=@Go.World.alloc_heap_new
abbrev mh:=@Array.getElem?_eq_some_iff
abbrev mq:=@Go.callsIn_wide
abbrev ni:=@Go.World.frozen?_of_block
abbrev qa:=@Go.grownBy_putObj'
abbrev qg:=@Go.callsIn_of_wp_marks
abbrev qo:=@Go.Proofs.enters_of
abbrev rz:=@Go.World.putObj_heap_other
abbrev uo:=@Go.run_takeDeferred
abbrev wm:=@Go.wpIn_rangeFunc_ownG
abbrev xX:=@Go.belowK_b
abbrev ym:=@Go.CallsIn.inRound
abbrev yq:=@Go.wpIn_loop_ghost
open Go.RowKit Go.Shelf
variable {N:NG}{P:Program}{Q:Exit->Act->World->Prop}{W w:World}{a:Fa}{yu:Option Addr}{xY yl fb gN i j kb l n n₀:Nat}{k:List Fa}{ops:Array Oper}{pg:List Nm}{yL:List ByteArray}
theorem U0 (F:Fence) (n:Nat) (hF:F.fn 130) (hro:F.round=none) (yu:Option Addr) (nT yl gN nN xY:Nat) (w:World):
  CallsIn F n Tryz.prog 130 #[.agg #[.slice yu nT yl,ae gN nN xY]] w λe w'=>e=.returned (.func (.func 183) #[] #[ac w.heap.size])/\
   w'=w.alloc (.cells #[.slice yu nT yl,ae gN nN xY] 135):=by
 refine ud Tryz.func130 rfl hF ?_ hro;simp only[Tryz.ntmps130,iz,lC,iw,Nat.reduceAdd,Nat.reduceSub,jg,jh,ju,jo,eu,ig]
 gi_wp2
 go_ret;exact⟨rfl,rfl⟩
theorem NU (F:Fence) (n:Nat) (hF:F.fn 183) (hro:F.round=none) (hn:1<=n) (Bn n₀:Nat) (N:NG) (yL:List ByteArray) (pg:List Nm) (yu:Option Addr) (yl gN xY:Nat) (Wb w:World)
  (hP:Ba Wb n₀ N yL pg yu yl gN xY) (hbW:Below n₀ Wb w) (hn₀:n₀<=Wb.heap.size) (hB:Bn<w.heap.size) (Lu:w.cell? (af Bn 1)=some (ae gN N.nN xY)):
  SeqStopsK F n Tryz.prog 183 #[ac Bn] (WV (N:=N) (Wb:=Wb) (n₀:=n₀)) (Below n₀) (λys=>ys.map (λx=>x.1.1)=N.rules) (λ_=>True) N.rules.length w:=λl J Jx W hW hJ _ hY h0=>by
 have hb:Below n₀ Wb W:=hbW.trans (hW.mono (y5 hn₀ hbW.size));refine(mF F n hF hro hn l Bn n₀ N yL pg yu yl gN xY Wb hP J Jx W hJ hb hn₀ hY ((hW.cell (p:=(af Bn 1)) hB).trans Lu) h0).mono ?_;rintro e W' ⟨h1,h2⟩;exact⟨h1,h2⟩
theorem Tryz.info216:(Tryz.prog.info? 216).map (λi=>(i.zero,i.size,i.bytes))=some (some (.agg #[ab 0,.bool false,.int .u32 0,.int .u32 0]),4,24):=by kernel_rfl
theorem SO (k:List Fa):(DN k).length=k.length*4:=by
 unfold DN
 induction k with
 |nil=>rfl
 |cons a r ih=>rw[gy,lA,ih];simp;omega
theorem dQ {u:Value} (h:u∈DN k):u.oneCell'=true:=by
 unfold DN at h;rw[ow]at h;obtain⟨a,_,h⟩:=h;simp at h
 rcases h with rfl |rfl |rfl |rfl <;> rfl
theorem kV (w:World) (kb n:Nat) (k:List Fa) (hK:y8 w kb n k) (hn:n<=20) (h0:0<n):
  Calls Tryz.prog 204 #[ae kb n n] w λe w'=>∃g cap,e=.returned (ae g n cap)/\w.heap.size<=g/\n<=cap/\(∀j,j<n*4->w'.cell? (af g j)=(DN k)[j]?)/\g<w'.heap.size/\Below w.heap.size w w':=by
 obtain⟨i0,hi,hz0,hz1,hz2⟩:=jc Tryz.info216;have qT:∀(w:World) (a:Option Addr) (n c n' c':Nat),(binOp .eql 136 (.slice a n c) (.slice none n' c')).run Tryz.prog w=.ok (.bool a.isNone) w:=λw a n c n' c'=>Lib.run_eql_slice_nil w _ _ a n c n' c' Tryz.underlying136
 have HK:Hid (y8 w kb n k):=hid hK;clear hK
 go_enter Tryz.func204,Tryz.ntmps204
 have hkl:=HK.out.lt;have aaN:(w.alloc (.cells #[] 216)).ownsRow w.heap.size 216 4 (ae w.heap.size 0 0) 0 []:=World.ownsRow_made w #[] 0 (yF _) zX rfl;have hnews:∀(j:Nat) (u:Value),(DN k)[j]?=some u->(w.alloc (.cells #[] 216)).cell? (((af kb 0):Addr).add j)=some u:=λj u hu=>by
  have hj:=(yS.1 hu).1;rw[SO,HK.out.1]at hj;have h1:=HK.out.2.cellAt j hj;rw[hu]at h1;have h2:((af kb 0):Addr).add j=(af kb j):=by simp[Addr.add];exact λe=>e.symm
  rw[h2];exact(((ah w.heap.size w).alloc (yF _) _).cell (by exact hkl)).trans h1
 have ac8:=hid hnews;have aaO:=hid aaN;clear hnews aaN
 go_wp2_with (first
  | (at_builtin;refine xR _ rfl _ _ 136 rfl w.heap.size 216 i0 (.agg #[.int .i64 0,.bool false,.int .u32 0,.int .u32 0]) 4 24 Tryz.underlying136 hi hz0 hz1 hz2 rfl (by decide) _ _ _ rfl aaO.out ⟨kb,0,none⟩ n n (DN k) rfl (by rw[SO,HK.out.1]) ac8.out (λu hu=>dQ hu) zX (by omega) (by simp) ?_;intro v' w1 hown' hgrow _))
 rw[jl]at hown';obtain⟨g,cap,hv,Av,hg2,hg3⟩:=AX hown' h0;subst hv;have hcells:∀j,j<n*4->w1.cell? (af g j)=(DN k)[j]?:=λj hj=>hown'.cellAt j hj
 have HC:=hid hcells;have HB:Hid (Below w.heap.size w w1):=hid (((ah w.heap.size w).alloc (yF _) _).grown hgrow (by simp) (λq hq=>(aaO.out.lt q hq).1));clear hcells hown' hgrow;go_wp2;go_ret;exact⟨g,cap,rfl,Av,hg3,HC.out,hg2,HB.out⟩
theorem qR (a b:Int) (c d:Bool) (e f g h:Int) (w:World):(binOp .neq 216 (.agg #[ab a,.bool c,.int .u32 e,.int .u32 g]) (.agg #[ab b,.bool d,.int .u32 f,.int .u32 h])).run Tryz.prog w=.ok (.bool (!(a==b&&(c==d&&(e==f&&g==h))))) w:=by
 have hS:Tryz.prog.underlying 216=some (.struct (Tryz.prog.fieldsOf 216)):=by kernel_rfl
 have hp:Tryz.prog.stoodInHeld 216=false:=by kernel_rfl
 have u3:=Tryz.underlying3;have u4:=Tryz.underlying4;have u5:=Tryz.underlying214;have a3:=Tryz.isAgg3;have z3:=Tryz.sizeOf3;have a4:=Tryz.isAgg4;have z4:=Tryz.sizeOf4;have a5:=Tryz.isAgg214;have z5:=Tryz.sizeOf214;rw[run_neq_struct,show(10000:Nat)=9999+1 from rfl,run_equalIn_agg w 9999 216 _ _ hS hp];simp only[Program.fieldsOf,Tryz.underlying216];go_simp
 by_cases h1:a=b <;> by_cases h2:c=d <;> by_cases h3:e=f <;> by_cases h4:g=h <;> simp[h1,h2,h3,h4]
theorem bG  (ha:k[j]?=some a):(DN k)[j*4]?=some (ab a.least)/\(DN k)[j*4+1]?=some (.bool a.reached)/\(DN k)[j*4+2]?=some (.int .u32 a.first)/\(DN k)[j*4+3]?=some (.int .u32 a.follow):=by
 have h4:=λj' hj=>PZ (λa:Fa=>[ab a.least,.bool a.reached,.int .u32 a.first,.int .u32 a.follow]) (λ_=>rfl) k j a j' ha hj
 exact⟨h4 0 (by omega),h4 1 (by omega),h4 2 (by omega),h4 3 (by omega)⟩
theorem nP (w:World) (g1 g2 n c1 c2:Nat) (k1 k2:List Fa) (h1:k1.length=n) (h2:k2.length=n) (hn:n<=20) (hk1:∀j,j<n*4->w.cell? (af g1 j)=(DN k1)[j]?) (hk2:∀j,j<n*4->w.cell? (af g2 j)=(DN k2)[j]?):
  Calls Tryz.prog 205 #[ae g1 n c1,ae g2 n c2] w λe w'=>e=.returned (.bool (decide (k1=k2)))/\∃q,w'=w.drewN q:=by
 have Aa:=hid hk1;have Fc:=hid hk2;have HL:Hid (k1.length=n/\k2.length=n):=hid ⟨h1,h2⟩;clear hk1 hk2 h1 h2;have akK:=fun(a b:Int) (c d:Bool) (e f g h:Int) (w:World)=>qR a b c d e f g h w
 go_enter Tryz.func205,Tryz.ntmps205
 go_wp2
 go_loopw [13] (λi wr=>∃j q:Nat,j<=n/\i=ab j/\wr=w.drewN q/\Hid (∀m,m<j->k1[m]?=k2[m]?)) (λi _=>n - (intOf i).toNat)
 case atStart=>exact⟨0,0,bu _,rfl,rfl,λj hj=>by omega⟩
 case round=>
  obtain⟨j,q,hj,rfl,rfl,hno⟩:=hrel
  by_cases hlt:j<n
  ·obtain⟨a,ha⟩:∃a,k1[j]?=some a:=⟨_,gE (by rw[HL.out.1];exact hlt)⟩
   obtain⟨b,hb⟩:∃b,k2[j]?=some b:=⟨_,gE (by rw[HL.out.2];exact hlt)⟩;obtain⟨a0,a1,a2,a3⟩:=bG ha;obtain⟨b0,b1,b2,b3⟩:=bG hb;have p0:=(Aa.out (j*4) (by omega)).trans a0;have p1:=(Aa.out (j*4+1) (by omega)).trans a1;have p2:=(Aa.out (j*4+2) (by omega)).trans a2;have p3:=(Aa.out (j*4+3) (by omega)).trans a3;have r0:=(Fc.out (j*4) (by omega)).trans b0;have r1:=(Fc.out (j*4+1) (by omega)).trans b1;have r2:=(Fc.out (j*4+2) (by omega)).trans b2;have r3:=(Fc.out (j*4+3) (by omega)).trans b3;have HA:Hid (k1[j]?=some a/\k2[j]?=some b):=hid ⟨ha,hb⟩;clear a0 a1 a2 a3 b0 b1 b2 b3 ha hb;cases he:((a.least:Int)==(b.least:Int)&&(a.reached==b.reached&&((a.first:Int)==(b.first:Int)&&(a.follow:Int)==(b.follow:Int))))
   ·have HE:Hid (decide (k1=k2)=false):=hid (fq λe=>by
     have h3:=HA.out.1;rw[e,HA.out.2]at h3;injection h3 with h3
     rw[h3]at he;simp at he)
    go_wp2
    go_quiet (fail)
    go_wp2;go_ret;exact⟨BV HE.out,_,by first |rfl |exact World.drewN_drewN ..⟩
   ·have HE:Hid (∀m,m<j+1->k1[m]?=k2[m]?):=hid (EY hno.out (by
     rw[HA.out.1,HA.out.2];simp only[fu,lq]at he;obtain⟨e1,e2,e3,e4⟩:=he
     congr 1
     cases a;cases b;simp only at e1 e2 e3 e4;simp only[Fa.mk.injEq];exact⟨by omega,e2,by omega,by omega⟩))
    go_wp2
    go_quiet (fail)
    go_wp2
    go_roundw
    case rel=>exact⟨j+1,_,by omega,by go_num,by first |rfl |exact World.drewN_drewN ..,HE⟩
    case measure=>simp[intOf];omega
  ·have HE:Hid (decide (k1=k2)=true):=hid (ij (by
    apply nu;intro m
    by_cases hm:m<n
    ·exact hno.out m (by omega)
    ·rw[dy (by rw[HL.out.1];omega),dy (by rw[HL.out.2];omega)]))
   go_wp2;go_ret;exact⟨BV HE.out,_,rfl⟩
def VG (ops:Array Oper):Bool:=ops.toList.all λo=>match o.op with
 | .defer _=>false
 |_=>true
theorem qX  (h:VG ops=true) {o:Oper} (ho:ops[i]?=some o):∀c,o.op≠ .defer c:=by
 intro c hc;have h1:=nj.1 h o (by
  rw[<-Array.getElem?_toList]at ho;exact mG ho)
 rw[hc]at h1;simp at h1
theorem gZ {o:Oper}{a:Act}{K:Act->World->Prop}{r:Result Next} (h:o.upon P a K Q r):o.uponIn (Fence.wide.inRound l) n P a K Q r:=by
 cases r with
 |ok x w'=>
  cases x <;> simp only[Oper.upon]at h <;> simp only[Oper.uponIn]
  case value v=>exact h
  case skip=>exact h
  case defer d=>exact h
  case enter f args=>exact⟨λe=>by simp[Fence.inRound,Fence.wide]at e,ym l (mq.2 h)⟩
  case row row args=>
   refine⟨λe=>by simp[Fence.inRound,Fence.wide]at e,λc cs _=>?_⟩;obtain⟨v,w2,h1,h2⟩:=h c cs;exact⟨v,w2,h1,stepsIn_wide.2 h2⟩
 |halt x w'=>cases x <;> simp only[Oper.upon]at h <;> simp only[Oper.uponIn] <;> first |exact h |exact h.elim
theorem T0 {md:Region.Mode} (hd:VG ops=true) (hQ:¬LetsOut Q):
  ∀(fuel:Nat) (listed:Array Bool) (a:Act) (w:World),wpAny P md ops Q fuel listed a w->wpAnyIn (Fence.wide.inRound l) n P md ops Q fuel listed a w:=by
 intro fuel
 induction fuel with
 |zero=>intro listed a w h;exact h
 |succ fuel ih=>
  intro listed a w h;refine⟨h.1,λi hi=>?_⟩;have h1:=h.2 i hi;unfold wpOp at h1;unfold wpOpIn;split
  ·rename_i e
   simp only[e]at h1;exact ih _ _ _ h1
  ·rename_i o e
   simp only[e]at h1;split
   ·rename_i hw
    rw[aq hw]at h1;have h2:=h1.resolve_right (λh3=>hQ h3.2);refine⟨λ_ _=>trivial,?_⟩;rw[show(Fence.wide.inRound l).round=some l from rfl,Oper.semAt_some l _ o (qX hd e)];exact gZ (Oper.wp_mono (λa w=>ih _ a w) h2)
   ·rename_i hw
    rw[au hw]at h1;exact⟨λ_ _=>trivial,ih _ _ _ h1⟩
theorem GB {id:Nat}{a:Act}{S:World->Prop} (hm:P.follows .mixedOrders=true) (hd:VG ops=true) (hQ:¬LetsOut Q) (hS:S w.drew)
  (h:S w.drew->wpAnyH P .any ops Q S ops.size (Array.replicate ops.size false) a w.drew):(Code.region id ops true).wpIn (Fence.wide.inRound l) n P Q a w:=
 wpIn_region_any hm (T0 hd hQ _ _ _ _ (wpAny_of_held _ _ _ _ (h hS)))
section
attribute [local go_sem] Oper.semAt_some
def V9 (Ds:List Nat):List Deferred:=Ds.map λD=>{target:=.collected D,args:= #[]}
theorem KW {F:Fence}{fn:Func}{tmps:Array Value}{R:Ending->World->Prop} (B:Nat) (Pd:World->Prop)
  (hP:∀w' D,Pd w'->B<=D->w'.heap[D]?=some (.deferred (some []))->Pd (w'.putObj D (.deferred none)))
  (h:∀w',Pd w'->LeavesInM F n P fn tmps R [] .returning w'):∀(Ds:List Nat) (w:World),Pd w->Ds.Nodup->(∀D∈Ds,B<=D/\w.heap[D]?=some (.deferred (some [])))->LeavesInM F n P fn tmps R (V9 Ds) .returning w:=by
 intro Ds
 induction Ds with
 |nil=>intro w hk _ _;exact h w hk
 |cons D Ds ih=>
  intro w hk hn hD;have hd:=hD D (eo ..);refine⟨by simp,.inl ⟨D,_,rfl,uo hd.2,?_⟩⟩;refine ih _ (hP w D hk hd.1 hd.2) (List.nodup_cons.1 hn).2 ?_;intro D' Eu;have h1:=hD D' (fj _ Eu);refine⟨h1.1,?_⟩;rw[rz (λe=>(List.nodup_cons.1 hn).1 (by rw[<-e];exact Eu))];exact h1.2
theorem KeepsFrom.Kk {B:Nat}{V V1:World}{S:List Nat} (h:A1 V V1 S) (hS:∀k∈S,k<B):KeepsFrom B V V1:=
 ⟨h.size,λk o hB hk _=>(h.block k (mh.1 hk).1 (λhm=>by have:=hS k hm;omega)).trans hk⟩
def DX (w:World) (Ds:List Nat) (W:World):Prop:=Ds.Nodup/\∀D∈Ds,w.heap.size<=D/\W.heap[D]?=some (.deferred (some []))
theorem DX.keeps {W':World}{Ds:List Nat}{S:List Nat} (h:DX w Ds W) (hk:A1 W W' S) (hS:∀k∈S,∃c e f,W.heap[k]?=some (.cells c e f)):DX w Ds W':=
 ⟨h.1,λD hD=>⟨(h.2 D hD).1,(hk.block D (mh.1 (h.2 D hD).2).1 (λhm=>by
  obtain⟨c,e,f,h1⟩:=hS D hm;rw[(h.2 D hD).2]at h1;simp at h1)).trans (h.2 D hD).2⟩⟩
theorem DX.cons {W0:World}{Ds:List Nat}{D:Nat} (h0:DX w Ds W0) (h:DX w Ds W) (hw:w.heap.size<=W0.heap.size) (hD:W0.heap.size<=D) (hd:W.heap[D]?=some (.deferred (some []))):DX w (D::Ds) W:=
 ⟨List.nodup_cons.2 ⟨λhm=>by have:=(mh.1 (h0.2 D hm).2).1;omega,h.1⟩,λD' Eu=>by
  rcases bh.1 Eu with rfl |Eu
  ·exact⟨by omega,hd⟩
  ·exact h.2 D' Eu⟩
theorem y8.kind  (h:y8 w kb n k):∀b∈ [kb],∃c e f,w.heap[b]?=some (.cells c e f):=by
 intro b hb;obtain rfl:b=kb:=by simpa using hb
 obtain⟨c,h1⟩:=BI h.2 (g:=b) rfl;exact⟨c,_,_,h1⟩
theorem y8.step {W':World}{B:Nat}{row:Option Nat} (h:y8 W kb n k) (hB:kb<B) (hg:W.grownBy W' row) (hr:∀r,row=some r->B<=r/\∃o:Obj,W.heap[r]?=some o/\o.isCells=false):y8 W' kb n k:=
 h.keeps ((A1.refl W row.toList).grown hg (λk e=>.inl Ld)) (λhm=>by
  cases row with
  |none=>simp at hm
  |some r=>
   obtain rfl:kb=r:=by simpa using hm
   have:=(hr kb rfl).1;omega)
theorem BF (W:World) (cs:Array Value) (t j:Nat):(W.alloc (.cells cs t)).cell? (af W.heap.size j)=cs[j]?:=A0 (ay W _)
theorem GL (W:World) (v:Value) (t:Nat):(W.alloc (.cells #[v] t)).cell? (af W.heap.size 0)=some v:=BF W _ t 0
theorem A2 {a:Addr}{v:Value} (o:Obj) (h:W.cell? a=some v):(W.alloc o).cell? a=some v:=cell_kept h (World.grownBy_alloc W o none) (λr e=>by cases e)
theorem ML (N:NG) (yL:List ByteArray) (pg:List Nm) (yu:Option Addr) (yl gN xY kb fb n₀:Nat) (w:World) (hP:Ba w n₀ N yL pg yu yl gN xY) (hkb:n₀<=kb) (Pk:fb<w.heap.size) (hfk:fb≠kb) (hfn:n₀<=w.heap.size)
  (f0:w.cell? (af fb 0)=some (.slice yu N.nT yl)) (f1:w.cell? (af fb 1)=some (ae gN N.nN xY)) (f2:w.cell? (af fb 2)=some (ae kb N.nN N.nN))
  (sf:Nat) (lb:Array Value) (he:∀args W,(callFunc sf args).run Tryz.prog W=.ok (.enter sf args) W)
  (step:List Fa->Nat × List Pt->List Fa) (μ:List Fa->Nat) (Inv:List Fa->Prop) (afg:∀k,Inv k->∀r∈N.rules,(step k r=k\/μ (step k r)<μ k)/\Inv (step k r))
  (hstep:∀W k r v,A1 w W [kb]->y8 W kb N.nN k->Inv k->r∈N.rules->C0 W n₀ v r.2->Calls Tryz.prog sf (#[.pointer (some (af kb (r.1*4))),v]++lb) W λe W'=>e=.returned (.tuple #[])/\y8 W' kb N.nN (step k r)/\A1 W W' [kb])
  (hpos:0<N.nN) (k0:List Fa) (hk0:y8 w kb N.nN k0) (hI0:Inv k0):
  Calls Tryz.prog 153 #[ac fb,.func (.func sf) #[] lb] w λe w'=>e=.returned (.tuple #[])/\A1 w w' [kb]/\∃k,Inv k/\(∀r∈N.rules,step k r=k)/\y8 w' kb N.nN k:=by
 refine(mq (n:=4)).1 ?_;refine qg Tryz.func153 rfl trivial ?_ rfl;simp only[Tryz.ntmps153,iz,lC,iw,Nat.reduceAdd,Nat.reduceSub,jg,jh,ju,jo,eu,ig]
 gi_wp2
 have HP:Hid (Ba w n₀ N yL pg yu yl gN xY):=hid hP;have HS:=hid hstep;have HI:=hid afg;have y7:=hk0.lt;have afh:=hP.Bt;have Pm:=hP.lN;have hgN:=hP.hgN;have HF:Hid (w.cell? (af fb 0)=some (.slice yu N.nT yl)/\w.cell? (af fb 1)=some (ae gN N.nN xY)/\w.cell? (af fb 2)=some (ae kb N.nN N.nN)):=hid ⟨f0,f1,f2⟩;have hKS:A1 w ((w.alloc (.cells #[ac fb] 212)).alloc (.cells #[.func (.func sf) #[] lb] 280)) [kb]:=((A1.refl w _).alloc _).alloc _;refine yq (λg a W=>∃(u4 u5 u6 u7 u8 u9 u10 u11 u12 u13 u14 u15 u16 u17 u18 u19 u20 u21 u22 u23 u24 u25 u26 u27 u28 u29 u30 u31 u32 u33:Value) (Ds:List Nat) (k:List Fa),
   a= {tmps:= #[ac fb,.func (.func sf) #[] lb,ac w.heap.size,ac (w.heap.size+1),u4,u5,u6,u7,u8,u9,u10,u11,u12,u13,u14,u15,u16,u17,u18,u19,u20,u21,u22,u23,u24,u25,u26,u27,u28,u29,u30,u31,u32,u33],defers:=V9 Ds}/\
   g=μ k/\Inv k/\y8 W kb N.nN k/\A1 w W [kb]/\W.cell? (af w.heap.size 0)=some (ac fb)/\W.cell? (af (w.heap.size+1) 0)=some (.func (.func sf) #[] lb)/\DX w Ds W) (μ k0) ?start ?round
 case start=>
  refine⟨_,_,_,_,_,_,_,_,_,_,_,_,_,_,_,_,_,_,_,_,_,_,_,_,_,_,_,_,_,_,[],k0,rfl,rfl,hI0,(hk0.keeps (((A1.refl w []).alloc _).alloc _) (by simp)),hKS,?_,?_,List.nodup_nil,λD hD=>by cases hD⟩
  ·exact A2 _ (GL w (ac fb) 212)
  ·have h1:=GL (w.alloc (.cells #[ac fb] 212)) (.func (.func sf) #[] lb) 280
   rw[bg]at h1;exact h1
 case round=>
  clear hP hstep afg hk0 hI0 f0 f1 f2 hKS;rintro g a W ⟨u4,u5,u6,u7,u8,u9,u10,u11,u12,u13,u14,u15,u16,u17,u18,u19,u20,u21,u22,u23,u24,u25,u26,u27,u28,u29,u30,u31,u32,u33,Ds,k,rfl,rfl,hIk,hk,hW,hb2,hb3,hM⟩;have Rp:Hid (y8 W kb N.nN k/\Inv k):=hid ⟨hk,hIk⟩;have HW:Hid (A1 w W [kb]):=hid hW;have HM:Hid (DX w Ds W):=hid hM;have f0:W.cell? (af fb 0)=some (.slice yu N.nT yl):=(hW.cell (by exact Pk) Zw).trans HF.out.1;have f1:W.cell? (af fb 1)=some (ae gN N.nN xY):=(hW.cell (by exact Pk) Zw).trans HF.out.2.1;have f2:W.cell? (af fb 2)=some (ae kb N.nN N.nN):=(hW.cell (by exact Pk) Zw).trans HF.out.2.2;have CC:=(mq (n:=3)).2 (kV W kb N.nN k hk afh hpos);clear hk hIk hW hM;have hsz:w.heap.size+1<W.heap.size:=bq W _ hb3;have Pn:kb<W.heap.size:=by omega
  gi_wp2_with (first
   | (refine⟨trivial,?_⟩;gi_at_call 204;refine CC.mono ?_;rintro e W1 ⟨gc,cc,rfl,akL,akM,afi,ahX,To⟩;clear CC;have HC:Hid (∀j,j<N.nN*4->W1.cell? (af gc j)=(DN k)[j]?):=hid afi;have yR:Hid (Below W.heap.size W W1):=hid To;replace hb2:=(To.cell (p:=(af w.heap.size 0)) acV).trans hb2;replace hb3:=(To.cell (p:=(af (w.heap.size+1) 0)) (by exact hsz)).trans hb3;replace f0:=(To.cell (p:=(af fb 0)) acZ).trans f0;replace f1:=(To.cell (p:=(af fb 1)) acZ).trans f1;replace f2:=(To.cell (p:=(af fb 2)) acZ).trans f2;have aaf:=To.size;clear afi To)
   | (refine⟨trivial,?_⟩;gi_at_call 130;refine(U0 Fence.wide 3 trivial rfl _ _ _ _ _ _ _).mono ?_;rintro e W2 ⟨rfl,rfl⟩))
  obtain⟨W0,hW0⟩:=qE (W1.alloc (.cells #[.slice yu N.nT yl,ae gN N.nN xY] 135));rw[hW0];have hs0:W0.heap.size=W1.heap.size+1:=by rw[<-hW0,bg]
  have Tp:W0.cell? (af W1.heap.size 1)=some (ae gN N.nN xY):=by rw[<-hW0];exact BF W1 _ _ 1
  have hKW:A1 W W0 []:=by rw[<-hW0];exact(A1.yX yR.out []).alloc _
  have hK0:A1 w W0 [kb]:=HW.out.trans (hKW.mono (λk h=>by cases h));have hM0:Hid (DX w Ds W0):=hid (HM.out.keeps hKW (λk h=>by cases h));have hk0:y8 W0 kb N.nN k:=Rp.out.1.keeps hKW (by simp);have HC0:Hid (∀j,j<N.nN*4->W0.cell? (af gc j)=(DN k)[j]?):=hid λj hj=>by
   have h1:=HC.out j hj;rw[<-hW0];exact((jd ((dm W1 _ gc ahX)))).trans h1
  have b2:W0.cell? (af w.heap.size 0)=some (ac fb):=by rw[<-hW0];exact A2 _ hb2
  have b3:W0.cell? (af (w.heap.size+1) 0)=some (.func (.func sf) #[] lb):=by rw[<-hW0];exact A2 _ hb3
  have g2:W0.cell? (af fb 2)=some (ae kb N.nN N.nN):=by rw[<-hW0];exact A2 _ f2
  clear hb2 hb3 f0 f1 f2 hW0;refine wm (F:=Fence.wide) rfl (by omega) (gf:=183) (lb:= #[ac W1.heap.size]) rfl trivial (qo Tryz.func183 yg rfl)
   (NU Fence.wide 3 trivial rfl (by omega) W1.heap.size n₀ N yL pg yu yl gN xY w W0 HP.out (hK0.below hfn (λq h=>by have:=mS.1 h;omega)) hfn (by omega) Tp) belowK_t (xX (by omega)) (ah _ _) (λ_=>rfl)
   (λpre W=>Inv ((pre.map λx=>x.1.1).foldl step k)/\y8 W kb N.nN ((pre.map λx=>x.1.1).foldl step k)/\A1 W0 W [kb]) (λ_ _ _=>False)
   ?own (λ_ _ _ _ _ hs _ _=>hs) ⟨Rp.out.2,hk0,A1.refl _ _⟩
   (λx=>{tmps:= #[ac fb,.func (.func sf) #[] lb,ac w.heap.size,ac (w.heap.size+1),ae gc N.nN cc,ab (x.1.1.1:Int),x.1.2,ac fb,ac fb,.pointer (some (af fb 2)),ae kb N.nN N.nN,ae gc N.nN cc,ac fb,ac fb,ac fb,.agg #[.slice yu N.nT yl,ae gN N.nN xY],.func (.func 183) #[] #[ac W1.heap.size],ab (x.1.1.1:Int),x.1.2,u19,u20,u21,u22,u23,u24,u25,u26,u27,u28,u29,u30,u31,u32,u33],defers:=[]}) ?assign ?body ?done ?stop
  case assign=>
   intro l x W' K hK;simp only[WV]
   gi_wp2
   exact hK
  case own=>
   rintro pre A B row ⟨h1,h2,h3⟩ hg hr;exact⟨h1,h2.step (by omega) hg hr,h3.grown hg (λr e=>.inr (hr r e).1)⟩
  case stop=>
   rintro D c pre W' _ _ h _;exact h.elim
  case body=>
   rintro l pre x V ⟨hv1,hv2,hv3⟩ _;obtain⟨⟨⟨rn,rp⟩,pv⟩,hx1,hx2⟩:=x;simp only at hx1 hx2 ⊢;have hpl:=HP.out.ok.lt _ hx1;simp only at hpl;have ahY:w.heap.size+1<W0.heap.size:=by omega
   have hKV:A1 w V [kb]:=hK0.trans hv3;have c2:=(hv3.cell (p:=(af w.heap.size 0)) (by show w.heap.size<W0.heap.size;omega) Zn).trans b2;have c3:=(hv3.cell (p:=(af (w.heap.size+1) 0)) (by exact ahY) (by show w.heap.size+1∉ [kb];simp;omega)).trans b3;have e2:=(hv3.cell (p:=(af fb 2)) (by show fb<W0.heap.size;omega) Zw).trans g2;have CS:∀V',A1 V V' []->Calls Tryz.prog sf (#[.pointer (some (af kb (rn*4))),pv]++lb) V' λe W'=>e=.returned (.tuple #[])/\y8 W' kb N.nN (step ((pre.map λx=>x.1.1).foldl step k) (rn,rp))/\A1 V' W' [kb]:=λV' Wo=>
    (HS.out V' _ (rn,rp) pv (hKV.trans (Wo.mono (λq h=>by cases h))) (hv2.keeps Wo (by simp)) hv1 hx1 (hx2.below ((hKV.trans (Wo.mono (λq h=>by cases h))).below hfn (λq h=>by have:=mS.1 h;omega))))
   have Bw:=hid CS;clear CS;clear hKV b2 b3 g2;have HV:=hid hv2;have Ej:=hid hv3;have Fx:=hid hv1;clear hv1 hv2 hv3
   gi_wp2
   have hlV:W0.heap.size<=V.heap.size:=Ej.out.size;have hl2:w.heap.size<V.drew.heap.size:=by show w.heap.size<V.heap.size;omega
   have Lp:w.heap.size+1<V.drew.heap.size:=by show w.heap.size+1<V.heap.size;omega
   have hlf:fb<V.drew.heap.size:=by show fb<V.heap.size;omega
   have aaP:w.heap.size∉ [kb]:=by simp;omega
   have aal:w.heap.size+1∉ [kb]:=by simp;omega
   refine GB (S:=λw'=>w'.cell? (af w.heap.size 0)=some (ac fb)/\w'.cell? (af (w.heap.size+1) 0)=some (.func (.func sf) #[] lb)/\w'.cell? (af fb 2)=some (ae kb N.nN N.nN)) hmx yg Ka ⟨c2,c3,e2⟩ (λhH=>?_);refine tB 0 hH ?_;refine tB 1 hH ?_;refine tB 2 hH ?_;refine tB 3 hH ?_;refine tB 4 hH ?_;refine tB 5 hH ?_;refine tB 6 hH ?_;refine tB 7 hH ?_;refine tL ?_;refine tS 8 λK hK=>?_
   refine tM ?_;rw[aq (by rfl)];go_simp;refine(Bw.out _ ((A1.refl _ _).drew)).mono ?_;rintro e V1 ⟨rfl,hn1,hn2⟩;refine hK.out _ _ ?_ λhH=>?_
   ·exact⟨(hn2.cell (by exact hl2) (by exact aaP)).trans hH.1,(hn2.cell (by exact Lp) (by exact aal)).trans hH.2.1,(hn2.cell (by exact hlf) Zw).trans hH.2.2⟩
   clear hK K;refine tL ?_;refine bk yg ?_ _;have hst:((pre++ [(⟨((rn,rp),pv),hx1,hx2⟩:RI N w n₀)]).map λx=>x.1.1).foldl step k=step ((pre.map λx=>x.1.1).foldl step k) (rn,rp):=by
    rw[ew,uk];rfl
   refine⟨KeepsFrom.Kk (S:=[kb]) ⟨hn2.os,hn2.tape,hn2.output,hn2.size,hn2.block⟩ (λq h=>by have:=mS.1 h;omega),?_,?_,?_,?_⟩
   ·exact(A1.drew (A1.refl V [kb])).trans hn2 |>.below (by omega) (λq h=>by have:=mS.1 h;omega)
   ·rw[hst];exact(HI.out _ Fx.out _ hx1).2
   ·rw[hst];exact hn1
   ·exact Ej.out.trans ((A1.drew (A1.refl V [kb])).trans hn2)
  case done=>
   rintro D ys V hD hys ⟨hv1,hv2,hv3⟩ hd;rw[hys]at hv1 hv2;have hg2:=(hv3.cell (p:=(af fb 2)) (by show fb<W0.heap.size;omega) Zw).trans g2;have c2:=(hv3.cell (p:=(af w.heap.size 0)) (by show w.heap.size<W0.heap.size;omega) Zn).trans b2;have c3:=(hv3.cell (p:=(af (w.heap.size+1) 0)) (by show w.heap.size+1<W0.heap.size;omega) (by show w.heap.size+1∉ [kb];simp;omega)).trans b3;have hMV:Hid (DX w (D::Ds) V):=hid (hM0.out.cons (hM0.out.keeps hv3 hk0.kind) (by omega) hD hd);have CE:=(mq (n:=3)).2 (nP V kb gc N.nN N.nN cc _ k hv2.1 Rp.out.1.1 afh (λj hj=>hv2.2.cellAt j hj) (λj hj=>by
    rw[hv3.cell (p:=(af gc j)) (by show gc<W0.heap.size;omega) (by show gc∉ [kb];simp;omega)];exact HC0.out j hj))
   have hff:=YL step μ Inv N.rules (λs hs r hr=>HI.out s hs r hr) k Rp.out.2;have HV:=hid hv2;have Ej:=hid hv3;have Fx:=hid hv1;have HFF:=hid hff;clear hv1 hv2 hv3 hff b2 b3 g2
   by_cases hq:N.rules.foldl step k=k
   ·rw[ij hq]at CE
    gi_wp2_with (refine⟨trivial,?_⟩;gi_at_call 205;refine CE.mono ?_;rintro e V1 ⟨rfl,q,rfl⟩)
    refine KW w.heap.size (λw'=>A1 w w' [kb]/\y8 w' kb N.nN k) ?_ ?_ (D::Ds) _ ⟨?_,?_⟩ ?_ ?_
    ·rintro w' D' ⟨h1,h2⟩ Eu hd'
     exact⟨h1.grown (qa w' D' (.deferred none)) (λr e=>by cases e;exact .inr Eu),h2.step (B:=w.heap.size) y7 (qa w' D' (.deferred none)) (λr e=>by cases e;exact⟨Eu,_,hd',rfl⟩)⟩
    ·rintro w' ⟨h1,h2⟩
     refine⟨_,ql rfl _ _ _,rfl,h1,k,Rp.out.2,?_,h2⟩
     rcases HFF.out.1 with h3 |h3
     ·exact h3.2
     ·rw[hq]at h3;omega
    ·exact(hK0.trans Ej.out).trans (A1.yX (FU _ _) _)
    ·have h1:=HV.out
     rw[hq]at h1;exact h1.keeps (A1.yX (FU _ _) []) (by simp)
    ·exact hMV.out.1
    ·exact λD' Eu=>hMV.out.2 D' Eu
   ·rw[fq hq]at CE
    gi_wp2_with (refine⟨trivial,?_⟩;gi_at_call 205;refine CE.mono ?_;rintro e V1 ⟨rfl,q,rfl⟩)
    have hlt:μ (N.rules.foldl step k)<μ k:=by
     rcases HFF.out.1 with h3 |h3
     ·exact absurd h3.1 hq
     ·exact h3
    refine⟨_,hlt,_,_,_,_,_,_,_,_,_,_,_,_,_,_,_,_,_,_,_,_,_,_,_,_,_,_,_,_,_,_,D::Ds,N.rules.foldl step k,rfl,rfl,HFF.out.2,HV.out.keeps (A1.yX (FU _ _) []) (by simp),(hK0.trans Ej.out).trans (A1.yX (FU _ _) _),c2,c3,hMV.out⟩
end
structure zK (w:World) (n₀ fb kb:Nat) (N:NG) (yL:List ByteArray) (pg:List Nm) (yu:Option Addr) (yl gN xY:Nat) (k:List Fa):Prop where
 gr:Ba w n₀ N yL pg yu yl gN xY
 n0:n₀<=kb
 ne:fb≠kb
 lf:fb<w.heap.size
 f0:w.cell? (af fb 0)=some (.slice yu N.nT yl)
 f1:w.cell? (af fb 1)=some (ae gN N.nN xY)
 f2:w.cell? (af fb 2)=some (ae kb N.nN N.nN)
 kn:y8 w kb N.nN k
theorem zK.ln  (h:zK w n₀ fb kb N yL pg yu yl gN xY k):n₀<=w.heap.size:=by
 have:=h.n0;have:=h.kn.lt;omega
theorem zK.keeps {w':World}{k':List Fa} (h:zK w n₀ fb kb N yL pg yu yl gN xY k) (hk:A1 w w' [kb]) (hn:y8 w' kb N.nN k'):zK w' n₀ fb kb N yL pg yu yl gN xY k' where
 gr:=h.gr.below (hk.below h.ln (λq hq=>by have:=mS.1 hq;have:=h.n0;omega))
 n0:=h.n0
 ne:=h.ne
 lf:=lL h.lf hk.size
 f0:=(hk.cell (by exact h.lf) abV).trans h.f0
 f1:=(hk.cell (by exact h.lf) abV).trans h.f1
 f2:=(hk.cell (by exact h.lf) abV).trans h.f2
 kn:=hn
theorem zK.below {w':World} (h:zK w n₀ fb kb N yL pg yu yl gN xY k) (hb:Below w.heap.size w w'):zK w' n₀ fb kb N yL pg yu yl gN xY k:=
 h.keeps (A1.yX hb _) (h.kn.keeps (A1.yX hb []) (by simp))
def J5 (N:NG):Pt->Prop
 | .tok t=>t<N.nT
 | .yB n=>n<N.nN
theorem B3.at {ps:List Pt} (h:B3 N ps) {p:Pt} (hp:ps[i]?=some p):J5 N p:=by
 have hm:=mG hp;cases p with
 |tok t=>exact h.2 t hm
 |yB n=>exact h.1 n hm
theorem ZC  (h:k[n]?=some a):AZ k n=a.least:=by unfold AZ;rw[h];rfl
theorem sR  (h:k[n]?=some a):ET k n=a.reached:=by unfold ET;rw[h];rfl
theorem kJ  (h:k[n]?=some a):AL k n=a.first:=by unfold AL;rw[h];rfl
theorem VM  (h:k[n]?=some a):B1 k n=a.follow:=by unfold B1;rw[h];rfl
theorem afj {P:Prop} (h:P:=by
  go_enter Tryz.func206,Tryz.ntmps206
  go_wp2
  go_quiet (fail)
  go_wp2;go_ret;exact⟨by rw[hr.out];rfl,by first |exact((ah _ _).alloc (yF _) _) |exact((ah _ _).alloc (yF _) _).trans (FU _ _ |>.mono (by simp))⟩):P:=h
theorem rP (w:World) (n₀ fb kb:Nat) (N:NG) (yL:List ByteArray) (pg:List Nm) (yu:Option Addr) (yl gN xY:Nat) (k:List Fa) (h:zK w n₀ fb kb N yL pg yu yl gN xY k) (p:Pt) (hp:J5 N p):
  Calls Tryz.prog 206 #[ac fb,.agg #[.bool (AQ p),ab (AP p)]] w λe w'=>e=.returned (ab (LL N k p))/\Below w.heap.size w w':=by
 have hlf:=h.lf;have h0:=h.f0;have h2:=h.f2;have yY:=h.gr.Bt;have zo:=h.gr.Aj;have hkb:=h.kn.lt;have H:=hid h;clear h;cases p with
 |tok t=>
  have ht:t<N.nT:=hp;obtain⟨gT,rfl,Gm,_,hT⟩:=H.out.gr.toks t ht;have Hl:gT<w.heap.size:=by have:=H.out.ln;omega
  simp only[AQ,AP];have hr:Hid (LL N k (.tok t)=N.put t):=hid rfl;obtain⟨nT,hn1⟩:=qF (N.nT);rw[<-hn1]at h0 ht zo;have H1:Hid (nT=N.nT):=hid hn1;clear hn1 h2;exact afj
 |yB n=>
  have hn:n<N.nN:=hp;obtain⟨a,ha⟩:∃a,k[n]?=some a:=⟨_,gE (by rw[H.out.kn.1];exact hn)⟩;have c0:=(H.out.kn.cells ha).1;simp only[AQ,AP];have hr:Hid (LL N k (.yB n)=a.least):=hid (ZC ha);obtain⟨nN,hn1⟩:=qF (N.nN);rw[<-hn1]at h2 hn yY;have H1:Hid (nN=N.nN):=hid hn1;clear hn1 h0 ha;exact afj
theorem RW {α:Type}{l:List α}{x:α} (h:l[j]?=some x):l.drop j=x::l.drop (j+1):=by
 obtain⟨hj,rfl⟩:=yS.1 h;exact gm hj
theorem dV (w:World) (n₀ fb kb:Nat) (N:NG) (yL:List ByteArray) (pg:List Nm) (yu:Option Addr) (yl gN xY:Nat) (k:List Fa) (h:zK w n₀ fb kb N yL pg yu yl gN xY k) (hfl:∀n,AZ k n<=202) (v:Value) (ps:List Pt) (hv:C0 w n₀ v ps) (hps:B3 N ps) (hlen:ps.length<=8):
  Calls Tryz.prog 155 #[ac fb,v] w λe w'=>e=.returned (ab (DC N k ps 0))/\Below w.heap.size w w':=by
 obtain⟨ad,cap,rfl,hcap,hcs⟩:=hv;obtain⟨L,hL⟩:=qF (ps.length);rw[<-hL]at hcap hcs hlen ⊢;have Ad:=h.ln;have H:=hid h;have HL:Hid (L=ps.length):=hid hL;have HC:=hid hcs;have HP:Hid (B3 N ps):=hid hps;have HF:Hid (∀n,AZ k n<=202):=hid hfl;clear h hL hcs hps hfl
 go_enter Tryz.func155,Tryz.ntmps155
 go_wp2
 go_loopw [5,11] (λs i wr=>∃j sN:Nat,j<=L/\i=ab j/\s=ab sN/\sN<=201/\Hid (DC N k ps 0=DC N k (ps.drop j) sN)/\Hid (Below w.heap.size w wr)) (λ_ i _=>L - (intOf i).toNat)
 case atStart=>exact⟨0,0,bu _,rfl,rfl,by omega,rfl,ah _ _⟩
 case round=>
  obtain⟨j,sN,hj,rfl,rfl,hs,HE,HB⟩:=hrel
  by_cases hlt:j<L
  ·obtain⟨p,hp⟩:∃p,ps[j]?=some p:=⟨_,gE Zs⟩
   obtain⟨g,off,rfl,hg,hcl⟩:=HC.out (by omega);have Hl:g<wr.heap.size:=by have:=HB.out.size;omega
   have p0:=(HB.out.cell (p:=(af g (off+j*2))) Hj).trans (hcl j p hp).1;have p1:=(HB.out.cell (p:=(af g (off+j*2+1))) Hj).trans (hcl j p hp).2;have HPt:Hid (J5 N p):=hid (HP.out.at hp);have HD:Hid (ps.drop j=p::ps.drop (j+1)):=hid (RW hp);have HK:Hid (zK wr n₀ fb kb N yL pg yu yl gN xY k):=hid (H.out.below HB.out);have CP:=rP (wr.alloc (.cells #[.bool (AQ p),ab (AP p)] 235)) n₀ fb kb N yL pg yu yl gN xY k (HK.out.below ((ah _ _).alloc (yF _) _)) p HPt.out;have hc2:LL N k p<=202:=by
    have h1:=HPt.out;cases p with
    |tok t=>have:=H.out.gr.ok.Vz t h1;show N.put t<=202;omega
    |yB n=>exact HF.out n
   obtain⟨c,hc⟩:=qF (LL N k p);rw[<-hc]at CP hc2;have Ke:Hid (c=LL N k p):=hid hc;have hsz:wr.heap.size<=(wr.alloc (.cells #[.bool (AQ p),ab (AP p)] 235)).heap.size:=by simp
   clear hcl hp hc
   by_cases ac9:c=202
   ·have zN:Hid (DC N k ps 0=202):=hid (by
     rw[HE.out,HD.out];simp only[DC];rw[aq (by rw[<-Ke.out];exact ac9)])
    subst ac9
    go_wp2_with (go_at_call 206;refine CP.mono ?_;rintro e w2 ⟨rfl,hb2⟩;have yV:Hid (Below w.heap.size w w2):=hid ((HB.out.alloc HB.out.size _).trans (hb2.mono (by have:=HB.out.size;omega)));clear hb2 CP)
    go_ret;exact⟨by rw[zN.out];rfl,yV.out⟩
   ·have zN:Hid (DC N k ps 0=DC N k (ps.drop (j+1)) (min (sN+c) 201)):=hid (by
     rw[HE.out,HD.out];simp only[DC];rw[au (by rw[<-Ke.out];exact ac9),<-Ke.out])
    have hne:((c:Int)==202)=false:=by simp;omega
    go_wp2_with (go_at_call 206;refine CP.mono ?_;rintro e w2 ⟨rfl,hb2⟩;have yV:Hid (Below w.heap.size w w2):=hid ((HB.out.alloc HB.out.size _).trans (hb2.mono (by have:=HB.out.size;omega)));clear hb2 CP)
    go_roundw
    case rel=>exact⟨j+1,min (sN+c) 201,by omega,by go_num,by go_num,by omega,zN,yV⟩
    case measure=>simp[intOf];omega
  ·have zN:Hid (DC N k ps 0=sN):=hid (by
    rw[HE.out,nh Zv];rfl)
   go_wp2;go_ret;exact⟨by rw[zN.out];rfl,HB.out⟩
theorem y8.least {w:World}{kb n:Nat}{k:List Fa} (h:y8 w kb n k) {i:Nat} (hi:i<n) {a:Fa} (ha:k[i]?=some a) (c x:Nat) (hx:x=min a.least c):
  y8 (w.setCell (af kb (i*4)) (ab x)) kb n (k.modify i λa=>{a with least:=min a.least c})/\A1 w (w.setCell (af kb (i*4)) (ab x)) [kb]:=
 h.put hi _ 0 (by omega) _ (λb hb=>by rw[ha]at hb;cases hb;rw[hx];rfl)
theorem gX (w:World) (n₀ fb kb:Nat) (N:NG) (yL:List ByteArray) (pg:List Nm) (yu:Option Addr) (yl gN xY:Nat) (k:List Fa) (h:zK w n₀ fb kb N yL pg yu yl gN xY k) (hfl:∀n,AZ k n<=202)
  (Bx:Nat) (Ni:w.cell? (af Bx 0)=some (ac fb)) (v:Value) (r:Nat × List Pt) (hr:r∈N.rules) (hv:C0 w n₀ v r.2):
  Calls Tryz.prog 154 #[.pointer (some (af kb (r.1*4))),v,ac Bx] w λe w'=>e=.returned (.tuple #[])/\y8 w' kb N.nN (ED N k r)/\A1 w w' [kb]:=by
 obtain⟨n,ps⟩:=r;have hn:n<N.nN:=h.gr.ok.lt _ hr;simp only at hv ⊢;have hps:B3 N ps:=h.gr.ok.ps hr;have hlen:ps.length<=8:=h.gr.ok.parts _ hr;obtain⟨a,ha⟩:∃a,k[n]?=some a:=⟨_,gE (by rw[h.kn.1];exact hn)⟩;have c0:=(h.kn.cells ha).1;have fz:=h.kn.free (n*4);have y7:=h.kn.lt;have hBw:=bq w _ Ni;have CL:=dV w.drew n₀ fb kb N yL pg yu yl gN xY k (h.below ⟨rfl,rfl,rfl,yF _,λ_ _=>rfl⟩) hfl v ps (hv.below ⟨rfl,rfl,rfl,yF _,λ_ _=>rfl⟩) hps hlen;obtain⟨ad,cap,hve,_⟩:=hv;subst hve;have H:=hid h;have HA:=hid ha;have HN:Hid (n<N.nN):=hid hn;obtain⟨c,hc⟩:=qF (DC N k ps 0);rw[<-hc]at CL;have Po:Hid (c=DC N k ps 0):=hid hc;have HCL:=hid CL;clear h hfl hr hps hlen ha hn hc CL;have hst:ED N k (n,ps)=k.modify n λa=>{a with least:=min a.least c}:=by rw[Po.out];rfl
 have HST:=hid hst;clear hst
 go_enter Tryz.func154,Tryz.ntmps154
 refine AE (λw'=>w'.cell? (af kb (n*4))=some (ab a.least)/\w'.cell? (af Bx 0)=some (ac fb)/\w'.frozen? (af kb (n*4))=false/\Below w.heap.size w w') yg yg ⟨c0,Ni,fz,⟨rfl,rfl,rfl,yF _,λ_ _=>rfl⟩⟩ (λhH=>?_);simp only[AB,BM,AO];refine tB 0 hH ?_;refine tB 1 hH ?_;refine tB 2 hH ?_;refine tB 3 hH ?_;refine tB 4 hH ?_;refine tB 5 hH ?_;refine tB 6 hH ?_;refine tL ?_;refine tS 7 λK hK=>?_
 refine tM ?_;rw[aq (by rfl)];go_simp;refine HCL.out.mono ?_;rintro e w2 ⟨rfl,hb2⟩;refine hK.out _ _ ?_ λhH=>?_
 ·exact⟨(hb2.cell (by exact y7)).trans hH.1,(hb2.cell (by exact hBw)).trans hH.2.1,(ni (w:=w.drew) (hb2.block kb y7)).trans hH.2.2.1,hH.2.2.2.trans hb2⟩
 clear hK K;refine tB 8 hH ?_;refine tB 9 hH ?_;refine tB 10 hH ?_;refine tB 11 hH ?_;refine tL ?_;refine bk yg ?_ _;have yV:=hid hH.2.2.2;have hz1:=hH.1;have hz2:=hH.2.2.1;clear hH;show wpList _ _ _ _ _ _;go_wp2
 all_goals go_end0
 all_goals
  have HL:=λx hx=>y8.least (H.out.kn.keeps (A1.yX yV.out []) (by simp)) HN.out HA.out c x hx
  have hm:(min (a.least:Int) c)=((min a.least c:Nat):Int):=by omega
  have he:∀x,x=min a.least c->y8 (w2.setCell (af kb (n*4)) (ab (x:Nat))) kb N.nN (ED N k (n,ps))/\A1 w (w2.setCell (af kb (n*4)) (ab (x:Nat))) [kb]:=λx hx=>⟨by rw[HST.out];exact(HL x hx).1,(A1.yX yV.out _).trans (HL x hx).2⟩
  first
  |exact⟨rfl,he c (by omega)⟩
  |exact⟨rfl,he a.least (by omega)⟩
  | (rw[hm];exact⟨rfl,he _ rfl⟩)
def GN (n j:Nat):List Fa:=(List.range n).map λi=>{least:=if i<j then 202 else 0,reached:=false,first:=0,follow:=0}
theorem KG (n j:Nat):(GN n j).length=n:=by simp[GN]
theorem N1  (h:i<n):(GN n j)[i]?=some {least:=if i<j then 202 else 0,reached:=false,first:=0,follow:=0}:=by
 simp[GN,h]
theorem j6:(GN n j).modify j (λa=>{a with least:=202})=GN n (j+1):=by
 apply nu;intro i;rw[JF]
 by_cases hi:i<n
 ·rw[N1 hi,N1 hi]
  split
  ·rename_i e
   subst e;simp
  ·rename_i e
   congr 2
   by_cases h1:i<j
   ·rw[aq h1,aq (by omega)]
   ·rw[au h1,au (by omega)]
 ·rw[dy (by rw[KG];omega),dy (by rw[KG];omega)]
  simp
theorem PW (n:Nat) (m:Nat):AZ (GN n n) m=202:=by
 unfold AZ
 by_cases h:m<n
 ·rw[N1 h];simp[h]
 ·rw[dy (by rw[KG];omega)];rfl
theorem oH (N:NG):I2 N (GN N.nN N.nN) where
 len:=KG _ _
 only:=λa ha=>by
  obtain⟨i,_,rfl⟩:=cj.1 ha;exact⟨rfl,rfl,rfl⟩
 le:=λn=>by rw[PW];omega
 Vu:=λT _ n h=>absurd (PW _ n) h
 Hr:=λT _ n h=>by rw[PW]at h;omega
 gr:=λT hT _ n=>by rw[PW];have:=hT n;omega
theorem Q8 (w:World) (n₀ fb kb:Nat) (N:NG) (yL:List ByteArray) (pg:List Nm) (yu:Option Addr) (yl gN xY:Nat) (h:zK w n₀ fb kb N yL pg yu yl gN xY (GN N.nN 0)):
  Calls Tryz.prog 106 #[ac fb] w λe w'=>e=.returned (.tuple #[])/\A1 w w' [kb]/\∃k,I2 N k/\(∀r∈N.rules,ED N k r=k)/\y8 w' kb N.nN k:=by
 have hlf:=h.lf;have h2:=h.f2;have yY:=h.gr.Bt;have hkb:=h.kn.lt;have hne:=h.ne;have H:=hid h;obtain⟨nN,hn1⟩:=qF (N.nN);rw[<-hn1]at h2 yY;have HN:Hid (nN=N.nN):=hid hn1;clear h hn1
 go_enter Tryz.func106,Tryz.ntmps106
 go_wp2
 go_loopw [8] (λi wr=>∃j:Nat,j<=nN/\i=ab j/\Hid (A1 w wr [kb])/\Hid (y8 wr kb nN (GN nN j))/\wr.cell? (af w.heap.size 0)=some (ac fb)/\wr.cell? (af fb 2)=some (ae kb nN nN)) (λi _=>nN - (intOf i).toNat)
 case atStart=>exact⟨0,bu _,rfl,(A1.refl _ _).alloc _,hid (by rw[HN.out];exact H.out.kn.keeps ((A1.refl w []).alloc _) (by simp)),GL _ _ _,A2 _ h2⟩
 case round=>
  obtain⟨j,hj,rfl,HK,HV,hb,hf⟩:=hrel;have hfz:=HV.out.free (j*4)
  by_cases hlt:j<nN
  ·have hc:=(HV.out.cells (N1 hlt)).1
   have Nj:=bq wr _ hb;go_wp2
   go_roundw
   case rel=>
    obtain⟨h3,h4⟩:=HV.out.put hlt (λa=>{a with least:=202}) 0 (by omega) (ab 202) (λa _=>rfl);rw[j6]at h3;refine⟨j+1,by omega,by go_num,hid (HK.out.trans h4),h3,?_,?_⟩
    ·exact(h4.cell (by exact Nj) Zn).trans hb
    ·exact(h4.cell (by show fb<wr.heap.size;have:=HK.out.size;omega) aaB).trans hf
   case measure=>simp[intOf];omega
  ·obtain rfl:j=nN:=by omega
   have HX:Hid (zK wr n₀ fb kb N yL pg yu yl gN xY (GN N.nN N.nN)):=hid (H.out.keeps HK.out (by have h3:=HV.out;rw[HN.out]at h3;exact h3));have Nj:w.heap.size<wr.heap.size:=bq wr _ hb;have CS:=ML N yL pg yu yl gN xY kb fb n₀ wr HX.out.gr HX.out.n0 HX.out.lf HX.out.ne HX.out.ln HX.out.f0 HX.out.f1 HX.out.f2 154 #[ac w.heap.size] (qo Tryz.func154 yg rfl)
    (ED N) (FV (·.least)) (I2 N) (λk hk r hr=>ZW HX.out.gr.ok hk hr)
    (λW k r v hW hk hI hr hv=>gX W n₀ fb kb N yL pg yu yl gN xY k (HX.out.keeps hW hk) hI.le w.heap.size ((hW.cell (by exact Nj) Zn).trans hb) v r hr hv)
    HX.out.gr.ok.pos (GN N.nN N.nN) HX.out.kn (oH N)
   have Bw:=hid CS;clear CS
   go_wp2_with (go_at_call 153;refine Bw.out.mono ?_;rintro e w2 ⟨rfl,hk2,hr2⟩;have HR:=hid (And.intro hk2 hr2);clear hk2 hr2)
   go_end0
   exact⟨rfl,HK.out.trans HR.out.1,HR.out.2⟩
end Go.Proofs.YtjjggdcnpndgjaaGreatDoor
