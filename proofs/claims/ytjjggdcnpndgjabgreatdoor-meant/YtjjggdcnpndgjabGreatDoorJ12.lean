import Derived.Test.YtjjggdcnpndgjabGreatDoorJ11
import Derived.Laws.StructEq
import Derived.Lib.SliceRun
import Derived.OrdersIn
import Derived.TacticsIn
import Derived.Sort.LoopGhostIn
import Derived.Shelf.RegionOpen
set_option linter.unusedSimpArgs false
set_option maxHeartbeats 1000000
set_option maxRecDepth 100000
namespace Go.Proofs.YtjjggdcnpndgjabGreatDoor
open Go.RowKit Go.Shelf
variable {N:NG}{P:Program}{Q:Exit->Act->World->Prop}{W w:World}{a:Fa}{adT:Option Addr}{capN capT fb gN i j kb l n n₀:Nat}{k:List Fa}{ops:Array Oper}{pg:List Nm}{tws:List ByteArray}
theorem TT (F:Fence) (n:Nat) (hF:F.fn 44) (hro:F.round=none) (adT:Option Addr) (nT capT gN nN capN:Nat) (w:World):
  CallsIn F n Tryz.prog 44 #[.agg #[.slice adT nT capT,ae gN nN capN]] w fun e w'=>e=.returned (.func (.func 76) #[] #[ac w.heap.size])/\
   w'=w.alloc (.cells #[.slice adT nT capT,ae gN nN capN] 69):=by
 refine callsIn_of_wp Tryz.func44 rfl hF ?_ hro;simp only[Tryz.ntmps44,List.size_toArray,lC,List.length_nil,Nat.reduceAdd,Nat.reduceSub,Array.replicate_succ,Array.replicate_zero,List.push_toArray,List.append_toArray,List.nil_append,List.cons_append]
 gi_wp2
 go_ret;exact⟨rfl,rfl⟩
theorem O2 (F:Fence) (n:Nat) (hF:F.fn 76) (hro:F.round=none) (hn:1<=n) (Bn n₀:Nat) (N:NG) (tws:List ByteArray) (pg:List Nm) (adT:Option Addr) (capT gN capN:Nat) (Wb w:World)
  (hP:PGr Wb n₀ N tws pg adT capT gN capN) (hbW:Below n₀ Wb w) (hn₀:n₀<=Wb.heap.size) (hB:Bn<w.heap.size) (hBn:w.cell? (af Bn 1)=some (ae gN N.nN capN)):
  SeqStopsK F n Tryz.prog 76 #[ac Bn] (WB (N:=N) (Wb:=Wb) (n₀:=n₀)) (Below n₀) (fun ys=>ys.map (fun x=>x.1.1)=N.rules) (fun _=>True) N.rules.length w:=fun l J Jx W hW hJ _ hY h0=>by
 have hb:Below n₀ Wb W:=hbW.trans (hW.mono (lT_ hn₀ hbW.size));refine(l6 F n hF hro hn l Bn n₀ N tws pg adT capT gN capN Wb hP J Jx W hJ hb hn₀ hY ((hW.cell (p:=(af Bn 1)) hB).trans hBn) h0).mono ?_;rintro e W' ⟨h1,h2⟩;exact⟨h1,h2⟩
theorem Tryz.info151:(Tryz.prog.info? 151).map (fun i=>(i.zero,i.size,i.bytes))=some (some (.agg #[ab 0,.bool false,.int .u32 0,.int .u32 0]),4,24):=by kernel_rfl
theorem SE (k:List Fa):(DN k).length=k.length*4:=by
 unfold DN
 induction k with
 |nil=>rfl
 |cons a r ih=>rw[List.flatMap_cons,lA,ih];simp;omega
theorem eG {u:Value} (h:u∈DN k):u.oneCell'=true:=by
 unfold DN at h;rw[List.mem_flatMap]at h;obtain⟨a,_,h⟩:=h;simp at h
 rcases h with rfl |rfl |rfl |rfl <;> rfl
theorem kK (w:World) (kb n:Nat) (k:List Fa) (hK:KnV w kb n k) (hn:n<=20) (h0:0<n):
  Calls Tryz.prog 102 #[ae kb n n] w fun e w'=>∃g cap,e=.returned (ae g n cap)/\w.heap.size<=g/\n<=cap/\(∀j,j<n*4->w'.cell? (af g j)=(DN k)[j]?)/\g<w'.heap.size/\Below w.heap.size w w':=by
 obtain⟨i0,hi,hz0,hz1,hz2⟩:=info_parts Tryz.info151;have qT:∀(w:World) (a:Option Addr) (n c n' c':Nat),(binOp .eql 70 (.slice a n c) (.slice none n' c')).run Tryz.prog w=.ok (.bool a.isNone) w:=fun w a n c n' c'=>Lib.run_eql_slice_nil w _ _ a n c n' c' Tryz.underlying70
 have HK:Hid (KnV w kb n k):=hid hK;clear hK
 go_enter Tryz.func102,Tryz.ntmps102
 have hkl:=HK.out.lt;have hown0:(w.alloc (.cells #[] 151)).ownsRow w.heap.size 151 4 (ae w.heap.size 0 0) 0 []:=World.ownsRow_made w #[] 0 (lR_ _) y3Z rfl;have hnews:∀(j:Nat) (u:Value),(DN k)[j]?=some u->(w.alloc (.cells #[] 151)).cell? (((af kb 0):Addr).add j)=some u:=fun j u hu=>by
  have hj:=(gS_.1 hu).1;rw[SE,HK.out.1]at hj;have h1:=HK.out.2.cellAt j hj;rw[hu]at h1;have h2:((af kb 0):Addr).add j=(af kb j):=by simp[Addr.add];exact fun e=>e.symm
  rw[h2];exact(((Below.refl w.heap.size w).alloc (lR_ _) _).cell (by exact hkl)).trans h1
 have HNews:=hid hnews;have HOwn0:=hid hown0;clear hnews hown0
 go_wp2_with (first
  | (at_builtin;refine wpList_append_own _ rfl _ _ 70 rfl w.heap.size 151 i0 (.agg #[.int .i64 0,.bool false,.int .u32 0,.int .u32 0]) 4 24 Tryz.underlying70 hi hz0 hz1 hz2 rfl (by decide) _ _ _ rfl HOwn0.out ⟨kb,0,none⟩ n n (DN k) rfl (by rw[SE,HK.out.1]) HNews.out (fun u hu=>eG hu) y3Z (by omega) (by simp) ?_;intro v' w1 hown' hgrow _))
 rw[Nat.zero_add]at hown';obtain⟨g,cap,hv,hg1,hg2,hg3⟩:=AX hown' h0;subst hv;have hcells:∀j,j<n*4->w1.cell? (af g j)=(DN k)[j]?:=fun j hj=>hown'.cellAt j hj
 have HC:=hid hcells;have HB:Hid (Below w.heap.size w w1):=hid (((Below.refl w.heap.size w).alloc (lR_ _) _).grown hgrow (by simp) (fun q hq=>(HOwn0.out.lt q hq).1));clear hcells hown' hgrow;go_wp2;go_ret;exact⟨g,cap,rfl,hg1,hg3,HC.out,hg2,HB.out⟩
theorem pY (a b:Int) (c d:Bool) (e f g h:Int) (w:World):(binOp .neq 151 (.agg #[ab a,.bool c,.int .u32 e,.int .u32 g]) (.agg #[ab b,.bool d,.int .u32 f,.int .u32 h])).run Tryz.prog w=.ok (.bool (!(a==b&&(c==d&&(e==f&&g==h))))) w:=by
 have hS:Tryz.prog.underlying 151=some (.struct (Tryz.prog.fieldsOf 151)):=by kernel_rfl
 have hp:Tryz.prog.stoodInHeld 151=false:=by kernel_rfl
 have u3:=Tryz.underlying3;have u4:=Tryz.underlying4;have u5:=Tryz.underlying118;have a3:=Tryz.isAgg3;have z3:=Tryz.sizeOf3;have a4:=Tryz.isAgg4;have z4:=Tryz.sizeOf4;have a5:=Tryz.isAgg118;have z5:=Tryz.sizeOf118;rw[run_neq_struct,show(10000:Nat)=9999+1 from rfl,run_equalIn_agg w 9999 151 _ _ hS hp];simp only[Program.fieldsOf,Tryz.underlying151];go_simp
 by_cases h1:a=b <;> by_cases h2:c=d <;> by_cases h3:e=f <;> by_cases h4:g=h <;> simp[h1,h2,h3,h4]
theorem ZT  (ha:k[j]?=some a):(DN k)[j*4]?=some (ab a.least)/\(DN k)[j*4+1]?=some (.bool a.reached)/\(DN k)[j*4+2]?=some (.int .u32 a.first)/\(DN k)[j*4+3]?=some (.int .u32 a.follow):=by
 have h4:=fun j' hj=>P9 (fun a:Fa=>[ab a.least,.bool a.reached,.int .u32 a.first,.int .u32 a.follow]) (fun _=>rfl) k j a j' ha hj
 exact⟨h4 0 (by omega),h4 1 (by omega),h4 2 (by omega),h4 3 (by omega)⟩
theorem nB (w:World) (g1 g2 n c1 c2:Nat) (k1 k2:List Fa) (h1:k1.length=n) (h2:k2.length=n) (hn:n<=20) (hk1:∀j,j<n*4->w.cell? (af g1 j)=(DN k1)[j]?) (hk2:∀j,j<n*4->w.cell? (af g2 j)=(DN k2)[j]?):
  Calls Tryz.prog 103 #[ae g1 n c1,ae g2 n c2] w fun e w'=>e=.returned (.bool (decide (k1=k2)))/\∃q,w'=w.drewN q:=by
 have HK1:=hid hk1;have HK2:=hid hk2;have HL:Hid (k1.length=n/\k2.length=n):=hid ⟨h1,h2⟩;clear hk1 hk2 h1 h2;have hneq:=fun(a b:Int) (c d:Bool) (e f g h:Int) (w:World)=>pY a b c d e f g h w
 go_enter Tryz.func103,Tryz.ntmps103
 go_wp2
 go_loopw [13] (fun i wr=>∃j q:Nat,j<=n/\i=ab j/\wr=w.drewN q/\Hid (∀m,m<j->k1[m]?=k2[m]?)) (fun i _=>n - (intOf i).toNat)
 case atStart=>exact⟨0,0,Nat.zero_le _,rfl,rfl,fun j hj=>by omega⟩
 case round=>
  obtain⟨j,q,hj,rfl,rfl,hno⟩:=hrel
  by_cases hlt:j<n
  ·obtain⟨a,ha⟩:∃a,k1[j]?=some a:=⟨_,gE (by rw[HL.out.1];exact hlt)⟩
   obtain⟨b,hb⟩:∃b,k2[j]?=some b:=⟨_,gE (by rw[HL.out.2];exact hlt)⟩;obtain⟨a0,a1,a2,a3⟩:=ZT ha;obtain⟨b0,b1,b2,b3⟩:=ZT hb;have p0:=(HK1.out (j*4) (by omega)).trans a0;have p1:=(HK1.out (j*4+1) (by omega)).trans a1;have p2:=(HK1.out (j*4+2) (by omega)).trans a2;have p3:=(HK1.out (j*4+3) (by omega)).trans a3;have r0:=(HK2.out (j*4) (by omega)).trans b0;have r1:=(HK2.out (j*4+1) (by omega)).trans b1;have r2:=(HK2.out (j*4+2) (by omega)).trans b2;have r3:=(HK2.out (j*4+3) (by omega)).trans b3;have HA:Hid (k1[j]?=some a/\k2[j]?=some b):=hid ⟨ha,hb⟩;clear a0 a1 a2 a3 b0 b1 b2 b3 ha hb;cases he:((a.least:Int)==(b.least:Int)&&(a.reached==b.reached&&((a.first:Int)==(b.first:Int)&&(a.follow:Int)==(b.follow:Int))))
   ·have HE:Hid (decide (k1=k2)=false):=hid (decide_eq_false fun e=>by
     have h3:=HA.out.1;rw[e,HA.out.2]at h3;injection h3 with h3
     rw[h3]at he;simp at he)
    go_wp2
    go_quiet (fail)
    go_wp2;go_ret;exact⟨BW HE.out,_,by first |rfl |exact World.drewN_drewN ..⟩
   ·have HE:Hid (∀m,m<j+1->k1[m]?=k2[m]?):=hid (ET hno.out (by
     rw[HA.out.1,HA.out.2];simp only[Bool.and_eq_true,beq_iff_eq]at he;obtain⟨e1,e2,e3,e4⟩:=he
     congr 1
     cases a;cases b;simp only at e1 e2 e3 e4;simp only[Fa.mk.injEq];exact⟨by omega,e2,by omega,by omega⟩))
    go_wp2
    go_quiet (fail)
    go_wp2
    go_roundw
    case rel=>exact⟨j+1,_,by omega,by go_num,by first |rfl |exact World.drewN_drewN ..,HE⟩
    case measure=>simp[intOf];omega
  ·have HE:Hid (decide (k1=k2)=true):=hid (decide_eq_true (by
    apply List.ext_getElem?;intro m
    by_cases hm:m<n
    ·exact hno.out m (by omega)
    ·rw[List.getElem?_eq_none (by rw[HL.out.1];omega),List.getElem?_eq_none (by rw[HL.out.2];omega)]))
   go_wp2;go_ret;exact⟨BW HE.out,_,rfl⟩
def UD (ops:Array Oper):Bool:=ops.toList.all fun o=>match o.op with
 | .defer _=>false
 |_=>true
theorem qB  (h:UD ops=true) {o:Oper} (ho:ops[i]?=some o):∀c,o.op≠ .defer c:=by
 intro c hc;have h1:=List.all_eq_true.1 h o (by
  rw[<-Array.getElem?_toList]at ho;exact mG ho)
 rw[hc]at h1;simp at h1
theorem jK {o:Oper}{a:Act}{K:Act->World->Prop}{r:Result Next} (h:o.upon P a K Q r):o.uponIn (Fence.wide.inRound l) n P a K Q r:=by
 cases r with
 |ok x w'=>
  cases x <;> simp only[Oper.upon]at h <;> simp only[Oper.uponIn]
  case value v=>exact h
  case skip=>exact h
  case defer d=>exact h
  case enter f args=>exact⟨fun e=>by simp[Fence.inRound,Fence.wide]at e,CallsIn.inRound l (callsIn_wide.2 h)⟩
  case row row args=>
   refine⟨fun e=>by simp[Fence.inRound,Fence.wide]at e,fun c cs _=>?_⟩;obtain⟨v,w2,h1,h2⟩:=h c cs;exact⟨v,w2,h1,stepsIn_wide.2 h2⟩
 |halt x w'=>cases x <;> simp only[Oper.upon]at h <;> simp only[Oper.uponIn] <;> first |exact h |exact h.elim
theorem T0 {md:Region.Mode} (hd:UD ops=true) (hQ:¬LetsOut Q):
  ∀(fuel:Nat) (listed:Array Bool) (a:Act) (w:World),wpAny P md ops Q fuel listed a w->wpAnyIn (Fence.wide.inRound l) n P md ops Q fuel listed a w:=by
 intro fuel
 induction fuel with
 |zero=>intro listed a w h;exact h
 |succ fuel ih=>
  intro listed a w h;refine⟨h.1,fun i hi=>?_⟩;have h1:=h.2 i hi;unfold wpOp at h1;unfold wpOpIn;split
  ·rename_i e
   simp only[e]at h1;exact ih _ _ _ h1
  ·rename_i o e
   simp only[e]at h1;split
   ·rename_i hw
    rw[if_pos hw]at h1;have h2:=h1.resolve_right (fun h3=>hQ h3.2);refine⟨fun _ _=>trivial,?_⟩;rw[show(Fence.wide.inRound l).round=some l from rfl,Oper.semAt_some l _ o (qB hd e)];exact jK (Oper.wp_mono (fun a w=>ih _ a w) h2)
   ·rename_i hw
    rw[if_neg hw]at h1;exact⟨fun _ _=>trivial,ih _ _ _ h1⟩
theorem GA {id:Nat}{a:Act}{S:World->Prop} (hm:P.follows .mixedOrders=true) (hd:UD ops=true) (hQ:¬LetsOut Q) (hS:S w.drew)
  (h:S w.drew->wpAnyH P .any ops Q S ops.size (Array.replicate ops.size false) a w.drew):(Code.region id ops true).wpIn (Fence.wide.inRound l) n P Q a w:=
 wpIn_region_any hm (T0 hd hQ _ _ _ _ (wpAny_of_held _ _ _ _ (h hS)))
section
attribute [local go_sem] Oper.semAt_some
def UU (Ds:List Nat):List Deferred:=Ds.map fun D=>{target:=.collected D,args:= #[]}
theorem KJ {F:Fence}{fn:Func}{tmps:Array Value}{R:Ending->World->Prop} (B:Nat) (Pd:World->Prop)
  (hP:∀w' D,Pd w'->B<=D->w'.heap[D]?=some (.deferred (some []))->Pd (w'.putObj D (.deferred none)))
  (h:∀w',Pd w'->LeavesInM F n P fn tmps R [] .returning w'):∀(Ds:List Nat) (w:World),Pd w->Ds.Nodup->(∀D∈Ds,B<=D/\w.heap[D]?=some (.deferred (some [])))->LeavesInM F n P fn tmps R (UU Ds) .returning w:=by
 intro Ds
 induction Ds with
 |nil=>intro w hk _ _;exact h w hk
 |cons D Ds ih=>
  intro w hk hn hD;have hd:=hD D (List.mem_cons_self ..);refine⟨by simp,.inl ⟨D,_,rfl,run_takeDeferred hd.2,?_⟩⟩;refine ih _ (hP w D hk hd.1 hd.2) (List.nodup_cons.1 hn).2 ?_;intro D' hD';have h1:=hD D' (List.mem_cons_of_mem _ hD');refine⟨h1.1,?_⟩;rw[World.putObj_heap_other (fun e=>(List.nodup_cons.1 hn).1 (by rw[<-e];exact hD'))];exact h1.2
theorem KeepsFrom.of_keeps {B:Nat}{V V1:World}{S:List Nat} (h:A1 V V1 S) (hS:∀k∈S,k<B):KeepsFrom B V V1:=
 ⟨h.size,fun k o hB hk _=>(h.block k (Array.getElem?_eq_some_iff.1 hk).1 (fun hm=>by have:=hS k hm;omega)).trans hk⟩
def DX (w:World) (Ds:List Nat) (W:World):Prop:=Ds.Nodup/\∀D∈Ds,w.heap.size<=D/\W.heap[D]?=some (.deferred (some []))
theorem DX.keeps {W':World}{Ds:List Nat}{S:List Nat} (h:DX w Ds W) (hk:A1 W W' S) (hS:∀k∈S,∃c e f,W.heap[k]?=some (.cells c e f)):DX w Ds W':=
 ⟨h.1,fun D hD=>⟨(h.2 D hD).1,(hk.block D (Array.getElem?_eq_some_iff.1 (h.2 D hD).2).1 (fun hm=>by
  obtain⟨c,e,f,h1⟩:=hS D hm;rw[(h.2 D hD).2]at h1;simp at h1)).trans (h.2 D hD).2⟩⟩
theorem DX.cons {W0:World}{Ds:List Nat}{D:Nat} (h0:DX w Ds W0) (h:DX w Ds W) (hw:w.heap.size<=W0.heap.size) (hD:W0.heap.size<=D) (hd:W.heap[D]?=some (.deferred (some []))):DX w (D::Ds) W:=
 ⟨List.nodup_cons.2 ⟨fun hm=>by have:=(Array.getElem?_eq_some_iff.1 (h0.2 D hm).2).1;omega,h.1⟩,fun D' hD'=>by
  rcases List.mem_cons.1 hD' with rfl |hD'
  ·exact⟨by omega,hd⟩
  ·exact h.2 D' hD'⟩
theorem KnV.kind  (h:KnV w kb n k):∀b∈ [kb],∃c e f,w.heap[b]?=some (.cells c e f):=by
 intro b hb;obtain rfl:b=kb:=by simpa using hb
 obtain⟨c,h1⟩:=BJ h.2 (g:=b) rfl;exact⟨c,_,_,h1⟩
theorem KnV.step {W':World}{B:Nat}{row:Option Nat} (h:KnV W kb n k) (hB:kb<B) (hg:W.grownBy W' row) (hr:∀r,row=some r->B<=r/\∃o:Obj,W.heap[r]?=some o/\o.isCells=false):KnV W' kb n k:=
 h.keeps ((A1.refl W row.toList).grown hg (fun k e=>.inl y27Z)) (fun hm=>by
  cases row with
  |none=>simp at hm
  |some r=>
   obtain rfl:kb=r:=by simpa using hm
   have:=(hr kb rfl).1;omega)
theorem BG (W:World) (cs:Array Value) (t j:Nat):(W.alloc (.cells cs t)).cell? (af W.heap.size j)=cs[j]?:=A0 (World.alloc_heap_new W _)
theorem GJ (W:World) (v:Value) (t:Nat):(W.alloc (.cells #[v] t)).cell? (af W.heap.size 0)=some v:=BG W _ t 0
theorem A2 {a:Addr}{v:Value} (o:Obj) (h:W.cell? a=some v):(W.alloc o).cell? a=some v:=cell_kept h (World.grownBy_alloc W o none) (fun r e=>by cases e)
theorem MM (N:NG) (tws:List ByteArray) (pg:List Nm) (adT:Option Addr) (capT gN capN kb fb n₀:Nat) (w:World) (hP:PGr w n₀ N tws pg adT capT gN capN) (hkb:n₀<=kb) (hfb:fb<w.heap.size) (hfk:fb≠kb) (hfn:n₀<=w.heap.size)
  (f0:w.cell? (af fb 0)=some (.slice adT N.nT capT)) (f1:w.cell? (af fb 1)=some (ae gN N.nN capN)) (f2:w.cell? (af fb 2)=some (ae kb N.nN N.nN))
  (sf:Nat) (lb:Array Value) (he:∀args W,(callFunc sf args).run Tryz.prog W=.ok (.enter sf args) W)
  (step:List Fa->Nat × List Pt->List Fa) (μ:List Fa->Nat) (Inv:List Fa->Prop) (hInv:∀k,Inv k->∀r∈N.rules,(step k r=k\/μ (step k r)<μ k)/\Inv (step k r))
  (hstep:∀W k r v,A1 w W [kb]->KnV W kb N.nN k->Inv k->r∈N.rules->C0 W n₀ v r.2->Calls Tryz.prog sf (#[.pointer (some (af kb (r.1*4))),v]++lb) W fun e W'=>e=.returned (.tuple #[])/\KnV W' kb N.nN (step k r)/\A1 W W' [kb])
  (hpos:0<N.nN) (k0:List Fa) (hk0:KnV w kb N.nN k0) (hI0:Inv k0):
  Calls Tryz.prog 61 #[ac fb,.func (.func sf) #[] lb] w fun e w'=>e=.returned (.tuple #[])/\A1 w w' [kb]/\∃k,Inv k/\(∀r∈N.rules,step k r=k)/\KnV w' kb N.nN k:=by
 refine(callsIn_wide (n:=4)).1 ?_;refine callsIn_of_wp_marks Tryz.func61 rfl trivial ?_ rfl;simp only[Tryz.ntmps61,List.size_toArray,lC,List.length_nil,Nat.reduceAdd,Nat.reduceSub,Array.replicate_succ,Array.replicate_zero,List.push_toArray,List.append_toArray,List.nil_append,List.cons_append]
 gi_wp2
 have HP:Hid (PGr w n₀ N tws pg adT capT gN capN):=hid hP;have HS:=hid hstep;have HI:=hid hInv;have hkw:=hk0.lt;have hleN:=hP.leN;have hlN:=hP.lN;have hgN:=hP.hgN;have HF:Hid (w.cell? (af fb 0)=some (.slice adT N.nT capT)/\w.cell? (af fb 1)=some (ae gN N.nN capN)/\w.cell? (af fb 2)=some (ae kb N.nN N.nN)):=hid ⟨f0,f1,f2⟩;have hKS:A1 w ((w.alloc (.cells #[ac fb] 149)).alloc (.cells #[.func (.func sf) #[] lb] 154)) [kb]:=((A1.refl w _).alloc _).alloc _;refine wpIn_loop_ghost (fun g a W=>∃(u4 u5 u6 u7 u8 u9 u10 u11 u12 u13 u14 u15 u16 u17 u18 u19 u20 u21 u22 u23 u24 u25 u26 u27 u28 u29 u30 u31 u32 u33:Value) (Ds:List Nat) (k:List Fa),
   a= {tmps:= #[ac fb,.func (.func sf) #[] lb,ac w.heap.size,ac (w.heap.size+1),u4,u5,u6,u7,u8,u9,u10,u11,u12,u13,u14,u15,u16,u17,u18,u19,u20,u21,u22,u23,u24,u25,u26,u27,u28,u29,u30,u31,u32,u33],defers:=UU Ds}/\
   g=μ k/\Inv k/\KnV W kb N.nN k/\A1 w W [kb]/\W.cell? (af w.heap.size 0)=some (ac fb)/\W.cell? (af (w.heap.size+1) 0)=some (.func (.func sf) #[] lb)/\DX w Ds W) (μ k0) ?start ?round
 case start=>
  refine⟨_,_,_,_,_,_,_,_,_,_,_,_,_,_,_,_,_,_,_,_,_,_,_,_,_,_,_,_,_,_,[],k0,rfl,rfl,hI0,(hk0.keeps (((A1.refl w []).alloc _).alloc _) (by simp)),hKS,?_,?_,List.nodup_nil,fun D hD=>by cases hD⟩
  ·exact A2 _ (GJ w (ac fb) 149)
  ·have h1:=GJ (w.alloc (.cells #[ac fb] 149)) (.func (.func sf) #[] lb) 154
   rw[World.size_alloc]at h1;exact h1
 case round=>
  clear hP hstep hInv hk0 hI0 f0 f1 f2 hKS;rintro g a W ⟨u4,u5,u6,u7,u8,u9,u10,u11,u12,u13,u14,u15,u16,u17,u18,u19,u20,u21,u22,u23,u24,u25,u26,u27,u28,u29,u30,u31,u32,u33,Ds,k,rfl,rfl,hIk,hk,hW,hb2,hb3,hM⟩;have HKk:Hid (KnV W kb N.nN k/\Inv k):=hid ⟨hk,hIk⟩;have HW:Hid (A1 w W [kb]):=hid hW;have HM:Hid (DX w Ds W):=hid hM;have f0:W.cell? (af fb 0)=some (.slice adT N.nT capT):=(hW.cell (by exact hfb) y52Z).trans HF.out.1;have f1:W.cell? (af fb 1)=some (ae gN N.nN capN):=(hW.cell (by exact hfb) y52Z).trans HF.out.2.1;have f2:W.cell? (af fb 2)=some (ae kb N.nN N.nN):=(hW.cell (by exact hfb) y52Z).trans HF.out.2.2;have CC:=(callsIn_wide (n:=3)).2 (kK W kb N.nN k hk hleN hpos);clear hk hIk hW hM;have hsz:w.heap.size+1<W.heap.size:=World.block_lt_of_cell? W _ hb3;have hkW:kb<W.heap.size:=by omega
  gi_wp2_with (first
   | (refine⟨trivial,?_⟩;gi_at_call 102;refine CC.mono ?_;rintro e W1 ⟨gc,cc,rfl,hgc1,hgc2,hgc3,hgc4,hgc5⟩;clear CC;have HC:Hid (∀j,j<N.nN*4->W1.cell? (af gc j)=(DN k)[j]?):=hid hgc3;have HB1:Hid (Below W.heap.size W W1):=hid hgc5;replace hb2:=(hgc5.cell (p:=(af w.heap.size 0)) y57Z).trans hb2;replace hb3:=(hgc5.cell (p:=(af (w.heap.size+1) 0)) (by exact hsz)).trans hb3;replace f0:=(hgc5.cell (p:=(af fb 0)) y74Z).trans f0;replace f1:=(hgc5.cell (p:=(af fb 1)) y74Z).trans f1;replace f2:=(hgc5.cell (p:=(af fb 2)) y74Z).trans f2;have hsz1:=hgc5.size;clear hgc3 hgc5)
   | (refine⟨trivial,?_⟩;gi_at_call 44;refine(TT Fence.wide 3 trivial rfl _ _ _ _ _ _ _).mono ?_;rintro e W2 ⟨rfl,rfl⟩))
  obtain⟨W0,hW0⟩:=qE (W1.alloc (.cells #[.slice adT N.nT capT,ae gN N.nN capN] 69));rw[hW0];have hs0:W0.heap.size=W1.heap.size+1:=by rw[<-hW0,World.size_alloc]
  have hbox:W0.cell? (af W1.heap.size 1)=some (ae gN N.nN capN):=by rw[<-hW0];exact BG W1 _ _ 1
  have hKW:A1 W W0 []:=by rw[<-hW0];exact(A1.of_below HB1.out []).alloc _
  have hK0:A1 w W0 [kb]:=HW.out.trans (hKW.mono (fun k h=>by cases h));have hM0:Hid (DX w Ds W0):=hid (HM.out.keeps hKW (fun k h=>by cases h));have hk0:KnV W0 kb N.nN k:=HKk.out.1.keeps hKW (by simp);have HC0:Hid (∀j,j<N.nN*4->W0.cell? (af gc j)=(DN k)[j]?):=hid fun j hj=>by
   have h1:=HC.out j hj;rw[<-hW0];exact((World.cell?_of_block ((Below.heap_alloc W1 _ gc hgc4)))).trans h1
  have b2:W0.cell? (af w.heap.size 0)=some (ac fb):=by rw[<-hW0];exact A2 _ hb2
  have b3:W0.cell? (af (w.heap.size+1) 0)=some (.func (.func sf) #[] lb):=by rw[<-hW0];exact A2 _ hb3
  have g2:W0.cell? (af fb 2)=some (ae kb N.nN N.nN):=by rw[<-hW0];exact A2 _ f2
  clear hb2 hb3 f0 f1 f2 hW0;refine wpIn_rangeFunc_ownG (F:=Fence.wide) rfl (by omega) (gf:=76) (lb:= #[ac W1.heap.size]) rfl trivial (enters_of Tryz.func76 y1Z rfl)
   (O2 Fence.wide 3 trivial rfl (by omega) W1.heap.size n₀ N tws pg adT capT gN capN w W0 HP.out (hK0.below hfn (fun q h=>by have:=mS.1 h;omega)) hfn (by omega) hbox) belowK_t (belowK_b (by omega)) (Below.refl _ _) (fun _=>rfl)
   (fun pre W=>Inv ((pre.map fun x=>x.1.1).foldl step k)/\KnV W kb N.nN ((pre.map fun x=>x.1.1).foldl step k)/\A1 W0 W [kb]) (fun _ _ _=>False)
   ?own (fun _ _ _ _ _ hs _ _=>hs) ⟨HKk.out.2,hk0,A1.refl _ _⟩
   (fun x=>{tmps:= #[ac fb,.func (.func sf) #[] lb,ac w.heap.size,ac (w.heap.size+1),ae gc N.nN cc,ab (x.1.1.1:Int),x.1.2,ac fb,ac fb,.pointer (some (af fb 2)),ae kb N.nN N.nN,ae gc N.nN cc,ac fb,ac fb,ac fb,.agg #[.slice adT N.nT capT,ae gN N.nN capN],.func (.func 76) #[] #[ac W1.heap.size],ab (x.1.1.1:Int),x.1.2,u19,u20,u21,u22,u23,u24,u25,u26,u27,u28,u29,u30,u31,u32,u33],defers:=[]}) ?assign ?body ?done ?stop
  case assign=>
   intro l x W' K hK;simp only[WB]
   gi_wp2
   exact hK
  case own=>
   rintro pre A B row ⟨h1,h2,h3⟩ hg hr;exact⟨h1,h2.step (by omega) hg hr,h3.grown hg (fun r e=>.inr (hr r e).1)⟩
  case stop=>
   rintro D c pre W' _ _ h _;exact h.elim
  case body=>
   rintro l pre x V ⟨hv1,hv2,hv3⟩ _;obtain⟨⟨⟨rn,rp⟩,pv⟩,hx1,hx2⟩:=x;simp only at hx1 hx2 ⊢;have hpl:=HP.out.ok.lt _ hx1;simp only at hpl;have hlt0:w.heap.size+1<W0.heap.size:=by omega
   have hKV:A1 w V [kb]:=hK0.trans hv3;have c2:=(hv3.cell (p:=(af w.heap.size 0)) (by show w.heap.size<W0.heap.size;omega) y21Z).trans b2;have c3:=(hv3.cell (p:=(af (w.heap.size+1) 0)) (by exact hlt0) (by show w.heap.size+1∉ [kb];simp;omega)).trans b3;have e2:=(hv3.cell (p:=(af fb 2)) (by show fb<W0.heap.size;omega) y52Z).trans g2;have CS:∀V',A1 V V' []->Calls Tryz.prog sf (#[.pointer (some (af kb (rn*4))),pv]++lb) V' fun e W'=>e=.returned (.tuple #[])/\KnV W' kb N.nN (step ((pre.map fun x=>x.1.1).foldl step k) (rn,rp))/\A1 V' W' [kb]:=fun V' hV'=>
    (HS.out V' _ (rn,rp) pv (hKV.trans (hV'.mono (fun q h=>by cases h))) (hv2.keeps hV' (by simp)) hv1 hx1 (hx2.below ((hKV.trans (hV'.mono (fun q h=>by cases h))).below hfn (fun q h=>by have:=mS.1 h;omega))))
   have HCS:=hid CS;clear CS;clear hKV b2 b3 g2;have HV:=hid hv2;have HV3:=hid hv3;have HV1:=hid hv1;clear hv1 hv2 hv3
   gi_wp2
   have hlV:W0.heap.size<=V.heap.size:=HV3.out.size;have hl2:w.heap.size<V.drew.heap.size:=by show w.heap.size<V.heap.size;omega
   have hl3:w.heap.size+1<V.drew.heap.size:=by show w.heap.size+1<V.heap.size;omega
   have hlf:fb<V.drew.heap.size:=by show fb<V.heap.size;omega
   have hne2:w.heap.size∉ [kb]:=by simp;omega
   have hne3:w.heap.size+1∉ [kb]:=by simp;omega
   refine GA (S:=fun w'=>w'.cell? (af w.heap.size 0)=some (ac fb)/\w'.cell? (af (w.heap.size+1) 0)=some (.func (.func sf) #[] lb)/\w'.cell? (af fb 2)=some (ae kb N.nN N.nN)) hmx y1Z y9Z ⟨c2,c3,e2⟩ (fun hH=>?_);refine tB 0 hH ?_;refine tB 1 hH ?_;refine tB 2 hH ?_;refine tB 3 hH ?_;refine tB 4 hH ?_;refine tB 5 hH ?_;refine tB 6 hH ?_;refine tB 7 hH ?_;refine tL ?_;refine tS 8 fun K hK=>?_
   refine tM ?_;rw[if_pos (by rfl)];go_simp;refine(HCS.out _ ((A1.refl _ _).drew)).mono ?_;rintro e V1 ⟨rfl,hn1,hn2⟩;refine hK.out _ _ ?_ fun hH=>?_
   ·exact⟨(hn2.cell (by exact hl2) (by exact hne2)).trans hH.1,(hn2.cell (by exact hl3) (by exact hne3)).trans hH.2.1,(hn2.cell (by exact hlf) y52Z).trans hH.2.2⟩
   clear hK K;refine tL ?_;refine wpAnyH_done y1Z ?_ _;have hst:((pre++ [(⟨((rn,rp),pv),hx1,hx2⟩:RI N w n₀)]).map fun x=>x.1.1).foldl step k=step ((pre.map fun x=>x.1.1).foldl step k) (rn,rp):=by
    rw[List.map_append,List.foldl_append];rfl
   refine⟨KeepsFrom.of_keeps (S:=[kb]) ⟨hn2.os,hn2.tape,hn2.output,hn2.size,hn2.block⟩ (fun q h=>by have:=mS.1 h;omega),?_,?_,?_,?_⟩
   ·exact(A1.drew (A1.refl V [kb])).trans hn2 |>.below (by omega) (fun q h=>by have:=mS.1 h;omega)
   ·rw[hst];exact(HI.out _ HV1.out _ hx1).2
   ·rw[hst];exact hn1
   ·exact HV3.out.trans ((A1.drew (A1.refl V [kb])).trans hn2)
  case done=>
   rintro D ys V hD hys ⟨hv1,hv2,hv3⟩ hd;rw[hys]at hv1 hv2;have hg2:=(hv3.cell (p:=(af fb 2)) (by show fb<W0.heap.size;omega) y52Z).trans g2;have c2:=(hv3.cell (p:=(af w.heap.size 0)) (by show w.heap.size<W0.heap.size;omega) y21Z).trans b2;have c3:=(hv3.cell (p:=(af (w.heap.size+1) 0)) (by show w.heap.size+1<W0.heap.size;omega) (by show w.heap.size+1∉ [kb];simp;omega)).trans b3;have hMV:Hid (DX w (D::Ds) V):=hid (hM0.out.cons (hM0.out.keeps hv3 hk0.kind) (by omega) hD hd);have CE:=(callsIn_wide (n:=3)).2 (nB V kb gc N.nN N.nN cc _ k hv2.1 HKk.out.1.1 hleN (fun j hj=>hv2.2.cellAt j hj) (fun j hj=>by
    rw[hv3.cell (p:=(af gc j)) (by show gc<W0.heap.size;omega) (by show gc∉ [kb];simp;omega)];exact HC0.out j hj))
   have hff:=XU step μ Inv N.rules (fun s hs r hr=>HI.out s hs r hr) k HKk.out.2;have HV:=hid hv2;have HV3:=hid hv3;have HV1:=hid hv1;have HFF:=hid hff;clear hv1 hv2 hv3 hff b2 b3 g2
   by_cases hq:N.rules.foldl step k=k
   ·rw[decide_eq_true hq]at CE
    gi_wp2_with (refine⟨trivial,?_⟩;gi_at_call 103;refine CE.mono ?_;rintro e V1 ⟨rfl,q,rfl⟩)
    refine KJ w.heap.size (fun w'=>A1 w w' [kb]/\KnV w' kb N.nN k) ?_ ?_ (D::Ds) _ ⟨?_,?_⟩ ?_ ?_
    ·rintro w' D' ⟨h1,h2⟩ hD' hd'
     exact⟨h1.grown (grownBy_putObj' w' D' (.deferred none)) (fun r e=>by cases e;exact .inr hD'),h2.step (B:=w.heap.size) hkw (grownBy_putObj' w' D' (.deferred none)) (fun r e=>by cases e;exact⟨hD',_,hd',rfl⟩)⟩
    ·rintro w' ⟨h1,h2⟩
     refine⟨_,results_none rfl _ _ _,rfl,h1,k,HKk.out.2,?_,h2⟩
     rcases HFF.out.1 with h3 |h3
     ·exact h3.2
     ·rw[hq]at h3;omega
    ·exact(hK0.trans HV3.out).trans (A1.of_below (Bzx _ _) _)
    ·have h1:=HV.out
     rw[hq]at h1;exact h1.keeps (A1.of_below (Bzx _ _) []) (by simp)
    ·exact hMV.out.1
    ·exact fun D' hD'=>hMV.out.2 D' hD'
   ·rw[decide_eq_false hq]at CE
    gi_wp2_with (refine⟨trivial,?_⟩;gi_at_call 103;refine CE.mono ?_;rintro e V1 ⟨rfl,q,rfl⟩)
    have hlt:μ (N.rules.foldl step k)<μ k:=by
     rcases HFF.out.1 with h3 |h3
     ·exact absurd h3.1 hq
     ·exact h3
    refine⟨_,hlt,_,_,_,_,_,_,_,_,_,_,_,_,_,_,_,_,_,_,_,_,_,_,_,_,_,_,_,_,_,_,D::Ds,N.rules.foldl step k,rfl,rfl,HFF.out.2,HV.out.keeps (A1.of_below (Bzx _ _) []) (by simp),(hK0.trans HV3.out).trans (A1.of_below (Bzx _ _) _),c2,c3,hMV.out⟩
end
structure FcM (w:World) (n₀ fb kb:Nat) (N:NG) (tws:List ByteArray) (pg:List Nm) (adT:Option Addr) (capT gN capN:Nat) (k:List Fa):Prop where
 gr:PGr w n₀ N tws pg adT capT gN capN
 n0:n₀<=kb
 ne:fb≠kb
 lf:fb<w.heap.size
 f0:w.cell? (af fb 0)=some (.slice adT N.nT capT)
 f1:w.cell? (af fb 1)=some (ae gN N.nN capN)
 f2:w.cell? (af fb 2)=some (ae kb N.nN N.nN)
 kn:KnV w kb N.nN k
theorem FcM.ln  (h:FcM w n₀ fb kb N tws pg adT capT gN capN k):n₀<=w.heap.size:=by
 have:=h.n0;have:=h.kn.lt;omega
theorem FcM.keeps {w':World}{k':List Fa} (h:FcM w n₀ fb kb N tws pg adT capT gN capN k) (hk:A1 w w' [kb]) (hn:KnV w' kb N.nN k'):FcM w' n₀ fb kb N tws pg adT capT gN capN k' where
 gr:=h.gr.below (hk.below h.ln (fun q hq=>by have:=mS.1 hq;have:=h.n0;omega))
 n0:=h.n0
 ne:=h.ne
 lf:=lL h.lf hk.size
 f0:=(hk.cell (by exact h.lf) y80Z).trans h.f0
 f1:=(hk.cell (by exact h.lf) y80Z).trans h.f1
 f2:=(hk.cell (by exact h.lf) y80Z).trans h.f2
 kn:=hn
theorem FcM.below {w':World} (h:FcM w n₀ fb kb N tws pg adT capT gN capN k) (hb:Below w.heap.size w w'):FcM w' n₀ fb kb N tws pg adT capT gN capN k:=
 h.keeps (A1.of_below hb _) (h.kn.keeps (A1.of_below hb []) (by simp))
def J8 (N:NG):Pt->Prop
 | .tok t=>t<N.nT
 | .nam n=>n<N.nN
theorem AY.at {ps:List Pt} (h:AY N ps) {p:Pt} (hp:ps[i]?=some p):J8 N p:=by
 have hm:=mG hp;cases p with
 |tok t=>exact h.2 t hm
 |nam n=>exact h.1 n hm
theorem ZF  (h:k[n]?=some a):B3 k n=a.least:=by unfold B3;rw[h];rfl
theorem sA  (h:k[n]?=some a):EP k n=a.reached:=by unfold EP;rw[h];rfl
theorem jO  (h:k[n]?=some a):AL k n=a.first:=by unfold AL;rw[h];rfl
theorem VM  (h:k[n]?=some a):B2 k n=a.follow:=by unfold B2;rw[h];rfl
theorem Mz10 {P:Prop} (h:P:=by
  go_enter Tryz.func104,Tryz.ntmps104
  go_wp2
  go_quiet (fail)
  go_wp2;go_ret;exact⟨by rw[hr.out];rfl,by first |exact((Below.refl _ _).alloc (lR_ _) _) |exact((Below.refl _ _).alloc (lR_ _) _).trans (Bzx _ _ |>.mono (by simp))⟩):P:=h
theorem rD (w:World) (n₀ fb kb:Nat) (N:NG) (tws:List ByteArray) (pg:List Nm) (adT:Option Addr) (capT gN capN:Nat) (k:List Fa) (h:FcM w n₀ fb kb N tws pg adT capT gN capN k) (p:Pt) (hp:J8 N p):
  Calls Tryz.prog 104 #[ac fb,.agg #[.bool (AQ p),ab (AP p)]] w fun e w'=>e=.returned (ab (LX N k p))/\Below w.heap.size w w':=by
 have hlf:=h.lf;have h0:=h.f0;have h2:=h.f2;have hnN:=h.gr.leN;have hnT:=h.gr.leT;have hkb:=h.kn.lt;have H:=hid h;clear h;cases p with
 |tok t=>
  have ht:t<N.nT:=hp;obtain⟨gT,rfl,hgT,_,hT⟩:=H.out.gr.toks t ht;have hgw:gT<w.heap.size:=by have:=H.out.ln;omega
  simp only[AQ,AP];have hr:Hid (LX N k (.tok t)=N.put t):=hid rfl;obtain⟨nT,hn1⟩:=qF (N.nT);rw[<-hn1]at h0 ht hnT;have H1:Hid (nT=N.nT):=hid hn1;clear hn1 h2;exact Mz10
 |nam n=>
  have hn:n<N.nN:=hp;obtain⟨a,ha⟩:∃a,k[n]?=some a:=⟨_,gE (by rw[H.out.kn.1];exact hn)⟩;have c0:=(H.out.kn.cells ha).1;simp only[AQ,AP];have hr:Hid (LX N k (.nam n)=a.least):=hid (ZF ha);obtain⟨nN,hn1⟩:=qF (N.nN);rw[<-hn1]at h2 hn hnN;have H1:Hid (nN=N.nN):=hid hn1;clear hn1 h0 ha;exact Mz10
theorem SB {α:Type}{l:List α}{x:α} (h:l[j]?=some x):l.drop j=x::l.drop (j+1):=by
 obtain⟨hj,rfl⟩:=gS_.1 h;exact List.drop_eq_getElem_cons hj
theorem dL (w:World) (n₀ fb kb:Nat) (N:NG) (tws:List ByteArray) (pg:List Nm) (adT:Option Addr) (capT gN capN:Nat) (k:List Fa) (h:FcM w n₀ fb kb N tws pg adT capT gN capN k) (hfl:∀n,B3 k n<=202) (v:Value) (ps:List Pt) (hv:C0 w n₀ v ps) (hps:AY N ps) (hlen:ps.length<=8):
  Calls Tryz.prog 63 #[ac fb,v] w fun e w'=>e=.returned (ab (DC N k ps 0))/\Below w.heap.size w w':=by
 obtain⟨ad,cap,rfl,hcap,hcs⟩:=hv;obtain⟨L,hL⟩:=qF (ps.length);rw[<-hL]at hcap hcs hlen ⊢;have hlw:=h.ln;have H:=hid h;have HL:Hid (L=ps.length):=hid hL;have HC:=hid hcs;have HP:Hid (AY N ps):=hid hps;have HF:Hid (∀n,B3 k n<=202):=hid hfl;clear h hL hcs hps hfl
 go_enter Tryz.func63,Tryz.ntmps63
 go_wp2
 go_loopw [5,11] (fun s i wr=>∃j sN:Nat,j<=L/\i=ab j/\s=ab sN/\sN<=201/\Hid (DC N k ps 0=DC N k (ps.drop j) sN)/\Hid (Below w.heap.size w wr)) (fun _ i _=>L - (intOf i).toNat)
 case atStart=>exact⟨0,0,Nat.zero_le _,rfl,rfl,by omega,rfl,Below.refl _ _⟩
 case round=>
  obtain⟨j,sN,hj,rfl,rfl,hs,HE,HB⟩:=hrel
  by_cases hlt:j<L
  ·obtain⟨p,hp⟩:∃p,ps[j]?=some p:=⟨_,gE y32Z⟩
   obtain⟨g,off,rfl,hg,hcl⟩:=HC.out (by omega);have hgw:g<wr.heap.size:=by have:=HB.out.size;omega
   have p0:=(HB.out.cell (p:=(af g (off+j*2))) y6Z).trans (hcl j p hp).1;have p1:=(HB.out.cell (p:=(af g (off+j*2+1))) y6Z).trans (hcl j p hp).2;have HPt:Hid (J8 N p):=hid (HP.out.at hp);have HD:Hid (ps.drop j=p::ps.drop (j+1)):=hid (SB hp);have HK:Hid (FcM wr n₀ fb kb N tws pg adT capT gN capN k):=hid (H.out.below HB.out);have CP:=rD (wr.alloc (.cells #[.bool (AQ p),ab (AP p)] 105)) n₀ fb kb N tws pg adT capT gN capN k (HK.out.below ((Below.refl _ _).alloc (lR_ _) _)) p HPt.out;have hc2:LX N k p<=202:=by
    have h1:=HPt.out;cases p with
    |tok t=>have:=H.out.gr.ok.put2 t h1;show N.put t<=202;omega
    |nam n=>exact HF.out n
   obtain⟨c,hc⟩:=qF (LX N k p);rw[<-hc]at CP hc2;have HC2:Hid (c=LX N k p):=hid hc;have hsz:wr.heap.size<=(wr.alloc (.cells #[.bool (AQ p),ab (AP p)] 105)).heap.size:=by simp
   clear hcl hp hc
   by_cases h202:c=202
   ·have HE2:Hid (DC N k ps 0=202):=hid (by
     rw[HE.out,HD.out];simp only[DC];rw[if_pos (by rw[<-HC2.out];exact h202)])
    subst h202
    go_wp2_with (go_at_call 104;refine CP.mono ?_;rintro e w2 ⟨rfl,hb2⟩;have HB2:Hid (Below w.heap.size w w2):=hid ((HB.out.alloc HB.out.size _).trans (hb2.mono (by have:=HB.out.size;omega)));clear hb2 CP)
    go_ret;exact⟨by rw[HE2.out];rfl,HB2.out⟩
   ·have HE2:Hid (DC N k ps 0=DC N k (ps.drop (j+1)) (min (sN+c) 201)):=hid (by
     rw[HE.out,HD.out];simp only[DC];rw[if_neg (by rw[<-HC2.out];exact h202),<-HC2.out])
    have hne:((c:Int)==202)=false:=by simp;omega
    go_wp2_with (go_at_call 104;refine CP.mono ?_;rintro e w2 ⟨rfl,hb2⟩;have HB2:Hid (Below w.heap.size w w2):=hid ((HB.out.alloc HB.out.size _).trans (hb2.mono (by have:=HB.out.size;omega)));clear hb2 CP)
    go_roundw
    case rel=>exact⟨j+1,min (sN+c) 201,by omega,by go_num,by go_num,by omega,HE2,HB2⟩
    case measure=>simp[intOf];omega
  ·have HE2:Hid (DC N k ps 0=sN):=hid (by
    rw[HE.out,List.drop_eq_nil_of_le y45Z];rfl)
   go_wp2;go_ret;exact⟨by rw[HE2.out];rfl,HB.out⟩
theorem KnV.least {w:World}{kb n:Nat}{k:List Fa} (h:KnV w kb n k) {i:Nat} (hi:i<n) {a:Fa} (ha:k[i]?=some a) (c x:Nat) (hx:x=min a.least c):
  KnV (w.setCell (af kb (i*4)) (ab x)) kb n (k.modify i fun a=>{a with least:=min a.least c})/\A1 w (w.setCell (af kb (i*4)) (ab x)) [kb]:=
 h.put hi _ 0 (by omega) _ (fun b hb=>by rw[ha]at hb;cases hb;rw[hx];rfl)
theorem j8 (w:World) (n₀ fb kb:Nat) (N:NG) (tws:List ByteArray) (pg:List Nm) (adT:Option Addr) (capT gN capN:Nat) (k:List Fa) (h:FcM w n₀ fb kb N tws pg adT capT gN capN k) (hfl:∀n,B3 k n<=202)
  (Bx:Nat) (hBx:w.cell? (af Bx 0)=some (ac fb)) (v:Value) (r:Nat × List Pt) (hr:r∈N.rules) (hv:C0 w n₀ v r.2):
  Calls Tryz.prog 62 #[.pointer (some (af kb (r.1*4))),v,ac Bx] w fun e w'=>e=.returned (.tuple #[])/\KnV w' kb N.nN (EA N k r)/\A1 w w' [kb]:=by
 obtain⟨n,ps⟩:=r;have hn:n<N.nN:=h.gr.ok.lt _ hr;simp only at hv ⊢;have hps:AY N ps:=h.gr.ok.ps hr;have hlen:ps.length<=8:=h.gr.ok.parts _ hr;obtain⟨a,ha⟩:∃a,k[n]?=some a:=⟨_,gE (by rw[h.kn.1];exact hn)⟩;have c0:=(h.kn.cells ha).1;have fz:=h.kn.free (n*4);have hkw:=h.kn.lt;have hBw:=World.block_lt_of_cell? w _ hBx;have CL:=dL w.drew n₀ fb kb N tws pg adT capT gN capN k (h.below ⟨rfl,rfl,rfl,lR_ _,fun _ _=>rfl⟩) hfl v ps (hv.below ⟨rfl,rfl,rfl,lR_ _,fun _ _=>rfl⟩) hps hlen;obtain⟨ad,cap,hve,_⟩:=hv;subst hve;have H:=hid h;have HA:=hid ha;have HN:Hid (n<N.nN):=hid hn;obtain⟨c,hc⟩:=qF (DC N k ps 0);rw[<-hc]at CL;have HCE:Hid (c=DC N k ps 0):=hid hc;have HCL:=hid CL;clear h hfl hr hps hlen ha hn hc CL;have hst:EA N k (n,ps)=k.modify n fun a=>{a with least:=min a.least c}:=by rw[HCE.out];rfl
 have HST:=hid hst;clear hst
 go_enter Tryz.func62,Tryz.ntmps62
 refine AE (fun w'=>w'.cell? (af kb (n*4))=some (ab a.least)/\w'.cell? (af Bx 0)=some (ac fb)/\w'.frozen? (af kb (n*4))=false/\Below w.heap.size w w') y1Z y1Z ⟨c0,hBx,fz,⟨rfl,rfl,rfl,lR_ _,fun _ _=>rfl⟩⟩ (fun hH=>?_);simp only[AC,BM,AO];refine tB 0 hH ?_;refine tB 1 hH ?_;refine tB 2 hH ?_;refine tB 3 hH ?_;refine tB 4 hH ?_;refine tB 5 hH ?_;refine tB 6 hH ?_;refine tL ?_;refine tS 7 fun K hK=>?_
 refine tM ?_;rw[if_pos (by rfl)];go_simp;refine HCL.out.mono ?_;rintro e w2 ⟨rfl,hb2⟩;refine hK.out _ _ ?_ fun hH=>?_
 ·exact⟨(hb2.cell (by exact hkw)).trans hH.1,(hb2.cell (by exact hBw)).trans hH.2.1,(World.frozen?_of_block (w:=w.drew) (hb2.block kb hkw)).trans hH.2.2.1,hH.2.2.2.trans hb2⟩
 clear hK K;refine tB 8 hH ?_;refine tB 9 hH ?_;refine tB 10 hH ?_;refine tB 11 hH ?_;refine tL ?_;refine wpAnyH_done y1Z ?_ _;have HB2:=hid hH.2.2.2;have hz1:=hH.1;have hz2:=hH.2.2.1;clear hH;show wpList _ _ _ _ _ _;go_wp2
 all_goals go_end0
 all_goals
  have HL:=fun x hx=>KnV.least (H.out.kn.keeps (A1.of_below HB2.out []) (by simp)) HN.out HA.out c x hx
  have hm:(min (a.least:Int) c)=((min a.least c:Nat):Int):=by omega
  have he:∀x,x=min a.least c->KnV (w2.setCell (af kb (n*4)) (ab (x:Nat))) kb N.nN (EA N k (n,ps))/\A1 w (w2.setCell (af kb (n*4)) (ab (x:Nat))) [kb]:=fun x hx=>⟨by rw[HST.out];exact(HL x hx).1,(A1.of_below HB2.out _).trans (HL x hx).2⟩
  first
  |exact⟨rfl,he c (by omega)⟩
  |exact⟨rfl,he a.least (by omega)⟩
  | (rw[hm];exact⟨rfl,he _ rfl⟩)
def GL (n j:Nat):List Fa:=(List.range n).map fun i=>{least:=if i<j then 202 else 0,reached:=false,first:=0,follow:=0}
theorem KC (n j:Nat):(GL n j).length=n:=by simp[GL]
theorem MT  (h:i<n):(GL n j)[i]?=some {least:=if i<j then 202 else 0,reached:=false,first:=0,follow:=0}:=by
 simp[GL,h]
theorem j6:(GL n j).modify j (fun a=>{a with least:=202})=GL n (j+1):=by
 apply List.ext_getElem?;intro i;rw[J5]
 by_cases hi:i<n
 ·rw[MT hi,MT hi]
  split
  ·rename_i e
   subst e;simp
  ·rename_i e
   congr 2
   by_cases h1:i<j
   ·rw[if_pos h1,if_pos (by omega)]
   ·rw[if_neg h1,if_neg (by omega)]
 ·rw[List.getElem?_eq_none (by rw[KC];omega),List.getElem?_eq_none (by rw[KC];omega)]
  simp
theorem Q0 (n:Nat) (m:Nat):B3 (GL n n) m=202:=by
 unfold B3
 by_cases h:m<n
 ·rw[MT h];simp[h]
 ·rw[List.getElem?_eq_none (by rw[KC];omega)];rfl
theorem lI (N:NG):I2 N (GL N.nN N.nN) where
 len:=KC _ _
 only:=fun a ha=>by
  obtain⟨i,_,rfl⟩:=List.mem_map.1 ha;exact⟨rfl,rfl,rfl⟩
 le:=fun n=>by rw[Q0];omega
 bar:=fun T _ n h=>absurd (Q0 _ n) h
 nul:=fun T _ n h=>by rw[Q0]at h;omega
 gr:=fun T hT _ n=>by rw[Q0];have:=hT n;omega
theorem QC (w:World) (n₀ fb kb:Nat) (N:NG) (tws:List ByteArray) (pg:List Nm) (adT:Option Addr) (capT gN capN:Nat) (h:FcM w n₀ fb kb N tws pg adT capT gN capN (GL N.nN 0)):
  Calls Tryz.prog 36 #[ac fb] w fun e w'=>e=.returned (.tuple #[])/\A1 w w' [kb]/\∃k,I2 N k/\(∀r∈N.rules,EA N k r=k)/\KnV w' kb N.nN k:=by
 have hlf:=h.lf;have h2:=h.f2;have hnN:=h.gr.leN;have hkb:=h.kn.lt;have hne:=h.ne;have H:=hid h;obtain⟨nN,hn1⟩:=qF (N.nN);rw[<-hn1]at h2 hnN;have HN:Hid (nN=N.nN):=hid hn1;clear h hn1
 go_enter Tryz.func36,Tryz.ntmps36
 go_wp2
 go_loopw [8] (fun i wr=>∃j:Nat,j<=nN/\i=ab j/\Hid (A1 w wr [kb])/\Hid (KnV wr kb nN (GL nN j))/\wr.cell? (af w.heap.size 0)=some (ac fb)/\wr.cell? (af fb 2)=some (ae kb nN nN)) (fun i _=>nN - (intOf i).toNat)
 case atStart=>exact⟨0,Nat.zero_le _,rfl,(A1.refl _ _).alloc _,hid (by rw[HN.out];exact H.out.kn.keeps ((A1.refl w []).alloc _) (by simp)),GJ _ _ _,A2 _ h2⟩
 case round=>
  obtain⟨j,hj,rfl,HK,HV,hb,hf⟩:=hrel;have hfz:=HV.out.free (j*4)
  by_cases hlt:j<nN
  ·have hc:=(HV.out.cells (MT hlt)).1
   have hbs:=World.block_lt_of_cell? wr _ hb;go_wp2
   go_roundw
   case rel=>
    obtain⟨h3,h4⟩:=HV.out.put hlt (fun a=>{a with least:=202}) 0 (by omega) (ab 202) (fun a _=>rfl);rw[j6]at h3;refine⟨j+1,by omega,by go_num,hid (HK.out.trans h4),h3,?_,?_⟩
    ·exact(h4.cell (by exact hbs) y21Z).trans hb
    ·exact(h4.cell (by show fb<wr.heap.size;have:=HK.out.size;omega) y66Z).trans hf
   case measure=>simp[intOf];omega
  ·obtain rfl:j=nN:=by omega
   have HX:Hid (FcM wr n₀ fb kb N tws pg adT capT gN capN (GL N.nN N.nN)):=hid (H.out.keeps HK.out (by have h3:=HV.out;rw[HN.out]at h3;exact h3));have hbs:w.heap.size<wr.heap.size:=World.block_lt_of_cell? wr _ hb;have CS:=MM N tws pg adT capT gN capN kb fb n₀ wr HX.out.gr HX.out.n0 HX.out.lf HX.out.ne HX.out.ln HX.out.f0 HX.out.f1 HX.out.f2 62 #[ac w.heap.size] (enters_of Tryz.func62 y1Z rfl)
    (EA N) (FU (·.least)) (I2 N) (fun k hk r hr=>cX HX.out.gr.ok hk hr)
    (fun W k r v hW hk hI hr hv=>j8 W n₀ fb kb N tws pg adT capT gN capN k (HX.out.keeps hW hk) hI.le w.heap.size ((hW.cell (by exact hbs) y21Z).trans hb) v r hr hv)
    HX.out.gr.ok.pos (GL N.nN N.nN) HX.out.kn (lI N)
   have HCS:=hid CS;clear CS
   go_wp2_with (go_at_call 61;refine HCS.out.mono ?_;rintro e w2 ⟨rfl,hk2,hr2⟩;have HR:=hid (And.intro hk2 hr2);clear hk2 hr2)
   go_end0
   exact⟨rfl,HK.out.trans HR.out.1,HR.out.2⟩
end Go.Proofs.YtjjggdcnpndgjabGreatDoor
