import Derived.Test.YtjjggdcnpndgjabGreatDoorJ37
set_option linter.unusedSimpArgs false
set_option maxHeartbeats 4000000
set_option maxRecDepth 100000
namespace Go.Proofs.YtjjggdcnpndgjabGreatDoor
open Go.RowKit Go.Shelf
variable {B:Nat}{L:List Pt}{T:Tab}{w w':World}
section
attribute [local go_sem] Oper.semAt_some
theorem VS (s:Nat):(B1 s).length<=21:=lT_ (List.length_filter_le _ _) (by simp)
def G6 (tws:List ByteArray) (nT:Nat) (l:List Nat):List ByteArray:=l.map (CX tws nT)
theorem V9 (w:World) (n₀ fb kb:Nat) (N:NG) (tws:List ByteArray) (pg:List Nm) (adT:Option Addr) (capT gN capN:Nat) (k:List Fa) (h:FcM w n₀ fb kb N tws pg adT capT gN capN k) (hT:TabAt 0 Lib.deBruijn32tab w) (s:Nat) (hs:s<2 ^21) (hb:∀t,t∈B1 s->t<=N.nT):
  Calls Tryz.prog 89 #[ac fb,.int .u32 s] w fun e w'=>∃v,e=.returned v/\DR w' w.heap.size v (G6 tws N.nT (B1 s))/\Below w.heap.size w w':=by
 obtain⟨i0,hi,hz0,hz1,hz2⟩:=info_parts Tryz.info9;have hkw:=h.kn.lt;have hfw:=h.lf;have H:=hid h;have HT:=hid hT;have HB:=hid hb;have htab:0<w.heap.size:=World.block_lt_of_cell? _ _ (hT 0 (by decide));clear h hT hb;refine(callsIn_wide (n:=4)).1 ?_;refine callsIn_of_wp_marks Tryz.func89 rfl trivial ?_ rfl;simp only[Tryz.ntmps89,List.size_toArray,lC,List.length_nil,Nat.reduceAdd,Nat.reduceSub,Array.replicate_succ,Array.replicate_zero,List.push_toArray,List.append_toArray,List.nil_append,List.cons_append]
 gi_wp2_with (refine⟨trivial,?_⟩;gi_at_call 42;refine(YS Fence.wide 3 trivial rfl _ _).mono ?_;rintro e w' ⟨rfl,rfl⟩)
 have bf:=GJ w (ac fb) 149;obtain⟨w1,hw1⟩:=qE (w.alloc (.cells #[ac fb] 149));have hs1:w1.heap.size=w.heap.size+1:=by rw[<-hw1,World.size_alloc]
 have HW1:Hid (Below w.heap.size w w1):=hid (by rw[<-hw1];exact bal (Below.refl _ _));rw[hw1]at bf ⊢;rw[show w.heap.size+1=w1.heap.size from hs1.symm];have bO:=Boxed.new w1 30 (.slice none 0 0);obtain⟨w2,hw2⟩:=qE (w1.alloc (.cells #[.slice none 0 0] 30));have hs2:w2.heap.size=w1.heap.size+1:=by rw[<-hw2,World.size_alloc]
 have hb2:Below w1.heap.size w1 w2:=by rw[<-hw2];exact bal (Below.refl _ _)
 rw[hw2]at bO ⊢;rw[show w1.heap.size+1=w2.heap.size from hs2.symm];have bS:=GJ w2 (.int .u32 s) 118;obtain⟨w3,hw3⟩:=qE (w2.alloc (.cells #[.int .u32 s] 118));have hs3:w3.heap.size=w2.heap.size+1:=by rw[<-hw3,World.size_alloc]
 have bO3:=bO.alloc (.cells #[.int .u32 s] 118);have hb3:Below w1.heap.size w1 w3:=by rw[<-hw3];exact hb2.alloc hb2.size _
 rw[hw3]at bS bO3 ⊢;have hs1':w.heap.size+1<=w1.heap.size:=by omega
 have hs2':w1.heap.size+1<=w2.heap.size:=by omega
 have hs3':w2.heap.size+1<=w3.heap.size:=by omega
 clear hw1 hw2 hw3 hs1 hs2 hs3;have HX1:Hid (FcM w1 n₀ fb kb N tws pg adT capT gN capN k):=hid (H.out.below HW1.out);have fb0:=HX1.out.f0;have fb1:=HX1.out.f1;have hfw1:=HX1.out.lf;refine wpIn_rangeFunc_ownG (F:=Fence.wide) rfl (by omega) (gf:=74) (lb:= #[ac w2.heap.size]) rfl trivial (enters_of Tryz.func74 y1Z rfl)
  (YG 3 (by omega) w2.heap.size w1.heap.size s hs (by omega) w3 (by omega) (TabAt.below (TabAt.below HT.out HW1.out (by omega)) hb3 (by omega)) bS) belowK_t (belowK_b (by omega)) (Below.refl _ _) (fun _=>rfl)
  (fun(pre:List (TI s)) W=>(∃v,Boxed W w1.heap.size 30 v/\W.ownsRow w1.heap.size 9 1 v (G6 tws N.nT (pre.map (·.1))).length (EW (G6 tws N.nT (pre.map (·.1))))/\True)/\Below w1.heap.size w1 W)
  (fun _ _ _=>False)
  (OwnFrom.and (Own.from (holdsRow_own w1.heap.size w1.heap.size 30 9 1 (fun(pre:List (TI s))=>(G6 tws N.nT (pre.map (·.1))).length) (fun(pre:List (TI s))=>EW (G6 tws N.nT (pre.map (·.1)))) (fun _ _=>True)) _) (ownFrom_below (lR_ _) (by omega)))
  (fun _ _ _ _ _ hs _ _=>hs)
  ⟨⟨_,bO3,World.ownsRow_nil _ _ _ _,trivial⟩,hb3⟩
  (fun x=>{tmps:= #[ac fb,.int .u32 s,ac w.heap.size,undef,.slice none 0 0,ac w1.heap.size,ab (x.1:Int),.int .u32 s,.func (.func 74) #[] #[ac w2.heap.size],ab (x.1:Int),undef,undef,undef,undef,undef,undef,undef,undef,undef,undef],defers:=[]}) ?assign ?body ?done ?stop
 case assign=>
  intro l x W K hK;simp only[jT]
  gi_wp2
  exact hK
 case stop=>
  rintro D c pre W _ _ h _;exact h.elim
 case done=>
  rintro D ys W hD hys ⟨⟨v,hv,hrow,_⟩,hB⟩ hK;have hc:=hv.cell;have hrow2:=ownsRow_putObj hrow (.deferred none) hK rfl;have hBW:=hB.trans (belowK_b (w:=w1) (lR_ _) W D _ (.deferred none) (by omega) hK rfl rfl);have HR:=hid (And.intro hrow2 hBW);clear hrow hrow2 hBW hB
  gi_wp2
  refine⟨by simp,.inl ⟨_,_,rfl,run_takeDeferred hK,?_⟩⟩;refine⟨_,results_tmp rfl _ _ _,v,rfl,?_,HW1.out.trans (HR.out.2.mono (by omega))⟩;have h1:=HR.out.1;rw[hys]at h1;exact DR.base h1 (by omega)
 case body=>
  rintro l pre ⟨t,ht⟩ W ⟨⟨v,hv,hrow,_⟩,hB⟩ hlt;simp only at hlt ⊢;have htn:t<=N.nT:=HB.out t ht;have hl21:=VS s;have hpl:(G6 tws N.nT (pre.map (·.1))).length<=21:=by unfold G6;rw[lM,lM];omega
  have hszW:=hB.size;have cF:=(hB.cell (p:=(af w.heap.size 0)) (by show w.heap.size<w1.heap.size;omega)).trans bf;have c0:=(hB.cell (p:=(af fb 0)) (by exact hfw1)).trans fb0;have c1:=(hB.cell (p:=(af fb 1)) (by exact hfw1)).trans fb1;have cV:=hv.cell;have hBl:=hv.lt;have HPW:Hid (PGr W.drew n₀ N tws pg adT capT gN capN):=hid (HX1.out.gr.below ((bdr hB).mono HX1.out.ln));have CW:=PE W.drew n₀ N tws pg adT capT gN capN HPW.out (by show n₀<=W.heap.size;have:=HX1.out.ln;omega) t htn;have HCW:=hid CW;have HB1:Hid (Below w1.heap.size w1 W):=hid hB;have HV:=hid hv;have HRow:=hid hrow;have hwds:EW (G6 tws N.nT ((pre++ [(⟨t,ht⟩:TI s)]).map (·.1)))=EW (G6 tws N.nT (pre.map (·.1)))++ [.string (CX tws N.nT t)]/\(G6 tws N.nT ((pre++ [(⟨t,ht⟩:TI s)]).map (·.1))).length=(G6 tws N.nT (pre.map (·.1))).length+1:=by
   unfold G6 EW;simp
  have HWD:=hid hwds;obtain⟨wd,hwd⟩:=qE (CX tws N.nT t);rw[hwd]at HCW HWD;obtain⟨kk,hkk⟩:=qE ((G6 tws N.nT (pre.map (·.1))).length);rw[hkk]at hpl HRow HWD;clear CW hB hv hrow hwds hwd hkk HPW htn
  gi_wp2
  have hl2:w.heap.size<W.heap.size:=by omega
  have hlf:fb<W.heap.size:=by omega
  refine C3 (fun w'=>w'.cell? (af w1.heap.size 0)=some v/\w'.cell? (af w.heap.size 0)=some (ac fb)/\w'.cell? (af fb 0)=some (.slice adT N.nT capT)/\w'.cell? (af fb 1)=some (ae gN N.nN capN)) hmx y1Z y9Z y1Z ⟨cV,cF,c0,c1⟩ (fun hH=>?_);simp only[AC,BM,AO];refine tB 0 hH ?_;refine tB 1 hH ?_;refine tB 2 hH ?_;refine tB 3 hH ?_;refine tB 4 hH ?_;refine tB 5 hH ?_;refine tL ?_;refine tS 6 fun K hK=>?_
  refine tM ?_;rw[if_pos (by rfl)];go_simp;refine HCW.out.mono ?_;rintro e w6 ⟨rfl,hb6⟩;refine hK.out _ _ ?_ fun hH=>?_
  ·exact⟨(hb6.cell (by exact hBl)).trans hH.1,(hb6.cell (by exact hl2)).trans hH.2.1,(hb6.cell (by exact hlf)).trans hH.2.2.1,(hb6.cell (by exact hlf)).trans hH.2.2.2⟩
  clear hK K;refine tL ?_;have hbW6:Below W.heap.size W w6:=(bdr (Below.refl W.heap.size W)).trans hb6;have hsz6:=hbW6.size;have hv6:Boxed w6 w1.heap.size 30 v:=(hbW6.block w1.heap.size hBl).trans HV.out;have hrow6:w6.ownsRow w1.heap.size 9 1 v kk (EW (G6 tws N.nT (pre.map (·.1)))):=A8 HRow.out (A1.of_below hbW6 []) (by simp);have ogB:=hv6.not_row (by decide) hrow6;have hoff:∀g,g<w1.heap.size->some g≠v.ownBlock:=fun g hg e=>by have:=(hrow6.lt g e.symm).1;omega
  have ogF:=hoff w.heap.size (by omega);have ogf:=hoff fb hfw1;have HV6:=hid hv6;have HRow6:=hid hrow6;have HBW6:=hid hbW6;clear hv6 hrow6 hbW6 hoff hb6;refine tS 7 fun K hK=>?_
  refine tM ?_;go_simp;refine hK.out _ _ ?_ fun hH=>?_
  ·exact⟨A2 _ hH.1,A2 _ hH.2.1,A2 _ hH.2.2.1,A2 _ hH.2.2.2⟩
  clear hK K;refine tL ?_;refine tS 8 fun K hK=>?_
  refine tM ?_;rw[if_pos (by rfl)];refine wp_append_lies _ (.tmp 10) (.tmp 17) 30 rfl w1.heap.size 9 i0 (.string ByteArray.empty) 1 16 Tryz.underlying30 hi hz0 hz1 hz2 rfl (by decide) v _ _ rfl (HRow6.out.alloc _) (af w6.heap.size 0) 1 1 [.string wd] rfl rfl (World.news_of_block (fr:=(0,0)) (heap_alloc_new w6 _)) y4Z (by omega) y3Z (by omega) y2Z _ rfl ?_;intro g2 cap2 w7 hown hgrow hat hlt2;refine hK.out _ _ ?_ fun hH=>?_
  ·exact⟨(hgrow.cell_far _ y2Z (by exact ogB)).trans hH.1,(hgrow.cell_far _ y2Z (by exact ogF)).trans hH.2.1,(hgrow.cell_far _ y2Z (by exact ogf)).trans hH.2.2.1,(hgrow.cell_far _ y2Z (by exact ogf)).trans hH.2.2.2⟩
  clear hK K;refine tL ?_;refine tB 9 hH ?_;refine tL ?_;refine wpAnyH_done y1Z ?_ _;clear hH hat hlt2;obtain⟨hv1,hv2,hr2,hk2,hb2⟩:=HV6.out.appended (by decide) HRow6.out (by omega) (lR_ _) hown hgrow;have hc1:=hv1.cell;have hf1:=hv1.frozen;have HEnd:=hid (And.intro hv2 (And.intro hr2 (And.intro hk2 hb2)));clear hv1 hv2 hr2 hk2 hb2 hown hgrow;show wpList _ _ _ _ _ _;go_wp2;refine⟨(KeepsFrom.of_keeps (S:=[]) (A1.of_below HBW6.out []) (fun q h=>by cases h)).trans (HEnd.out.2.2.1.from _),(HBW6.out.mono hszW).trans HEnd.out.2.2.2,⟨_,HEnd.out.1,?_,trivial⟩,(HB1.out.trans (HBW6.out.mono hszW)).trans HEnd.out.2.2.2⟩;rw[HWD.out.1,HWD.out.2];exact HEnd.out.2.1
end
section
attribute [local go_sem] Oper.semAt_some
theorem SkV.parts {v:Value} (h:SkV w B v L):C0 w w.heap.size v L.reverse:=by
 obtain⟨ad,cap,e,hc⟩:=h.form;refine⟨ad,cap,by rw[List.length_reverse];exact e,by rw[List.length_reverse];exact hc,fun h0=>?_⟩;rw[List.length_reverse]at h0;obtain⟨g,cap',e2,hg1,hg2,hg3⟩:=AX h h0;rw[e]at e2;injection e2 with e3 _ e4
 subst e3;subst e4;subst e;refine⟨g,0,rfl,hg2,fun i p hp=>?_⟩;have hi:=(gS_.1 hp).1;rw[List.length_reverse]at hi;have h1:=World.ownsRow.cellAt h (i*2) (by omega);have h2:=World.ownsRow.cellAt h (i*2+1) (by omega);have f0:=RZ (fun p=>[Value.bool (AQ p),ab (AP p)]) (fun _=>rfl) L.reverse i p 0 hp (by omega);have f1:=RZ (fun p=>[Value.bool (AQ p),ab (AP p)]) (fun _=>rfl) L.reverse i p 1 hp (by omega);rw[Nat.zero_add];exact⟨h1.trans f0,h2.trans f1⟩
def J2 (T:Tab):List Pt->Nat
 | []=>0
 |p::_=>(E6 T.k p).1
theorem VH {t:Nat}:∀x,x∈B1 (1<<<t)->x=t:=by
 intro x hx;have h1:=LE hx;rw[Nat.one_shiftLeft,Nat.testBit_two_pow]at h1;have h2:t=x:=by simpa using h1
 exact h2.symm
theorem eW  (hT:T.Ok) (hT20:T.N.nT<=20)  (hL:AY T.N L):J2 T L<2 ^21/\∀t,t∈B1 (J2 T L)->t<=T.N.nT:=by
 match L with
 | []=>exact⟨by show(0:Nat)<2 ^21;decide,fun t ht=>by have:=LE ht;simp[J2]at this⟩
 | .tok u::s=>
  have hu:u<T.N.nT:=hL.2 u (List.mem_cons_self ..);exact⟨mU (by omega),fun t ht=>by have:=VH t ht;omega⟩
 | .nam n::s=>
  have hn:n<T.N.nN:=hL.1 n (List.mem_cons_self ..);refine⟨hT.fh n,fun t ht=>?_⟩;have h1:(AL T.k n).testBit t=true:=LE ht;have h2:t<=20:=by
   rcases Nat.lt_or_ge 20 t with h |h
   ·exfalso
    have h3:=hT.fh n;have:(AL T.k n).testBit t=false:=Nat.testBit_lt_two_pow (lL h3 (Nat.pow_le_pow_right (by omega) (by omega)));rw[this]at h1;cases h1
   ·exact h
  rw[hT.beg n t hn h2]at h1;cases h4:T.rul n t with
  |none=>rw[h4]at h1;cases h1
  |some rhs=>exact Nat.le_of_lt (hT.rl n t rhs h4).2.1
theorem o9  (hT:T.Ok) {p:Pt} (hp:J8 T.N p):(E6 T.k p).2=false:=by
 cases p with
 |tok t=>rfl
 |nam n=>exact hT.nn n hp
theorem Mz37 {P:Prop} (h:P:=by
  have hlN:w.heap.size+1<W.heap.size:=World.block_lt_of_cell? _ _ cN;have hlB:w.heap.size<W.heap.size:=by omega
  have hwW:wk<W.heap.size:=by omega
  have hDl:D<W.heap.size:=(Array.getElem?_eq_some_iff.1 hK).1;have HCW:=hid (V9 W.drew _ _ _ _ _ _ _ _ _ _ _ (HIa.out W.drew H2.out.drew).1.fc (HIa.out W.drew H2.out.drew).2 sx (by rw[<-HSX.out];exact HX.out.1) (fun t ht=>HX.out.2 t (by rw[HSX.out];exact ht)))
  gi_wp2
  refine K7 ((wpIn_wide (n:=4)).2 ?_);refine wp_region_held_drew (S:=fun w'=>w'.cell? (af w.heap.size 0)=some (ac wk)/\w'.cell? (af wk 0)=some (ac T.tb)/\w'.cell? (af (w.heap.size+1) 0)=some (.int .u32 sx)) y1Z ⟨cB,c0W,cN⟩ (fun hH=>?_);refine tB 0 hH ?_;refine tB 1 hH ?_;refine tB 2 hH ?_;refine tB 3 hH ?_;refine tB 4 hH ?_;refine tB 5 hH ?_;refine tB 6 hH ?_;refine tL ?_;refine tS 7 fun K hK=>?_
  refine tM ?_
  go_simp;refine HCW.out.mono ?_;rintro e w7 ⟨u7,rfl,hu7,hb7⟩;try dsimp only
  refine hK.out _ _ ?_ fun hH=>?_
  ·exact⟨(hb7.cell (by exact hlB)).trans hH.1,(hb7.cell (by exact hwW)).trans hH.2.1,(hb7.cell (by exact hlN)).trans hH.2.2⟩
  clear hK K;refine tB 8 hH ?_;refine tL ?_;refine wpAnyH_done y1Z ?_ _;have hK7:w7.heap[D]?=some (.deferred (some [])):=(hb7.block D hDl).trans hK;have HU:Hid (DR w7 w.heap.size u7 (G6 T.tws T.N.nT (B1 (J2 T L)))):=hid (by rw[HSX.out];exact DR.base hu7 y33Z);have HB7:Hid (Below w.heap.size w w7):=hid (H2.out.trans (((Below.refl _ W).drew.trans hb7).mono y33Z));clear hH hb7 hu7;refine F3 (Q:=fun _ _ _=>False) ?_
  gi_wp2
  refine⟨by simp,.inl ⟨_,_,rfl,run_takeDeferred hK7,?_⟩⟩;exact⟨_,results_tmp rfl _ _ _,u7,rfl,ownsRow_putObj HU.out (.deferred none) hK7 rfl,HB7.out.trans (belowK_b (w:=w) (lR_ _) w7 D _ (.deferred none) hD' hK7 rfl rfl)⟩):P:=h
theorem a7  (hT:T.Ok) {wk x:Nat}{v:Value} (hI:T.In w) (hTab:TabAt 0 Lib.deBruijn32tab w) (hW:WkV w wk T.tb B v L x) (hL:L.length<=100000) (hps:AY T.N L):
  Calls Tryz.prog 53 #[ac wk] w fun e w'=>∃u,e=.returned u/\DR w' w.heap.size u (G6 T.tws T.N.nT (B1 (J2 T L)))/\Below w.heap.size w w':=by
 have hT20:T.N.nT<=20:=hI.fc.gr.leT;have hBd:=hI.bd;obtain⟨hx21,hxb⟩:=eW hT hT20 hps;have hwl:wk<w.heap.size:=lt_of_block hW.1;have HIa:Hid (∀W,Below w.heap.size w W->T.In W/\TabAt 0 Lib.deBruijn32tab W):=hid fun W hb=>⟨hI.below hBd hb,TabAt.below hTab hb (World.block_lt_of_cell? _ _ (hTab 0 (by decide)))⟩
 have HPL:Hid (AY T.N L):=hid hps;have hpv:=hW.2.parts;obtain⟨adv,capv,rfl,_⟩:=hW.2.form;have HPV:Hid (C0 w w.heap.size (.slice adv L.length capv) L.reverse):=hid hpv;have c0:w.cell? (af wk 0)=some (ac T.tb):=(A0 hW.1).trans rfl;have c1:w.cell? (af wk 1)=some (.slice adv L.length capv):=(A0 hW.1).trans rfl;have HX:Hid (J2 T L<2 ^21/\∀t,t∈B1 (J2 T L)->t<=T.N.nT):=hid ⟨hx21,hxb⟩;clear hI hTab hW hps hpv hx21 hxb;refine(callsIn_wide (n:=4)).1 ?_;refine callsIn_of_wp_marks Tryz.func53 rfl trivial ?_ rfl;simp only[Tryz.ntmps53,List.size_toArray,lC,List.length_nil,Nat.reduceAdd,Nat.reduceSub,Array.replicate_succ,Array.replicate_zero,List.push_toArray,List.append_toArray,List.nil_append,List.cons_append]
 gi_wp2_with (refine⟨trivial,?_⟩;gi_at_call 87;refine(bR Fence.wide 3 trivial rfl _ _ _ _).mono ?_;rintro e w1 ⟨rfl,rfl⟩)
 obtain⟨W0,hW0⟩:=qE (((w.alloc (.cells #[ac wk] 85)).alloc (.cells #[.int .u32 0] 118)).alloc (.cells #[.slice adv L.length capv] 98));have hs0:W0.heap.size=w.heap.size+3:=by rw[<-hW0];simp
 have hb0:Below w.heap.size w W0:=by rw[<-hW0];exact(((Below.refl _ w).alloc (lR_ _) _).alloc (by simp) _).alloc y2Z _
 have hx0:W0.heap[w.heap.size]?=some (.cells #[ac wk] 85 (0,0))/\W0.heap[w.heap.size+1]?=some (.cells #[.int .u32 0] 118 (0,0))/\W0.cell? (af (w.heap.size+2) 0)=some (.slice adv L.length capv):=by
  rw[<-hW0];refine⟨?_,?_,?_⟩
  ·exact(Below.heap_alloc _ _ _ y2Z).trans ((Below.heap_alloc _ _ _ (by simp)).trans (World.alloc_heap_new w _))
  ·refine(Below.heap_alloc _ _ _ (by simp)).trans ?_
   have h:=World.alloc_heap_new (w.alloc (.cells #[ac wk] 85)) (.cells #[.int .u32 0] 118)
   rwa [World.size_alloc]at h
  ·have h:=GJ ((w.alloc (.cells #[ac wk] 85)).alloc (.cells #[.int .u32 0] 118)) (.slice adv L.length capv) 98
   rw[World.size_alloc,World.size_alloc]at h;exact h
 rw[hW0];clear hW0;obtain⟨hxa,hxn,hxs⟩:=hx0;have HB0:=hid hb0;refine wpIn_rangeFunc_ownH (F:=Fence.wide) rfl (by omega) (gf:=114) (lb:= #[ac (w.heap.size+2)]) rfl trivial (enters_of Tryz.func114 y1Z rfl)
  (SC 3 (by omega) (w.heap.size+2) L.length (by omega) (JX L.reverse) (FB w.heap.size (w.heap.size+2)) (fun W=>C0 W w.heap.size (.slice adv L.length capv) L.reverse/\W.cell? (af (w.heap.size+2) 0)=some (.slice adv L.length capv))
   (fun A C hQ hK=>⟨hQ.1.below hK.1,(World.cell?_of_block hK.2).trans hQ.2⟩) (fun W hQ=>by have h1:=UH hQ.1 hQ.2;rw[List.length_reverse]at h1;exact h1) W0
   (fun W hW=>⟨HPV.out.below (HB0.out.trans (hW.mono (by omega))),(hW.cell (by show w.heap.size+2<W0.heap.size;omega)).trans hxs⟩))
  FB.trans (FB.put (by omega) (by omega)) (Below.refl _ _) (fun _=>rfl)
  (fun(pre:List (BX L.length (JX L.reverse))) W=>pre=[]/\Below w.heap.size w W/\W0.heap.size<=W.heap.size/\W.heap[w.heap.size]?=some (.cells #[ac wk] 85 (0,0))/\W.heap[w.heap.size+1]?=some (.cells #[.int .u32 0] 118 (0,0)))
  (fun c (pre:List (BX L.length (JX L.reverse))) W=>c=.exit 0/\Below w.heap.size w W/\W.heap[w.heap.size]?=some (.cells #[ac wk] 85 (0,0))/\∃y:BX L.length (JX L.reverse),pre=[y]/\W.heap[w.heap.size+1]?=some (.cells #[.int .u32 (E6 T.k (EV L.reverse y.1.1)).1] 118 (0,0)))
  ?own ?ownx ⟨rfl,hb0,lR_ _,hxa,hxn⟩
  (fun y a' W=>∃pb,W0.heap.size<=pb/\pb<W.heap.size/\W.heap[pb]?=some (.cells #[.bool (AQ (EV L.reverse y.1.1)),ab (AP (EV L.reverse y.1.1))] 105 (0,0))/\a'= {tmps:= #[ac wk,ac w.heap.size,.slice none 0 0,ac (w.heap.size+1),undef,ac pb,undef,undef,ac wk,ac wk,.pointer (some (af wk 1)),.slice adv L.length capv,.func (.func 114) #[] #[ac (w.heap.size+2)],ab (y.1.1:Int),y.1.2,undef,undef,undef,undef,undef,undef,undef,undef,undef,undef,undef,undef,undef,undef,undef,undef,undef,undef,undef,undef,undef,undef,undef,undef],defers:=[]})
  ?ownA ?assign ?body ?done ?stop
 case own=>
  rintro pre A C row ⟨h1,h2,h3,h4,h5⟩ hg hr;exact⟨h1,h2.grown hg (by omega) (fun q e=>by have:=(hr q e).1;omega),lT_ h3 hg.size,FP h4 hg (fun r e=>(hr r e).2),FP h5 hg (fun r e=>(hr r e).2)⟩
 case ownx=>
  rintro c pre A C row ⟨h1,h2,h4,y,h5,h6⟩ hg hr;exact⟨h1,h2.grown hg h2.size (fun q e=>by have:=(hr q e).1;omega),FP h4 hg (fun r e=>(hr r e).2),y,h5,FP h6 hg (fun r e=>(hr r e).2)⟩
 case ownA=>
  rintro y a' _ A C row ⟨pb,h1,h2,h3,h4⟩ hg hr;exact⟨pb,h1,lL h2 hg.size,FP h3 hg (fun r e=>(hr r e).2),h4⟩
 case assign=>
  rintro l pre ⟨⟨i,pvl⟩,hi1,hi2⟩ W K ⟨h1,h2,h3,h4,h5⟩ hK;simp only at hi1 hi2;unfold JX at hi2;subst hi2;have hkw:A1 W (W.alloc (.cells #[.bool (AQ (EV L.reverse i)),ab (AP (EV L.reverse i))] 105)) []:=(A1.refl W []).alloc _;simp only[NX]
  gi_wp2
  exact hK _ _ ((KeepsOthers.alloc _ _).from _) (FB.keeps hkw (by omega) (by omega) (fun q h=>by cases h)) ⟨h1,h2.alloc h2.size _,by rw[World.size_alloc];omega,(Below.heap_alloc _ _ _ (lt_of_block h4)).trans h4,(Below.heap_alloc _ _ _ (lt_of_block h5)).trans h5⟩ ⟨W.heap.size,by omega,by rw[World.size_alloc];omega,World.alloc_heap_new W _,rfl⟩
 case body=>
  rintro l pre ⟨⟨i,pvl⟩,hi1,hi2⟩ a' W hl ⟨r,hr⟩ ⟨rfl,h2,h3,h4,h5⟩ ⟨pb,hp1,hp2,hp3,rfl⟩ hlt;simp only at hi1 hi2 hp3 ⊢;unfold JX at hi2;subst hi2;have hpo:J8 T.N (EV L.reverse i):=by
   have h:L.reverse[i]?=some (EV L.reverse i):=by
    have h0:i<L.reverse.length:=by rw[List.length_reverse];exact hi1
    rw[ND (gE h0)];exact gE h0
   have hm:=List.mem_reverse.1 (mG h);obtain⟨j,hj,e⟩:=List.mem_iff_getElem.1 hm;exact HPL.out.at (gS_.2 ⟨hj,e⟩)
  have c0W:=(h2.cell (p:=(af wk 0)) y19Z).trans c0;have cB:W.cell? (af w.heap.size 0)=some (ac wk):=(A0 h4).trans rfl;have cN:W.cell? (af (w.heap.size+1) 0)=some (.int .u32 0):=(A0 h5).trans rfl;have fN:W.frozen? (af (w.heap.size+1) 0)=false:=A3 h5;have cp0:=(A0 (j:=0) hp3).trans rfl;have cp1:=(A0 (j:=1) hp3).trans rfl;have hf21:=Y7 hT20 hT.fh hpo;have hno:=o9 hT hpo;have HCF:Hid (∀V,Below w.heap.size w V->Calls Tryz.prog 88 #[ac T.tb,.agg #[.bool (AQ (EV L.reverse i)),ab (AP (EV L.reverse i))]] V fun e w'=>e=.returned (.tuple #[.int .u32 (E6 T.k (EV L.reverse i)).1,.bool false])/\Below V.heap.size V w'):=hid fun V hb=>by
   have h:=UY V _ _ _ _ _ _ _ _ _ _ _ (HIa.out V hb).1.fc (EV L.reverse i) hpo;rw[hno]at h;exact h
  obtain⟨bp,hbp⟩:=qE (AQ (EV L.reverse i));obtain⟨np,hnp⟩:=qE (AP (EV L.reverse i));obtain⟨fp,hfp⟩:=qE ((E6 T.k (EV L.reverse i)).1);rw[hbp]at cp0 HCF;rw[hnp]at cp1 HCF;rw[hfp]at HCF hf21;have HFP:=hid hfp;have hor:bits .or .u32 (0:Int) (fp:Int)=(fp:Int):=by
   have h:=RH (a:=0) (b:=fp) (by decide) hf21;rw[Nat.zero_or]at h;exact h
  have H2:=hid h2;have H45:=hid (And.intro h4 h5);clear hpo hno hbp hnp hfp hp3 h2 h4 h5;have hlB:w.heap.size<W.heap.size:=by omega
  have hlN:w.heap.size+1<W.heap.size:=by omega
  have hwW:wk<W.heap.size:=by omega
  gi_wp2
  refine GA (S:=fun w'=>w'.cell? (af w.heap.size 0)=some (ac wk)/\w'.cell? (af wk 0)=some (ac T.tb)/\w'.cell? (af pb 0)=some (.bool bp)/\w'.cell? (af pb 1)=some (ab np)) hmx y1Z y9Z ⟨cB,c0W,cp0,cp1⟩ (fun hH=>?_);refine tB 0 hH ?_;refine tB 1 hH ?_;refine tB 2 hH ?_;refine tB 3 hH ?_;refine tB 4 hH ?_;refine tB 5 hH ?_;refine tB 6 hH ?_;refine tL ?_;refine tS 7 fun K hK=>?_
  refine tM ?_;rw[if_pos (by rfl)];go_simp;refine(HCF.out _ (H2.out.drew)).mono ?_;rintro e w6 ⟨rfl,hb6⟩;refine hK.out _ _ ?_ fun hH=>?_
  ·exact⟨(hb6.cell (by exact hlB)).trans hH.1,(hb6.cell (by exact hwW)).trans hH.2.1,(hb6.cell (by exact hp2)).trans hH.2.2.1,(hb6.cell (by exact hp2)).trans hH.2.2.2⟩
  clear hK K;refine tB 8 hH ?_;refine tB 9 hH ?_;refine tB 10 hH ?_;refine tB 11 hH ?_;refine tB 12 hH ?_;refine tL ?_;refine wpAnyH_done y1Z ?_ _;clear hH;have hbW6:Below W.heap.size W w6:=(Below.refl _ W).drew.trans hb6;have cN6:=(hbW6.cell (p:=(af (w.heap.size+1) 0)) (by exact hlN)).trans cN;have fN6:=(hbW6.frozen (p:=(af (w.heap.size+1) 0)) (by exact hlN)).trans fN;have HB6:=hid hbW6;clear hb6 hbW6 cB cN fN cp0 cp1 c0W
  gi_wp2
  have hk:A1 W (w6.setCell (af (w.heap.size+1) 0) (.int .u32 (fp:Int))) [w.heap.size+1]:=(A1.of_below HB6.out _).setCell (by simp) _;refine⟨G5 hk (fun q hq=>by rw[mS.1 hq];exact⟨_,_,_,H45.out.2⟩),rfl,H2.out.trans (hk.below (by omega) (fun q hq=>by rw[mS.1 hq];omega)),(hk.block _ hlB (by simp)).trans H45.out.1,_,rfl,?_⟩;rw[HFP.out];exact A5 ((HB6.out.block _ hlN).trans H45.out.2) _
 case done=>
  rintro D ys W hD hys ⟨rfl,h2,h3,h4,h5⟩ hK;have hL0:L=[]:=by
   have h1:=congrArg List.length hys;simp at h1;exact List.length_eq_zero_iff.1 h1.symm
  have hx:J2 T L=0:=by rw[hL0];rfl
  have cB:W.cell? (af w.heap.size 0)=some (ac wk):=(A0 h4).trans rfl;have cN:W.cell? (af (w.heap.size+1) 0)=some (.int .u32 (J2 T L)):=by rw[hx];exact(A0 h5).trans rfl
  have c0W:=(h2.cell (p:=(af wk 0)) y19Z).trans c0;have H2:=hid h2;obtain⟨sx,hsx⟩:=qE (J2 T L);rw[hsx]at cN;have HSX:=hid hsx;clear h2 h4 h5 hx hL0 hys hsx;have hD':w.heap.size<=D:=by omega
  exact Mz37
 case stop=>
  rintro D c pre W hD ⟨k,hk,hys⟩ ⟨rfl,h2,h4,y,rfl,h5⟩ hK;have hx:J2 T L=(E6 T.k (EV L.reverse y.1.1)).1:=by
   have h1:=congrArg List.length hys;simp at h1;have h3:L.length=k+1:=by omega
   have h8:(List.range L.length).reverse.head?=some k:=by rw[h3,LH];rfl
   rw[<-hys]at h8;have h9:y.1.1=k:=by simpa using h8
   have h6:L.reverse[k]?=L[0]?:=by
    rw[List.getElem?_reverse (by omega)]
    congr 1;omega
   rw[h9];clear hys h1 h8 h9 h5;clear y;cases L with
   |nil=>simp at h3
   |cons p s=>
    have h7:EV (p::s).reverse k=p:=ND (h6.trans rfl);rw[h7];rfl
  have cB:W.cell? (af w.heap.size 0)=some (ac wk):=(A0 h4).trans rfl;have cN:W.cell? (af (w.heap.size+1) 0)=some (.int .u32 (J2 T L)):=by rw[hx];exact(A0 h5).trans rfl
  have c0W:=(h2.cell (p:=(af wk 0)) y19Z).trans c0;have H2:=hid h2;obtain⟨sx,hsx⟩:=qE (J2 T L);rw[hsx]at cN;have HSX:=hid hsx;have hD':w.heap.size<=D:=by omega
  clear h2 h4 h5 hx hys hsx hk;exact Mz37
end
section
structure AW (B:Nat) (w w':World):Prop where
 os:w'.os=w.os
 tape:w'.tape=w.tape
 output:w'.output=w.output
 size:w.heap.size<=w'.heap.size
 block:∀k,k<w.heap.size->(k<B\/∃c f,w.heap[k]?=some (.cells c 92 f))->w'.heap[k]?=w.heap[k]?
theorem AW.refl (B:Nat) (w:World):AW B w w:=⟨rfl,rfl,rfl,lR_ _,fun _ _ _=>rfl⟩
theorem AW.trans {a b c:World} (h:AW B a b) (k:AW B b c):AW B a c:=
 ⟨k.os.trans h.os,k.tape.trans h.tape,k.output.trans h.output,lT_ h.size k.size,fun i hi hc=>by
  have h1:=h.block i hi hc;exact(k.block i (lL hi h.size) (hc.imp id (fun⟨c,f,h2⟩=>⟨c,f,h1.trans h2⟩))).trans h1⟩
theorem AW.of_keeps {S:List Nat} (h:A1 w w' S) (hS:∀q∈S,B<=q/\∃c e f,w.heap[q]?=some (.cells c e f)/\e≠92):AW B w w':=
 ⟨h.os,h.tape,h.output,h.size,fun k hk hc=>h.block k hk (fun hm=>by
  obtain⟨h1,c,e,f,h2,h3⟩:=hS k hm
  rcases hc with hc | ⟨c',f',hc⟩
  ·omega
  ·rw[h2]at hc
   injection hc with hc
   injection hc with _ hc
   exact h3 hc)⟩
theorem AW.of_below  (h:Below w.heap.size w w'):AW B w w':=.of_keeps (A1.of_below h []) (fun q hq=>by cases hq)
theorem AW.below  (h:AW B w w') (hB:B<=w.heap.size):Below B w w' where
 os:=h.os
 tape:=h.tape
 output:=h.output
 size:=h.size
 block:=fun k hk=>h.block k (by omega) (.inl hk)
structure qD where
 e:Nat
 sz:Nat
 v:Value
 n:Nat
 xs:List Value
def Sl (j:Nat):Prop:=j=3\/j=5\/j=6\/j=8\/j=10
def UV (e:Nat):Prop:=e=3\/e=9\/e=30\/e=42
theorem UV.ne {e:Nat} (h:UV e):e≠88/\e≠100/\e≠105/\e≠92:=by
 rcases h with h |h |h |h <;> subst h <;> decide
structure MdV (T:Tab) (w:World) (mb wk B:Nat) (rv:Value) (a c:Nat) (f:Nat->qD) (ws:Value) (L:List Pt) (x:Nat) (xs:List Value) (X:List (List ByteArray)):Prop where
 blk:w.heap[mb]?=some (.cells #[ac T.tb,rv,ab a,(f 3).v,ac wk,(f 5).v,(f 6).v,ab c,(f 8).v,.slice none 0 0,(f 10).v] 88 (0,0))
 rows:∀j,Sl j->w.ownsRow B (f j).e (f j).sz (f j).v (f j).n (f j).xs
 kind:∀j,Sl j->UV (f j).e
 ap:∀j j',Sl j->Sl j'->j≠j'->∀g,(f j).v.ownBlock=some g->(f j').v.ownBlock≠some g
 wkv:WkV w wk T.tb B ws L x
 len:X.length=xs.length
 ex:∀(i:Nat) u l,xs[i]?=some u->X[i]?=some l->DR w B u l
 ea:∀u∈xs,∀j,Sl j->∀g,u.ownBlock=some g->(f j).v.ownBlock≠some g
 mbB:B<=mb
 wkB:B<=wk
section
variable {T:Tab}{w w' Wa w1:World}{mb wk B a c x:Nat}{rv ws:Value}{f f':Nat->qD}{L:List Pt}{xs:List Value}{X:List (List ByteArray)}
theorem MdV.mbl (h:MdV T w mb wk B rv a c f ws L x xs X):mb<w.heap.size:=lt_of_block h.blk
theorem MdV.keeps {S:List Nat} (h:MdV T w mb wk B rv a c f ws L x xs X) (hk:A1 w w' S) (h1:mb∉S) (h2:∀j,Sl j->∀g,(f j).v.ownBlock=some g->g∉S) (h3:wk∉S) (h4:∀g,ws.ownBlock=some g->g∉S) (h5:∀u∈xs,∀g,u.ownBlock=some g->g∉S):MdV T w' mb wk B rv a c f ws L x xs X where
 blk:=(hk.block mb h.mbl h1).trans h.blk
 rows:=fun j hj=>A8 (h.rows j hj) hk (h2 j hj)
 kind:=h.kind
 ap:=h.ap
 wkv:=h.wkv.keeps hk h3 h4
 len:=h.len
 ex:=fun i u l hu hl=>A8 (h.ex i u l hu hl) hk (h5 u (mG hu))
 ea:=h.ea
 mbB:=h.mbB
 wkB:=h.wkB
theorem MdV.below (h:MdV T w mb wk B rv a c f ws L x xs X) (hb:Below w.heap.size w w'):MdV T w' mb wk B rv a c f ws L x xs X:=h.keeps (A1.of_below hb []) (by simp) (fun _ _ _ _=>by simp) (by simp) (fun _ _=>by simp) (fun _ _ _ _=>by simp)
theorem MdV.rk (h:MdV T w mb wk B rv a c f ws L x xs X) {j:Nat} (hj:Sl j):∀q∈mb::(f j).v.ownBlock.toList,B<=q/\∃c e f,w.heap[q]?=some (.cells c e f)/\e≠92:=fun q hq=>by
 rcases List.mem_cons.1 hq with e |e
 ·subst e;exact⟨h.mbB,_,_,_,h.blk,by decide⟩
 ·have e:(f j).v.ownBlock=some q:=by simpa using e
  obtain⟨c,h1⟩:=BJ (h.rows j hj) e;exact⟨((h.rows j hj).lt q e).1,_,_,_,h1,(h.kind j hj).ne.2.2.2⟩
theorem MdV.far (h:MdV T w mb wk B rv a c f ws L x xs X) {j:Nat} (hj:Sl j):
  (∀j',Sl j'->j'≠j->∀g,(f j').v.ownBlock=some g->g∉mb::(f j).v.ownBlock.toList)/\wk∉mb::(f j).v.ownBlock.toList/\(∀g,ws.ownBlock=some g->g∉mb::(f j).v.ownBlock.toList)/\(∀u∈xs,∀l,DR w B u l->∀g,u.ownBlock=some g->g∉mb::(f j).v.ownBlock.toList):=by
 refine⟨fun j' hj' hne g hg hm=>?_,fun hm=>?_,fun g hg hm=>?_,fun u hu l hl g hg hm=>?_⟩
 ·rcases List.mem_cons.1 hm with e |e
  ·subst e;exact A6 (h.rows j' hj') h.blk (h.kind j' hj').ne.1 hg
  ·exact h.ap j' j hj' hj hne g hg y7Z
 ·rcases List.mem_cons.1 hm with e |e
  ·have h1:=h.wkv.1
   rw[e,h.blk]at h1;injection h1 with h1
   injection h1 with _ h1
   exact absurd h1 (by decide)
  ·exact A6 (h.rows j hj) h.wkv.1 (h.kind j hj).ne.2.1 y7Z
 ·rcases List.mem_cons.1 hm with e |e
  ·subst e;exact A6 h.wkv.2 h.blk (by decide) hg
  ·exact J3 h.wkv.2 (h.rows j hj) (fun e2=>(h.kind j hj).ne.2.2.1 e2.symm) hg y7Z
 ·rcases List.mem_cons.1 hm with e |e
  ·subst e;exact A6 hl h.blk (by decide) hg
  ·exact h.ea u hu j hj g hg y7Z
theorem MdV.app (h:MdV T w mb wk B rv a c f ws L x xs X) {j0:Nat} (hj:Sl j0) (hka:A1 w Wa []) (hgrow:Wa.grownBy w1 (f j0).v.ownBlock) (hown:w1.ownsRow B (f' j0).e (f' j0).sz (f' j0).v (f' j0).n (f' j0).xs) (he:(f' j0).e=(f j0).e) (hsz:(f' j0).sz=(f j0).sz) (hfr:BH w.heap.size (f j0).v (f' j0).v) (ho:∀j,Sl j->j≠j0->f' j=f j):
  w1.heap[mb]?=some (.cells #[ac T.tb,rv,ab a,(f 3).v,ac wk,(f 5).v,(f 6).v,ab c,(f 8).v,.slice none 0 0,(f 10).v] 88 (0,0))/\
   MdV T (w1.setCell (af mb j0) (f' j0).v) mb wk B rv a c f' ws L x xs X/\AW B w (w1.setCell (af mb j0) (f' j0).v):=by
 have hrow:=h.rows j0 hj;rw[<-he,<-hsz]at hrow;obtain⟨z1,z2,z3,z4⟩:=G9 (j:=j0) hka h.blk (by rw[he];exact(h.kind j0 hj).ne.1) hrow hown hgrow;obtain⟨f1,f2,f3,f4⟩:=h.far hj;have hlt:∀j,Sl j->∀g,(f j).v.ownBlock=some g->g<w.heap.size:=fun j hj g hg=>CK (h.rows j hj) hg
 refine⟨z1,⟨?_,fun j hj'=>?_,fun j hj'=>?_,fun j j' h1 h2 hne g hg=>?_,h.wkv.keeps z4 f2 f3,h.len,fun i u l hu hl=>A8 (h.ex i u l hu hl) z4 (f4 u (mG hu) l (h.ex i u l hu hl)),fun u hu j hj' g hg=>?_,h.mbB,h.wkB⟩,AW.of_keeps z4 (h.rk hj)⟩
 ·rw[z2]
  rcases hj with e |e |e |e |e <;> subst e
  ·rw[ho 5 y15Z (by decide),ho 6 y15Z (by decide),ho 8 y15Z (by decide),ho 10 y15Z (by decide)];rfl
  ·rw[ho 3 y15Z (by decide),ho 6 y15Z (by decide),ho 8 y15Z (by decide),ho 10 y15Z (by decide)];rfl
  ·rw[ho 3 y15Z (by decide),ho 5 y15Z (by decide),ho 8 y15Z (by decide),ho 10 y15Z (by decide)];rfl
  ·rw[ho 3 y15Z (by decide),ho 5 y15Z (by decide),ho 6 y15Z (by decide),ho 10 y15Z (by decide)];rfl
  ·rw[ho 3 y15Z (by decide),ho 5 y15Z (by decide),ho 6 y15Z (by decide),ho 8 y15Z (by decide)];rfl
 ·by_cases e:j=j0
  ·subst e;exact z3
  ·rw[ho j hj' e];exact A8 (h.rows j hj') z4 (f1 j hj' e)
 ·by_cases e:j=j0
  ·subst e;rw[he];exact h.kind j hj
  ·rw[ho j hj' e];exact h.kind j hj'
 ·by_cases e:j=j0
  ·subst e
   rw[ho j' h2 (fun e=>hne e.symm)]
   rcases hfr g hg with h3 |h3
   ·exact h.ap j j' h1 h2 hne g h3
   ·intro h4;have:=hlt j' h2 g h4;omega
  ·rw[ho j h1 e]at hg
   by_cases e2:j'=j0
   ·subst e2
    intro h4
    rcases hfr g h4 with h3 |h3
    ·exact h.ap j j' h1 h2 hne g hg h3
    ·have:=hlt j h1 g hg;omega
   ·rw[ho j' h2 e2];exact h.ap j j' h1 h2 hne g hg
 ·by_cases e:j=j0
  ·subst e
   intro h4
   rcases hfr g h4 with h3 |h3
   ·exact h.ea u hu j hj' g hg h3
   ·obtain⟨i,hi,he2⟩:=List.mem_iff_getElem.1 hu
    have hi2:i<X.length:=by rw[h.len];exact hi
    have h5:=h.ex i u X[i] (by rw[gE hi,he2]) (gE hi2);have:=CK h5 hg;omega
  ·rw[ho j hj' e];exact h.ea u hu j hj' g hg
theorem MdV.setAt (h:MdV T w mb wk B rv a c f ws L x xs X) (a':Nat):MdV T (w.setCell (af mb 2) (ab a')) mb wk B rv a' c f ws L x xs X/\AW B w (w.setCell (af mb 2) (ab a')):=by
 have hk:A1 w (w.setCell (af mb 2) (ab a')) [mb]:=(A1.refl w [mb]).setCell (by simp) _;have hS:∀{q:Nat},q∈ [mb]->q∈mb::(f 3).v.ownBlock.toList:=fun hq=>by rw[mS.1 hq];exact List.mem_cons_self ..
 have h3:Sl 3:=.inl rfl;obtain⟨_,f2,f3,f4⟩:=h.far h3;refine⟨⟨A5 (j:=2) h.blk _,fun j hj=>A8 (h.rows j hj) hk (fun g hg hm=>?_),h.kind,h.ap,h.wkv.keeps hk (fun hm=>f2 (hS hm)) (fun g hg hm=>f3 g hg (hS hm)),h.len,fun i u l hu hl=>A8 (h.ex i u l hu hl) hk (fun g hg hm=>f4 u (mG hu) l (h.ex i u l hu hl) g hg (hS hm)),h.ea,h.mbB,h.wkB⟩,AW.of_keeps hk (fun q hq=>h.rk h3 q (hS hq))⟩;have hm:=mS.1 hm;subst hm;exact A6 (h.rows j hj) h.blk (h.kind j hj).ne.1 hg
theorem MdV.setCost (h:MdV T w mb wk B rv a c f ws L x xs X) (c':Nat):MdV T (w.setCell (af mb 7) (ab c')) mb wk B rv a c' f ws L x xs X/\AW B w (w.setCell (af mb 7) (ab c')):=by
 have hk:A1 w (w.setCell (af mb 7) (ab c')) [mb]:=(A1.refl w [mb]).setCell (by simp) _;have hS:∀{q:Nat},q∈ [mb]->q∈mb::(f 3).v.ownBlock.toList:=fun hq=>by rw[mS.1 hq];exact List.mem_cons_self ..
 have h3:Sl 3:=.inl rfl;obtain⟨_,f2,f3,f4⟩:=h.far h3;refine⟨⟨A5 (j:=7) h.blk _,fun j hj=>A8 (h.rows j hj) hk (fun g hg hm=>?_),h.kind,h.ap,h.wkv.keeps hk (fun hm=>f2 (hS hm)) (fun g hg hm=>f3 g hg (hS hm)),h.len,fun i u l hu hl=>A8 (h.ex i u l hu hl) hk (fun g hg hm=>f4 u (mG hu) l (h.ex i u l hu hl) g hg (hS hm)),h.ea,h.mbB,h.wkB⟩,AW.of_keeps hk (fun q hq=>h.rk h3 q (hS hq))⟩;have hm:=mS.1 hm;subst hm;exact A6 (h.rows j hj) h.blk (h.kind j hj).ne.1 hg
theorem MdV.walk {ws':Value}{L':List Pt}{x':Nat} (h:MdV T w mb wk B rv a c f ws L x xs X) (hk:A1 w w' (wk::ws.ownBlock.toList)) (hw:WkV w' wk T.tb B ws' L' x'):MdV T w' mb wk B rv a c f ws' L' x' xs X/\AW B w w':=by
 have hS:∀q∈wk::ws.ownBlock.toList,B<=q/\∃c e f,w.heap[q]?=some (.cells c e f)/\(e=100\/e=105):=fun q hq=>by
  rcases List.mem_cons.1 hq with e |e
  ·subst e;exact⟨h.wkB,_,_,_,h.wkv.1,.inl rfl⟩
  ·have e:ws.ownBlock=some q:=by simpa using e
   obtain⟨c,h1⟩:=BJ h.wkv.2 e;exact⟨(World.ownsRow.lt h.wkv.2 q e).1,_,_,_,h1,.inr rfl⟩
 have hne:∀{q:Nat}{c:Array Value}{e:Nat}{fr:Nat × Nat},w.heap[q]?=some (.cells c e fr)->e≠100->e≠105->q∉wk::ws.ownBlock.toList:=fun h1 h2 h3 hm=>by
  obtain⟨_,c',e',f',h4,h5⟩:=hS _ hm;rw[h1]at h4;injection h4 with h4
  injection h4 with _ h4
  rcases h5 with h5 |h5
  ·exact h2 (h4.trans h5)
  ·exact h3 (h4.trans h5)
 refine⟨⟨(hk.block mb h.mbl (hne h.blk (by decide) (by decide))).trans h.blk,fun j hj=>A8 (h.rows j hj) hk (fun g hg=>?_),h.kind,h.ap,hw,h.len,fun i u l hu hl=>A8 (h.ex i u l hu hl) hk (fun g hg=>?_),h.ea,h.mbB,h.wkB⟩,AW.of_keeps hk (fun q hq=>?_)⟩
 ·obtain⟨c,h1⟩:=BJ (h.rows j hj) hg
  exact hne h1 (h.kind j hj).ne.2.1 (h.kind j hj).ne.2.2.1
 ·obtain⟨c,h1⟩:=BJ (h.ex i u l hu hl) hg
  exact hne h1 (by decide) (by decide)
 ·obtain⟨h1,c,e,f,h2,h3⟩:=hS q hq
  exact⟨h1,c,e,f,h2,by rcases h3 with h3 |h3 <;> subst h3 <;> decide⟩
theorem MdV.addX {u:Value}{l:List ByteArray}{w0:World} (h:MdV T w mb wk B rv a c f ws L x xs X) (hu:DR w B u l) (hn:∀g,u.ownBlock=some g->w0.heap.size<=g) (h0:∀j,Sl j->∀g,(f j).v.ownBlock=some g->g<w0.heap.size):MdV T w mb wk B rv a c f ws L x (xs++ [u]) (X++ [l]) where
 blk:=h.blk
 rows:=h.rows
 kind:=h.kind
 ap:=h.ap
 wkv:=h.wkv
 len:=by simp[h.len]
 ex:=fun i u' l' h1 h2=>by
  have hl:=h.len
  rcases Nat.lt_or_ge i xs.length with h3 |h3
  ·rw[aL h3]at h1
   rw[aL (by omega)]at h2;exact h.ex i u' l' h1 h2
  ·rw[aR_ h3]at h1
   rw[aR_ (by omega)]at h2;have e1:u'=u:=by
    have:=mG h1;simpa using this
   have e2:l'=l:=by
    have:=mG h2;simpa using this
   rw[e1,e2];exact hu
 ea:=fun u' hu' j hj g hg h4=>by
  rcases List.mem_append.1 hu' with h5 |h5
  ·exact h.ea u' h5 j hj g hg h4
  ·rw[mS.1 h5]at hg
   have:=hn g hg;have:=h0 j hj g h4;omega
 mbB:=h.mbB
 wkB:=h.wkB
end
end
end Go.Proofs.YtjjggdcnpndgjabGreatDoor
