import Derived.Test.YtjjggdcnpndgjabGreatDoorJ38
set_option linter.unusedSimpArgs false
set_option maxHeartbeats 8000000
set_option maxRecDepth 100000
namespace Go.Proofs.YtjjggdcnpndgjabGreatDoor
open Go.RowKit Go.Shelf
variable {L L':List Pt}{l:List Oper}{row:List Nat}{t:Nat}{w:World}
section
def V8 (l:List Oper):Nat->Nat->Nat->Bool
 |0,_,_=>false
 |d+1,k,j=>((l[k]?).map fun x=>x.after.toList.any fun e=>Region.binds .any e&&(e.on==j||V8 l d e.on j)).getD false
def N6 (l:List Oper):Bool:=
 match l.getLast? with
 |none=>false
 |some o=>o.guard.isNone&&(o.dst.isNone&&((List.range (l.length - 1)).all (fun j=>V8 l 5 (l.length - 1) j)&&
   (List.range l.length).all fun i=>((l[i]?).map fun x=>x.after.toList.all fun e=>decide (e.on<i)).getD true))
section
variable {P:Program}{Q:Exit->Act->World->Prop}{S:World->Prop}
theorem UX  (hB:N6 l=true) {listed:Array Bool} (hs:listed.size=l.length) (h:Region.ready .any l.toArray listed=[]):∀i,i<l.length->listed.getD i true=true:=by
 intro i
 induction i using Nat.strongRecOn with
 |_ i ih=>
  intro hi;cases hv:listed.getD i true with
  |true=>rfl
  |false=>
   have hmem:i∈Region.ready .any l.toArray listed:=by
    rw[mem_ready];refine⟨hv,l[i],by simp[hi],fun e he hb=>?_⟩;unfold N6 at hB;split at hB
    ·cases hB
    ·simp only[Bool.and_eq_true,List.all_eq_true,List.mem_range]at hB
     have h1:=hB.2.2.2 i hi;rw[gE hi]at h1;simp only[Option.map_some,Option.getD_some,List.all_eq_true,decide_eq_true_eq]at h1;have h2:=h1 e y72Z;have h3:=ih e.on h2 (by omega);rw[Array.getD_eq_getD_getElem?]at h3 ⊢;rw[Array.getElem?_eq_getElem (by omega)]at h3 ⊢;simpa using h3
   rw[h]at hmem;cases hmem
theorem QW {l:List Oper}{listed:Array Bool} (hc:LY l listed):∀(d k j:Nat),listed.getD k false=true->V8 l d k j=true->listed.getD j false=true
 |0,_,_,_,h=>by cases h
 |d+1,k,j,hk,h=>by
  unfold V8 at h;cases hx:l[k]? with
  |none=>rw[hx]at h;cases h
  |some x=>
   rw[hx]at h;simp only[Option.map_some,Option.getD_some,List.any_eq_true,Bool.and_eq_true,Bool.or_eq_true,beq_iff_eq]at h;obtain⟨e,he,hb,h2⟩:=h;have h3:=hc k x hx hk e y72Z hb
   rcases h2 with h2 |h2
   ·rw[<-h2];exact h3
   ·exact QW hc d e.on j h3 h2
theorem dZ  (hB:N6 l=true) {listed:Array Bool} (hc:LY l listed) (h:l.length - 1∈Region.ready .any l.toArray listed):∀j,j+1<l.length->listed.getD j false=true:=by
 intro j hj;obtain⟨_,o,ho,hall⟩:=mem_ready.1 h;unfold N6 at hB;split at hB
 ·cases hB
 ·rename_i o' hl
  have h2:=(I1 l o' hl).2;rw[List.getElem?_toArray,h2]at ho;injection ho with ho
  subst ho;simp only[Bool.and_eq_true,List.all_eq_true,List.mem_range]at hB;have h3:=hB.2.2.1 j (by omega);unfold V8 at h3;rw[h2]at h3;simp only[Option.map_some,Option.getD_some,List.any_eq_true,Bool.and_eq_true,Bool.or_eq_true,beq_iff_eq]at h3;obtain⟨e,he,hb,h5⟩:=h3;have h4:=hall e y72Z hb
  rcases h5 with h5 |h5
  ·rw[<-h5];exact h4
  ·exact QW hc 4 e.on j h4 h5
theorem bW {o:Oper} (ho:l.getLast?=some o) (hB:N6 l=true):∀(fuel:Nat) (listed:Array Bool) (a:Act) (w:World),listed.size=l.length->LY l listed->listed.getD (l.length - 1) true=false->
  wpAny P .any (AC l).toArray (ER fun a w=>wpList P #[o] Q [o] a w) fuel listed a w->wpAny P .any l.toArray Q fuel listed a w:=by
 have hpos:0<l.length:=by cases l with |nil=>simp at ho |cons _ _=>simp
 intro fuel
 induction fuel with
 |zero=>
  intro listed a w hs hcl hl h;have h1:=h.1;rw[KE]at h1;have:=UX hB hs h1 (l.length - 1) (by omega);rw[hl]at this;cases this
 |succ fuel ih=>
  intro listed a w hs hcl hl h;refine⟨fun h1=>?_,fun i hi=>?_⟩
  ·have:=UX hB hs h1 (l.length - 1) (by omega)
   rw[hl]at this;cases this
  ·have h2:=h.2 i (by rw[KE];exact hi)
   unfold wpOp at h2 ⊢;have hio:∃oi,l[i]?=some oi:=by
    obtain⟨_,oi,h3,_⟩:=mem_ready.1 hi;exact⟨oi,by simpa using h3⟩
   obtain⟨oi,hoi⟩:=hio
   by_cases hlast:i+1=l.length
   ·have e:i=l.length - 1:=by omega
    subst e;have hc:=I1 l o ho;rw[List.getElem?_toArray,hc.1]at h2;rw[List.getElem?_toArray,hc.2];have hg:o.guard=none/\o.dst=none:=by
     unfold N6 at hB;rw[ho]at hB;simp only[Bool.and_eq_true,Option.isNone_iff_eq_none]at hB;exact⟨hB.1,hB.2.1⟩
    have hw1:Region.wanted (BM o) (yielded (AC l).toArray a.tmps)=true:=by
     unfold Region.wanted BM;rw[hg.1]
    have hw2:Region.wanted o (yielded l.toArray a.tmps)=true:=by
     unfold Region.wanted;rw[hg.1]
    have hw3:Region.wanted o (yielded #[o] a.tmps)=true:=by
     unfold Region.wanted;rw[hg.1]
    simp only[hw1,hw2,if_true]at h2 ⊢;have hnil:Region.ready .any l.toArray (listed.setIfInBounds (l.length - 1) true)=[]:=by
     rw[List.eq_nil_iff_forall_not_mem];intro j hj;obtain⟨h4,oj,h5,_⟩:=mem_ready.1 hj;have hjl:j<l.length:=by
      rw[List.getElem?_toArray]at h5;exact(gS_.1 h5).1
     by_cases hjl':j=l.length - 1
     ·subst hjl'
      simp[hs]at h4
     ·rw[getD_set_ne true (Ne.symm hjl')]at h4
      have h6:=dZ hB hcl hi j (by omega);rw[Array.getD_eq_getD_getElem?,Array.getElem?_eq_getElem (by omega)]at h4 h6;simp at h4 h6;rw[h4]at h6;cases h6
    have hend:wpList P #[o] Q [o] a w:=by
     rcases h2 with h2 | ⟨_,a',w',h2⟩
     ·have h7:(BM o).wp P a w (wpAny P .any (AC l).toArray (ER fun a w=>wpList P #[o] Q [o] a w) fuel (listed.setIfInBounds (l.length - 1) true)) (ER fun a w=>wpList P #[o] Q [o] a w):=h2
      unfold Oper.wp at h7;have hr:(execOp a.eval (BM o)).run P w=.ok (.value undef) w:=by
       simp[execOp,BM,Act.eval]
      rw[hr]at h7;have h8:wpAny P .any (AC l).toArray (ER fun a w=>wpList P #[o] Q [o] a w) fuel (listed.setIfInBounds (l.length - 1) true) (a.put o.dst undef) w:=h7;rw[hg.2]at h8;have h9:a.put none undef=a:=rfl;rw[h9]at h8;cases fuel with
      |zero=>exact h8.2
      |succ f=>exact h8.1 (by rw[KE];exact hnil)
     ·exact False.elim h2
    unfold wpList at hend;rw[hw3,if_pos rfl]at hend;refine hend.imp (fun h=>Oper.wp_mono (fun a' w' h'=>?_) h) id;cases fuel with
    |zero=>exact⟨hnil,h'⟩
    |succ f=>exact⟨fun _=>h',by rw[hnil];simp⟩
   ·rw[List.getElem?_toArray,KW l i hlast,hoi]at h2
    rw[List.getElem?_toArray,hoi];simp only at h2 ⊢;rw[SN]at h2;have hs':(listed.setIfInBounds i true).size=l.length:=by simp[hs]
    have hcl':=hcl.step hi;have hl':(listed.setIfInBounds i true).getD (l.length - 1) true=false:=by rw[getD_set_ne true (by omega)];exact hl
    split at h2
    ·rename_i hw
     rw[if_pos hw];exact VD (fun a' w' h'=>ih _ a' w' hs' hcl' hl' h') h2
    ·rename_i hw
     rw[if_neg hw];exact ih _ _ _ hs' hcl' hl' h2
theorem GY {id:Nat}{a:Act} (S:World->Prop) (hm:P.follows .mixedOrders=true) (hB:N6 l=true) (hS:S w.drew)
  (h:S w.drew->wpAnyH P .any (AC l).toArray (ER fun a w=>wpList P #[AO l] Q [AO l] a w) S l.length (Array.replicate l.length false) a w.drew):(Code.region id l.toArray true).wp P Q a w:=by
 refine wp_region_any hm ?_;have ho:l.getLast?=some (AO l):=by
  refine LV l ?_;intro e;subst e;cases hB
 have hpos:0<l.length:=by cases l with |nil=>simp at ho |cons _ _=>simp
 rw[List.size_toArray];refine bW ho hB _ _ _ _ (by simp) ?_ ?_ (wpAny_of_held _ _ _ _ (h hS))
 ·intro k o' hk hl
  rw[Array.getD_eq_getD_getElem?]at hl
  rcases Nat.lt_or_ge k l.length with h' |h'
  ·simp[h']at hl
  ·simp[h']at hl
 rw[Array.getD_eq_getD_getElem?,Array.getElem?_eq_getElem y2Z];simp
end
end
section
theorem Tryz.infoE9:(Tryz.prog.info? 9).map (fun i=>(i.zero,i.size,i.bytes))=some (some (.string ByteArray.empty),1,16):=by kernel_rfl
def aeC (T:Tab) (e:EdP):List Value:=[ab e.loc,ab e.kind,.string (CX T.tws T.N.nT e.old),.string (CX T.tws T.N.nT e.new)]
def wdC (T:Tab) (l:List Nat):List Value:=l.map fun t=>Value.string (CX T.tws T.N.nT t)
def mdF (T:Tab) (vm ve vc vr vx:Value) (made told:List Nat) (E D:List EdP) (xs:List Value):Nat->qD:=fun j=>
 if j=3 then⟨3,1,vm,made.length,D9 made⟩else if j=5 then⟨42,4,ve,E.length,E.flatMap (aeC T)⟩else if j=6 then⟨3,1,vc,D.length,D9 (D.map (·.cost))⟩
 else if j=8 then⟨9,1,vr,told.length,wdC T told⟩else⟨30,1,vx,xs.length,xs⟩
def MdS (T:Tab) (w:World) (mb wk B:Nat) (rv:Value) (a c:Nat) (made:List Nat) (E:List EdP) (L:List Pt) (x:Nat) (X:List (List ByteArray)):Prop:=
 ∃vm ve vc vr vx ws xs,MdV T w mb wk B rv a c (mdF T vm ve vc vr vx made made E E xs) ws L x xs X
section
variable {T:Tab}
theorem uY {vm ve vc vr vx:Value}{made told:List Nat}{E D:List EdP}{xs:List Value}:∀j,Sl j->UV (mdF T vm ve vc vr vx made told E D xs j).e:=fun j hj=>by
 rcases hj with e |e |e |e |e <;> subst e <;> simp[mdF,UV]
theorem VB (hTk:T.Ok) {x:Nat} (ht:t<T.N.nT) (hL:AY T.N L) (hx:x<=939000000) (hs:BB T.rul L t=some L'):(CJ T.rul T.N.nT t L x).2.1=L'/\(CJ T.rul T.N.nT t L x).2.2<=x+2/\L'.length<=L.length+7/\AY T.N L':=by
 rcases aZ hTk ht hL hx with⟨h1,_⟩ | ⟨s,h1,_,h3,h4,h5,h6⟩
 ·rw[h1]at hs;cases hs
 ·rw[h1]at hs
  injection hs with hs
  subst hs;exact⟨h3,h4,h5,h6⟩
theorem N3 {H g n cap:Nat}{v:Value} (hat:v.ownBlock=some g\/g=H) (hH:w.heap.size<=H):BH w.heap.size v (ae g n cap):=fun q hq=>by
 obtain rfl:g=q:=by simpa[Value.ownBlock] using hq
 rcases hat with h |h
 ·exact .inl h
 ·exact .inr (by omega)
theorem lB (hTk:T.Ok) {mb wk B a c x:Nat}{rv:Value}{made:List Nat}{E:List EdP}{X:List (List ByteArray)} (hI:T.In w) (hBd:T.Bd B) (hB:B<=w.heap.size) (h:MdS T w mb wk B rv a c made E L x X) (ht:t<T.N.nT) (hs:BB T.rul L t=some L') (hx:x<=930000000) (hL:L.length<=80000) (hps:AY T.N L) (hm:made.length<=1000000):
  Calls Tryz.prog 54 #[ac mb,ab t] w fun e w'=>e=.returned (.tuple #[])/\∃x',x'<=x+2/\MdS T w' mb wk B rv a c (made++ [t]) E L' x' X/\AW B w w':=by
 obtain⟨iI,hiI,hzI0,hzI1,hzI2⟩:=info_parts Tryz.infoX3;obtain⟨iS,hiS,hzS0,hzS1,hzS2⟩:=info_parts Tryz.infoE9;obtain⟨vm,ve,vc,vr,vx,ws,xs,h⟩:=h;obtain⟨hf1,hf2,hf3,hf4⟩:=VB (x:=x) hTk ht hps (by omega) hs;have HTk:Hid T.Ok:=hid hTk;have hmbl:=h.mbl;have hbl:=h.blk;have c3:w.cell? (af mb 3)=some vm:=(A0 hbl).trans rfl;have z3:w.frozen? (af mb 3)=false:=A3 hbl;obtain⟨n,hn⟩:=qF (made.length);rw[<-hn]at hm;have HN:=hid hn;have HM:=hid h;have HI:Hid (T.In w):=hid hI;have HF:=hid (And.intro hf1 hf2);have HPs:Hid (AY T.N L):=hid hps;have hrow:w.ownsRow B 3 1 vm n (D9 made):=by rw[hn];exact h.rows 3 (.inl rfl)
 have HRow:=hid hrow;clear h hbl hn hf1 hf2 hf3 hf4 hI hs hTk hps
 go_enter Tryz.func54,Tryz.ntmps54
 have q3:(w.alloc (.cells #[ab t] 3)).cell? (af mb 3)=some vm:=A2 _ c3
 go_wp2_with (at_builtin;refine wpList_append_lies _ rfl _ _ 22 rfl B 3 iI (ab 0) 1 8 Tryz.underlying22 hiI hzI0 hzI1 hzI2 rfl (by decide) _ _ _ rfl (HRow.out.alloc _) (af w.heap.size 0) 1 1 [ab t] rfl rfl (World.news_of_block (heap_alloc_new w _)) ?c2 (lR_ 1) ?c3 ?c4 ?c5 _ rfl ?_)
 case c2=>intro u hu;simp at hu;subst hu;rfl
 case c3=>unfold maxLen;omega
 case c4=>omega
 case c5=>simp;omega
 intro g3 cap3 w3 hown3 hgrow3 hat3 hlt3;have happ:=HM.out.app (f':=mdF T (ae g3 (n+1) cap3) ve vc vr vx (made++ [t]) made E E xs) (j0:=3) (.inl rfl) ((A1.refl w []).alloc (.cells #[ab t] 3)) hgrow3
  (by show w3.ownsRow B 3 1 _ (made++ [t]).length (D9 (made++ [t]));rw[lA,GI,<-HN.out];exact hown3) rfl rfl (N3 hat3 (by simp)) (fun j hj hne=>by rcases hj with e |e |e |e |e <;> subst e <;> first |exact absurd rfl hne |rfl)
 obtain⟨y1,y2,y3⟩:=happ;have yc:w3.cell? (af mb 3)=some vm:=(A0 y1).trans rfl;have yf:w3.frozen? (af mb 3)=false:=A3 y1;have HY:=hid (And.intro y2 y3);clear y1 y2 y3 hown3 hgrow3 hat3 hlt3 q3 c3 z3 hrow
 go_wp2_with fail
 obtain⟨W4,hW4⟩:=qE (w3.setCell (af mb 3) (ae g3 (n+1) cap3));have HY4:Hid (MdV T W4 mb wk B rv a c (mdF T (ae g3 (n+1) cap3) ve vc vr vx (made++ [t]) made E E xs) ws L x xs X/\AW B w W4):=hid (by rw[<-hW4];exact HY.out);rw[hW4];clear hW4 HY yc yf;have hs4:=HY4.out.2.size;have hb4:Below B w W4:=HY4.out.2.below hB;have hI4:=HI.out.below hBd hb4;obtain⟨d0,d1,_⟩:=hI4.tv.heads;have e0:W4.cell? (af mb 0)=some (ac T.tb):=(A0 HY4.out.1.blk).trans rfl;have e8:W4.cell? (af mb 8)=some vr:=(A0 HY4.out.1.blk).trans rfl;have HWd:Hid (∀V,Below W4.heap.size W4 V->Calls Tryz.prog 43 #[.agg #[.slice T.adT T.N.nT T.capT,ae T.gN T.N.nN T.capN],ab t] V fun e w'=>e=.returned (.string (CX T.tws T.N.nT t))/\Below V.heap.size V w'):=hid fun V hbV=>by
  have hIV:=hI4.below hI4.bd hbV;exact PE V T.n0 T.N T.tws T.pg T.adT T.capT T.gN T.capN hIV.fc.gr hIV.fc.ln t (by omega)
 obtain⟨nT,hnT⟩:=qF (T.N.nT);obtain⟨nN,hnN⟩:=qF (T.N.nN);obtain⟨wd,hwd⟩:=qE (CX T.tws T.N.nT t);have HWdE:=hid hwd;rw[hwd,<-hnT,<-hnN]at HWd;rw[<-hnT]at d0;rw[<-hnN]at d1;have hrow8:W4.ownsRow B 9 1 vr n (wdC T made):=by rw[HN.out];exact HY4.out.1.rows 8 (.inr (.inr (.inr (.inl rfl))))
 have ogM:some mb≠vr.ownBlock:=fun e=>A6 hrow8 HY4.out.1.blk (by decide) e.symm
 have htbB:T.tb<B:=hBd.tb;have ogT:some T.tb≠vr.ownBlock:=fun e=>by have:=(hrow8.lt _ e.symm).1;omega
 have HRow8:=hid hrow8;have hmb4:mb<W4.heap.size:=HY4.out.1.mbl;clear hb4 hI4 hnT hnN hwd hrow8;refine GY (fun w'=>w'.cell? (af mb 0)=some (ac T.tb)/\w'.cell? (af mb 8)=some vr/\w'.cell? (af T.tb 0)=some (.slice T.adT nT T.capT)/\w'.cell? (af T.tb 1)=some (ae T.gN nN T.capN)) hmx y1Z ⟨e0,e8,d0,d1⟩ (fun hH=>?_);simp only[AC,BM,AO];refine tB 0 hH ?_;refine tB 1 hH ?_;refine tB 2 hH ?_;refine tB 3 hH ?_;refine tB 4 hH ?_;refine tB 5 hH ?_;refine tB 6 hH ?_;refine tB 7 hH ?_;refine tB 8 hH ?_;refine tB 9 hH ?_;refine tB 10 hH ?_;refine tB 11 hH ?_;refine tB 12 hH ?_;refine tB 13 hH ?_;refine tB 14 hH ?_;refine tL ?_;refine tS 15 fun K hK=>?_
 refine tM ?_
 go_simp;refine(HWd.out _ (Below.refl _ W4).drew).mono ?_;rintro e w5 ⟨rfl,hb5⟩;try dsimp only
 refine hK.out _ _ ?_ fun hH=>?_
 ·exact⟨A4 hb5 hH.1,A4 hb5 hH.2.1,A4 hb5 hH.2.2.1,A4 hb5 hH.2.2.2⟩
 clear hK K;refine tL ?_;have HB5:Hid (Below W4.heap.size W4 w5):=hid ((Below.refl _ W4).drew.trans hb5);refine tS 16 fun K hK=>?_
 refine tM ?_;go_simp;refine hK.out _ _ ?_ fun hH=>?_
 ·exact⟨A2 _ hH.1,A2 _ hH.2.1,A2 _ hH.2.2.1,A2 _ hH.2.2.2⟩
 clear hK K;refine tL ?_;have hs5:W4.heap.size<=w5.heap.size:=HB5.out.size;have HM5:Hid (MdV T w5 mb wk B rv a c (mdF T (ae g3 (n+1) cap3) ve vc vr vx (made++ [t]) made E E xs) ws L x xs X):=hid (HY4.out.1.below HB5.out);have HR5:Hid (w5.ownsRow B 9 1 vr n (wdC T made)):=hid (A8 HRow8.out (A1.of_below HB5.out []) (fun _ _=>by simp));refine tS 17 fun K hK=>?_
 refine tM ?_;rw[if_pos (by rfl)];refine wp_append_lies _ (.tmp 19) (.tmp 30) 30 rfl B 9 iS (.string ByteArray.empty) 1 16 Tryz.underlying30 hiS hzS0 hzS1 hzS2 rfl (by decide) vr _ _ rfl (HR5.out.alloc _) (af w5.heap.size 0) 1 1 [.string wd] rfl rfl (World.news_of_block (fr:=(0,0)) (heap_alloc_new w5 _)) y4Z (by omega) y3Z (by omega) y2Z _ rfl ?_;intro g8 cap8 w7 hown hgrow hat hlt2;refine hK.out _ _ ?_ fun hH=>?_
 ·exact⟨(hgrow.cell_far _ y2Z (by exact ogM)).trans hH.1,(hgrow.cell_far _ y2Z (by exact ogM)).trans hH.2.1,(hgrow.cell_far _ y2Z y35Z).trans hH.2.2.1,(hgrow.cell_far _ y2Z y35Z).trans hH.2.2.2⟩
 clear hK K;refine tL ?_;refine tB 18 hH ?_;refine tB 19 hH ?_;refine tB 20 hH ?_;refine tB 21 hH ?_;refine tL ?_;refine wpAnyH_done y1Z ?_ _;clear hH hb5 e0 e8 d0 d1;have happ:=HM5.out.app (f':=mdF T (ae g3 (n+1) cap3) ve vc (ae g8 (n+1) cap8) vx (made++ [t]) (made++ [t]) E E xs) (j0:=8) (.inr (.inr (.inr (.inl rfl)))) ((A1.refl w5 []).alloc (.cells #[.string wd] 9)) hgrow
  (by
   show w7.ownsRow B 9 1 _ (made++ [t]).length (wdC T (made++ [t]));have e:wdC T (made++ [t])=wdC T made++ [.string wd]:=by unfold wdC;rw[List.map_append,<-HWdE.out];rfl
   rw[lA,e,<-HN.out];exact hown) rfl rfl (N3 hat (by simp)) (fun j hj hne=>by rcases hj with e |e |e |e |e <;> subst e <;> first |exact absurd rfl hne |rfl)
 obtain⟨y1,y2,y3⟩:=happ;have yc:w7.cell? (af mb 8)=some vr:=(A0 y1).trans rfl;have yf:w7.frozen? (af mb 8)=false:=A3 y1;have HY1:=hid y1;have HY:=hid (And.intro y2 y3);clear y1 y2 y3 hown hgrow hat hlt2;show wpList _ _ _ _ _ _;have hI7:T.In (w7.setCell (af mb 8) (ae g8 (n+1) cap8)):=HI.out.below hBd ((HY4.out.2.trans ((AW.of_below HB5.out).trans HY.out.2)).below hB);have HTake:Hid (Calls Tryz.prog 32 #[ac wk,ab t] (w7.setCell (af mb 8) (ae g8 (n+1) cap8)) fun e w'=>∃v',e=.returned (.bool (CJ T.rul T.N.nT t L x).1)/\WkV w' wk T.tb B v' (CJ T.rul T.N.nT t L x).2.1 (CJ T.rul T.N.nT t L x).2.2/\A1 (w7.setCell (af mb 8) (ae g8 (n+1) cap8)) w' (wk::ws.ownBlock.toList)/\BH (w7.setCell (af mb 8) (ae g8 (n+1) cap8)).heap.size ws v'):=hid (aF HTk.out hI7 hBd HY.out.1.wkB HY.out.1.wkv (by omega) (by omega) HPs.out (by omega));have y4:w7.cell? (af mb 4)=some (ac wk):=by
  have h:=(A0 HY1.out (j:=4));exact h.trans rfl
 clear hI7;obtain⟨bt,hbt⟩:=qE ((CJ T.rul T.N.nT t L x).1);rw[hbt]at HTake;clear hbt
 go_wp2_with (go_at_call 32;refine HTake.out.mono ?_;rintro e w8 ⟨ws',rfl,h1,h2,h3⟩;have H8:=hid (And.intro h1 h2);clear h1 h2 h3)
 go_end0
 obtain⟨h1,h2⟩:=H8.out;rw[HF.out.1]at h1;obtain⟨m1,m2⟩:=HY.out.1.walk h2 h1;exact⟨rfl,_,HF.out.2,⟨_,_,_,_,_,_,_,m1⟩,HY4.out.2.trans ((AW.of_below HB5.out).trans (HY.out.2.trans m2))⟩
end
end
section
def MdT (T:Tab) (w:World) (mb wk B:Nat) (rv:Value) (a c:Nat) (made:List Nat) (E:List EdP) (L:List Pt) (X:List (List ByteArray)):Prop:=
 ∃x,MdS T w mb wk B rv a c made E L x X/\x<=2*made.length/\L.length<=7*made.length+1/\AY T.N L
section
variable {T:Tab}{w:World}{mb wk B a c:Nat}{rv:Value}{made:List Nat}{E:List EdP}{L L':List Pt}{X:List (List ByteArray)}
theorem WM (hTk:T.Ok)  (hI:T.In w) (hBd:T.Bd B) (hB:B<=w.heap.size) (h:MdT T w mb wk B rv a c made E L X) (ht:t<T.N.nT) (hs:BB T.rul L t=some L') (hm:made.length<=10000):
  Calls Tryz.prog 54 #[ac mb,ab t] w fun e w'=>e=.returned (.tuple #[])/\MdT T w' mb wk B rv a c (made++ [t]) E L' X/\AW B w w':=by
 obtain⟨x,h1,h2,h3,h4⟩:=h;obtain⟨_,_,f3,f4⟩:=VB (x:=x) hTk ht h4 (by omega) hs;refine(lB hTk hI hBd hB h1 ht hs (by omega) (by omega) h4 (by omega)).mono ?_;rintro e w' ⟨rfl,x',g1,g2,g3⟩;exact⟨rfl,⟨x',g2,by simp;omega,by simp;omega,f4⟩,g3⟩
theorem MdT.blk (h:MdT T w mb wk B rv a c made E L X):mb<w.heap.size/\B<=mb/\w.cell? (af mb 0)=some (ac T.tb)/\w.cell? (af mb 1)=some rv/\w.cell? (af mb 2)=some (ab a)/\w.frozen? (af mb 2)=false:=by
 obtain⟨x,⟨vm,ve,vc,vr,vx,ws,xs,h⟩,_⟩:=h;exact⟨h.mbl,h.mbB,(A0 h.blk).trans rfl,(A0 h.blk).trans rfl,(A0 h.blk).trans rfl,A3 h.blk⟩
theorem MdT.setAt (h:MdT T w mb wk B rv a c made E L X) (a':Nat):MdT T (w.setCell (af mb 2) (ab a')) mb wk B rv a' c made E L X/\AW B w (w.setCell (af mb 2) (ab a')):=by
 obtain⟨x,⟨vm,ve,vc,vr,vx,ws,xs,h⟩,h2⟩:=h;obtain⟨h3,h4⟩:=h.setAt a';exact⟨⟨x,⟨vm,ve,vc,vr,vx,ws,xs,h3⟩,h2⟩,h4⟩
theorem MdT.below {w':World} (h:MdT T w mb wk B rv a c made E L X) (hb:Below w.heap.size w w'):MdT T w' mb wk B rv a c made E L X:=by
 obtain⟨x,⟨vm,ve,vc,vr,vx,ws,xs,h⟩,h2⟩:=h;exact⟨x,⟨vm,ve,vc,vr,vx,ws,xs,h.below hb⟩,h2⟩
theorem o8 {rul:Nat->Nat->Option (List Pt)}{m a2:Nat} (hr:BF rul L ((row.drop m).take (a2 - m))=some L') (hm:m<a2) (ht:row[m]?=some t):∃L1,BB rul L t=some L1/\BF rul L1 ((row.drop (m+1)).take (a2 - (m+1)))=some L':=by
 obtain⟨hi,e⟩:=gS_.1 ht;rw[List.drop_eq_getElem_cons hi,show a2 - m=(a2 - (m+1))+1 by omega,List.take_succ_cons,e]at hr;have hr:(BB rul L t).bind (fun s=>BF rul s ((row.drop (m+1)).take (a2 - (m+1))))=some L':=hr;cases h:BB rul L t with
 |none=>rw[h]at hr;cases hr
 |some L1=>rw[h]at hr;exact⟨L1,rfl,hr⟩
theorem o3 {a m:Nat} (ha:a<=m) (ht:row[m]?=some t):(row.drop a).take (m+1 - a)=(row.drop a).take (m - a)++ [t]:=by
 rw[show m+1 - a=(m - a)+1 by omega,List.take_add_one,List.getElem?_drop,show a+(m - a)=m by omega,ht];rfl
theorem UM (hTk:T.Ok) {a2:Nat} (hI:T.In w) (hBd:T.Bd B) (hB:B<=w.heap.size) (h:MdT T w mb wk B rv a c made E L X) (hrw:RwV w B rv row) (hrl:∀t∈row,t<T.N.nT) (ha:a<=a2) (ha2:a2<=row.length) (h100:row.length<=100) (hrun:BF T.rul L ((row.drop a).take (a2 - a))=some L') (hm:made.length+(a2 - a)<=10000):
  Calls Tryz.prog 29 #[ac mb,ab a2] w fun e w'=>e=.returned (.tuple #[])/\MdT T w' mb wk B rv a2 c (made++(row.drop a).take (a2 - a)) E L' X/\AW B w w':=by
 have HI:Hid (∀V,AW B w V->T.In V):=hid fun V hk=>hI.below hBd (hk.below hB)
 have HTk:Hid (T.Ok/\T.Bd B):=hid ⟨hTk,hBd⟩;have HRw:Hid (∀V,AW B w V->RwV V B rv row):=hid fun V hk=>hrw.below (hk.below hB)
 have HRl:Hid (∀t∈row,t<T.N.nT):=hid hrl;have HM:=hid h;have HR:=hid hrun;clear hI hTk hBd hrw hrl h hrun
 go_enter Tryz.func29,Tryz.ntmps29
 go_wp2
 go_loopg [4] (a2 - a) (fun g z wr=>∃(m:Nat) (L1:List Pt),a<=m/\m<=a2/\g=a2 - m/\Hid (MdT T wr mb wk B rv m c (made++(row.drop a).take (m - a)) E L1 X)/\Hid (BF T.rul L1 ((row.drop m).take (a2 - m))=some L')/\Hid (AW B w wr))
 case atStart=>exact⟨a,L,lR_ _,ha,rfl,hid (by rw[Nat.sub_self,List.take_zero,List.append_nil];exact HM.out),HR,hid (AW.refl _ _)⟩
 case round=>
  obtain⟨m,L1,ham,hma,rfl,hmd,hrn,hkm⟩:=hrel;obtain⟨b1,b2,_,b4,b5,b6⟩:=hmd.out.blk
  by_cases hlt:m<a2
  ·have hmi:((m:Int)< (a2:Int)):=by omega
   obtain⟨t,ht⟩:∃t,row[m]?=some t:=⟨_,gE (by omega)⟩;have htT:=HRl.out t (mG ht);obtain⟨L2,hs1,hs2⟩:=o8 hrn.out hlt ht;obtain⟨aR,cR,hrv,hcR,hrc⟩:=HRw.out wr hkm.out;obtain⟨gR,off,rfl,hgR,hxc⟩:=hrc (by omega);have cx:=hxc m t ht;have hBr:B<=wr.heap.size:=by have:=hkm.out.size;omega
   have HTa:Hid (∀V,Below wr.heap.size wr V->Calls Tryz.prog 54 #[ac mb,ab t] V fun e w'=>e=.returned (.tuple #[])/\MdT T w' mb wk B rv m c (made++(row.drop a).take (m+1 - a)) E L2 X/\AW B V w'):=hid fun V hbV=>by
    have h:=WM HTk.out.1 (HI.out V (hkm.out.trans (AW.of_below hbV))) HTk.out.2 (by have:=hbV.size;omega) (hmd.out.below hbV) htT hs1 y2Z;rw[o3 ham ht,<-aA];exact h
   have HRn:=hid hs2;obtain⟨nR,hnR⟩:=qF (row.length);rw[<-hnR]at hrv hcR ha2 h100;have hml:((m:Int)< (nR:Int)):=by omega
   have HRv:=hid hrv;rw[hrv]at b4;clear hs1 hs2 hrc hxc ht htT hmd hrn hrv hnR
   go_upto_region 2 with fail
   refine wp_region_held_drew (S:=fun w'=>w'.cell? (af mb 1)=some (.slice (some (af gR off)) nR cR)/\w'.cell? (af mb 2)=some (ab m)/\w'.cell? (af gR (off+m))=some (ab t)) y1Z ⟨b4,b5,cx⟩ (fun hH=>?_);refine tB 0 hH ?_;refine tB 1 hH ?_;refine tB 2 hH ?_;refine tB 3 hH ?_;refine tB 4 hH ?_;refine tB 5 hH ?_;refine tB 6 hH ?_;refine tB 7 hH ?_;refine tB 8 hH ?_;refine tB 9 hH ?_;refine tB 10 hH ?_;refine tL ?_;refine tS 11 fun K hK=>?_
   refine tM ?_
   go_simp;refine(HTa.out _ (Below.refl _ wr).drew).mono ?_;rintro e w4 ⟨rfl,hm4,hk4⟩;try dsimp only
   refine hK.out _ _ ?_ fun hH=>?_
   ·exact⟨by rw[<-HRv.out];exact hm4.blk.2.2.2.1,hm4.blk.2.2.2.2.1,(World.cell?_of_block (hk4.block gR (by show gR<wr.heap.size;omega) (.inl hgR))).trans hH.2.2⟩
   clear hK K;refine tL ?_;refine wpAnyH_done y1Z ?_ _;have HM4:=hid hm4;have HK4:Hid (AW B w w4):=hid (hkm.out.trans ((AW.of_below (Below.refl _ wr).drew).trans hk4));obtain⟨q1,q2,q3,q4,q5,q6⟩:=hm4.blk;have hmw:IntKind.i64.wrap ((m:Int)+1)=(m:Int)+1:=by rw[w64];omega
   clear hH hm4 hk4 b4 b5 b6 cx q3 q4;go_wp2;obtain⟨m1,m2⟩:=HM4.out.setAt (m+1)
   go_roundg (a2 - (m+1))
   case measure=>omega
   case rel=>exact⟨m+1,L2,by omega,by omega,rfl,hid m1,HRn,hid (HK4.out.trans m2)⟩
  ·have hme:m=a2:=by omega
   subst hme;have hmi:¬((m:Int)< (m:Int)):=by omega
   have HRn:Hid (L1=L'):=hid (by
    have h:=hrn.out;rw[Nat.sub_self,List.take_zero]at h;have h:some L1=some L':=h;injection h)
   clear hrn;go_wp2
   go_end0
   exact⟨rfl,by rw[<-HRn.out];exact hmd.out,hkm.out⟩
end
end
end Go.Proofs.YtjjggdcnpndgjabGreatDoor
