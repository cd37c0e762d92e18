import Derived.Test.YtjjggdcnpndgjaaGreatDoorCJ37
set_option linter.unusedSimpArgs false
set_option maxHeartbeats 8000000
set_option maxRecDepth 100000
namespace Go.Proofs.YtjjggdcnpndgjaaGreatDoor
open Go.RowKit Go.Shelf
variable {L L':List Pt}{l:List Oper}{row:List Nat}{t:Nat}{w:World}
section
def WI (l:List Oper):Nat->Nat->Nat->Bool
 |0,_,_=>false
 |d+1,k,j=>((l[k]?).map λx=>x.after.toList.any λe=>Region.binds .any e&&(e.on==j||WI l d e.on j)).getD false
def NC (l:List Oper):Bool:=
 match l.getLast? with
 |none=>false
 |some o=>o.guard.isNone&&(o.dst.isNone&&((List.range (l.length - 1)).all (λj=>WI l 5 (l.length - 1) j)&&
   (List.range l.length).all λi=>((l[i]?).map λx=>x.after.toList.all λe=>decide (e.on<i)).getD true))
section
variable {P:Program}{Q:Exit->Act->World->Prop}{S:World->Prop}
theorem VK  (hB:NC l=true) {listed:Array Bool} (hs:listed.size=l.length) (h:Region.ready .any l.toArray listed=[]):∀i,i<l.length->listed.getD i true=true:=by
 intro i
 induction i using Nat.strongRecOn with
 |_ i ih=>
  intro hi;cases hv:listed.getD i true with
  |true=>rfl
  |false=>
   have hmem:i∈Region.ready .any l.toArray listed:=by
    rw[yh];refine⟨hv,l[i],by simp[hi],λe he hb=>?_⟩;unfold NC at hB;split at hB
    ·cases hB
    ·simp only[gz,oh,jc]at hB
     have h1:=hB.2.2.2 i hi;rw[gE hi]at h1;simp only[kq,jq,oh,ir]at h1;have h2:=h1 e abi;have h3:=ih e.on h2 (by omega);rw[mg]at h3 ⊢;rw[jw (by omega)]at h3 ⊢;simpa using h3
   rw[h]at hmem;cases hmem
theorem RY {l:List Oper}{listed:Array Bool} (hc:ME l listed):∀(d k j:Nat),listed.getD k false=true->WI l d k j=true->listed.getD j false=true
 |0,_,_,_,h=>by cases h
 |d+1,k,j,hk,h=>by
  unfold WI at h;cases hx:l[k]? with
  |none=>rw[hx]at h;cases h
  |some x=>
   rw[hx]at h;simp only[kq,jq,qb,gz,oq,kr]at h;obtain⟨e,he,hb,h2⟩:=h;have h3:=hc k x hx hk e abi hb
   rcases h2 with h2 |h2
   ·rw[<-h2];exact h3
   ·exact RY hc d e.on j h3 h2
theorem eO  (hB:NC l=true) {listed:Array Bool} (hc:ME l listed) (h:l.length - 1∈Region.ready .any l.toArray listed):∀j,j+1<l.length->listed.getD j false=true:=by
 intro j hj;obtain⟨_,o,ho,hall⟩:=yh.1 h;unfold NC at hB;split at hB
 ·cases hB
 ·rename_i o' hl
  have h2:=(II l o' hl).2;rw[ia,h2]at ho;injection ho with ho
  subst ho;simp only[gz,oh,jc]at hB;have h3:=hB.2.2.1 j (by omega);unfold WI at h3;rw[h2]at h3;simp only[kq,jq,qb,gz,oq,kr]at h3;obtain⟨e,he,hb,h5⟩:=h3;have h4:=hall e abi hb
  rcases h5 with h5 |h5
  ·rw[<-h5];exact h4
  ·exact RY hc 4 e.on j h4 h5
theorem dA {o:Oper} (ho:l.getLast?=some o) (hB:NC l=true):∀(fuel:Nat) (listed:Array Bool) (a:Act) (w:World),listed.size=l.length->ME l listed->listed.getD (l.length - 1) true=false->
  wpAny P .any (AG l).toArray (FA λa w=>wpList P #[o] Q [o] a w) fuel listed a w->wpAny P .any l.toArray Q fuel listed a w:=by
 have hpos:0<l.length:=by cases l with |nil=>simp at ho |cons _ _=>simp
 intro fuel
 induction fuel with
 |zero=>
  intro listed a w hs hcl hl h;have h1:=h.1;rw[KS]at h1;have:=VK hB hs h1 (l.length - 1) (by omega);rw[hl]at this;cases this
 |succ fuel ih=>
  intro listed a w hs hcl hl h;refine⟨λh1=>?_,λi hi=>?_⟩
  ·have:=VK hB hs h1 (l.length - 1) (by omega)
   rw[hl]at this;cases this
  ·have h2:=h.2 i (by rw[KS];exact hi)
   unfold wpOp at h2 ⊢;have hio:∃oi,l[i]?=some oi:=by
    obtain⟨_,oi,h3,_⟩:=yh.1 hi;exact⟨oi,by simpa using h3⟩
   obtain⟨oi,hoi⟩:=hio
   by_cases Tw:i+1=l.length
   ·have e:i=l.length - 1:=by omega
    subst e;have hc:=II l o ho;rw[ia,hc.1]at h2;rw[ia,hc.2];have hg:o.guard=none/\o.dst=none:=by
     unfold NC at hB;rw[ho]at hB;simp only[gz,Option.isNone_iff_eq_none]at hB;exact⟨hB.1,hB.2.1⟩
    have hw1:Region.wanted (BP o) (yielded (AG l).toArray a.tmps)=true:=by
     unfold Region.wanted BP;rw[hg.1]
    have hw2:Region.wanted o (yielded l.toArray a.tmps)=true:=by
     unfold Region.wanted;rw[hg.1]
    have hw3:Region.wanted o (yielded #[o] a.tmps)=true:=by
     unfold Region.wanted;rw[hg.1]
    simp only[hw1,hw2,xZ]at h2 ⊢;have hnil:Region.ready .any l.toArray (listed.setIfInBounds (l.length - 1) true)=[]:=by
     rw[List.eq_nil_iff_forall_not_mem];intro j hj;obtain⟨h4,oj,h5,_⟩:=yh.1 hj;have hjl:j<l.length:=by
      rw[ia]at h5;exact(zM.1 h5).1
     by_cases abm:j=l.length - 1
     ·subst abm
      simp[hs]at h4
     ·rw[zl true (yB abm)]at h4
      have h6:=eO hB hcl hi j (by omega);rw[mg,jw (by omega)]at h4 h6;simp at h4 h6;rw[h4]at h6;cases h6
    have hend:wpList P #[o] Q [o] a w:=by
     rcases h2 with h2 | ⟨_,a',w',h2⟩
     ·have h7:(BP o).wp P a w (wpAny P .any (AG l).toArray (FA λa w=>wpList P #[o] Q [o] a w) fuel (listed.setIfInBounds (l.length - 1) true)) (FA λa w=>wpList P #[o] Q [o] a w):=h2
      unfold Oper.wp at h7;have hr:(execOp a.eval (BP o)).run P w=.ok (.value undef) w:=by
       simp[execOp,BP,Act.eval]
      rw[hr]at h7;have h8:wpAny P .any (AG l).toArray (FA λa w=>wpList P #[o] Q [o] a w) fuel (listed.setIfInBounds (l.length - 1) true) (a.put o.dst undef) w:=h7;rw[hg.2]at h8;have h9:a.put none undef=a:=rfl;rw[h9]at h8;cases fuel with
      |zero=>exact h8.2
      |succ f=>exact h8.1 (by rw[KS];exact hnil)
     ·exact False.elim h2
    unfold wpList at hend;rw[hw3,ay rfl]at hend;refine hend.imp (λh=>Oper.wp_mono (λa' w' h'=>?_) h) id;cases fuel with
    |zero=>exact⟨hnil,h'⟩
    |succ f=>exact⟨λ_=>h',by rw[hnil];simp⟩
   ·rw[ia,LA l i Tw,hoi]at h2
    rw[ia,hoi];simp only at h2 ⊢;rw[TM]at h2;have hs':(listed.setIfInBounds i true).size=l.length:=by simp[hs]
    have abn:=hcl.step hi;have hl':(listed.setIfInBounds i true).getD (l.length - 1) true=false:=by rw[zl true (by omega)];exact hl
    split at h2
    ·rename_i hw
     rw[ay hw];exact UQ (λa' w' h'=>ih _ a' w' hs' abn hl' h') h2
    ·rename_i hw
     rw[aq hw];exact ih _ _ _ hs' abn hl' h2
theorem IB {id:Nat}{a:Act} (S:World->Prop) (hm:P.follows .mixedOrders=true) (hB:NC l=true) (hS:S w.drew)
  (h:S w.drew->wpAnyH P .any (AG l).toArray (FA λa w=>wpList P #[AR l] Q [AR l] a w) S l.length (Array.replicate l.length false) a w.drew):(Code.region id l.toArray true).wp P Q a w:=by
 refine wp_region_any hm ?_;have ho:l.getLast?=some (AR l):=by
  refine M1 l ?_;intro e;subst e;cases hB
 have hpos:0<l.length:=by cases l with |nil=>simp at ho |cons _ _=>simp
 rw[jf];refine dA ho hB _ _ _ _ (by simp) ?_ ?_ (wpAny_of_held _ _ _ _ (h hS))
 ·intro k o' hk hl
  rw[mg]at hl
  rcases jz k l.length with h' |h'
  ·simp[h']at hl
  ·simp[h']at hl
 rw[mg,jw zG];simp
end
end
section
theorem Tryz.infoE9:(Tryz.prog.info? 9).map (λi=>(i.zero,i.size,i.bytes))=some (some (.string ByteArray.empty),1,16):=by kernel_rfl
def Mt (T:Am) (e:Ab):List Value:=[ab e.loc,ab e.kind,.string (D6 T.zy T.N.nT e.old),.string (D6 T.zy T.N.nT e.new)]
def Th (T:Am) (l:List Nat):List Value:=l.map λt=>Value.string (D6 T.zy T.N.nT t)
def Lo (T:Am) (vm ve vc vr vx:Value) (made told:List Nat) (E D:List Ab) (xs:List Value):Nat->qD:=λj=>
 if j=3 then⟨3,1,vm,made.length,DJ made⟩else if j=5 then⟨121,4,ve,E.length,E.flatMap (Mt T)⟩else if j=6 then⟨3,1,vc,D.length,DJ (D.map (·.cost))⟩
 else if j=8 then⟨9,1,vr,told.length,Th T told⟩else⟨39,1,vx,xs.length,xs⟩
def MdS (T:Am) (w:World) (mb wk B:Nat) (rv:Value) (a c:Nat) (made:List Nat) (E:List Ab) (L:List Pt) (x:Nat) (X:List (List ByteArray)):Prop:=
 ∃vm ve vc vr vx ws xs,Cr T w mb wk B rv a c (Lo T vm ve vc vr vx made made E E xs) ws L x xs X
section
variable {T:Am}
theorem wO {vm ve vc vr vx:Value}{made told:List Nat}{E D:List Ab}{xs:List Value}:∀j,Sl j->WH (Lo T vm ve vc vr vx made told E D xs j).e:=λj hj=>by
 rcases hj with e |e |e |e |e <;> subst e <;> simp[Lo,WH]
theorem VP (Fb:T.Ok) {x:Nat} (ht:t<T.N.nT) (hL:BE T.N L) (hx:x<=939000000) (hs:DH T.zH L t=some L'):(D2 T.zH T.N.nT t L x).2.1=L'/\(D2 T.zH T.N.nT t L x).2.2<=x+2/\L'.length<=L.length+7/\BE T.N L':=by
 rcases dX Fb ht hL hx with⟨h1,_⟩ | ⟨s,h1,_,h3,h4,h5,h6⟩
 ·rw[h1]at hs;cases hs
 ·rw[h1]at hs
  injection hs with hs
  subst hs;exact⟨h3,h4,h5,h6⟩
theorem N7 {H g n cap:Nat}{v:Value} (hat:v.ownBlock=some g\/g=H) (hH:w.heap.size<=H):BN w.heap.size v (ae g n cap):=λq hq=>by
 obtain rfl:g=q:=by simpa[Value.ownBlock] using hq
 rcases hat with h |h
 ·exact .inl h
 ·exact .inr (by omega)
theorem oL (Fb:T.Ok) {mb wk B a c x:Nat}{rv:Value}{made:List Nat}{E:List Ab}{X:List (List ByteArray)} (hI:T.In w) (Bo:T.Bd B) (hB:B<=w.heap.size) (h:MdS T w mb wk B rv a c made E L x X) (ht:t<T.N.nT) (hs:DH T.zH L t=some L') (hx:x<=930000000) (hL:L.length<=80000) (hps:BE T.N L) (hm:made.length<=1000000):
  Calls Tryz.prog 149 #[ac mb,ab t] w λe w'=>e=.returned (.tuple #[])/\∃x',x'<=x+2/\MdS T w' mb wk B rv a c (made++ [t]) E L' x' X/\B3 B w w':=by
 obtain⟨iI,Ii,Ij,Ik,Il⟩:=iy Tryz.infoX3;obtain⟨iS,Gu,Gv,Gw,Gx⟩:=iy Tryz.infoE9;obtain⟨vm,ve,vc,vr,vx,ws,xs,h⟩:=h;obtain⟨hf1,hf2,hf3,hf4⟩:=VP (x:=x) Fb ht hps (by omega) hs;have Dy:Hid T.Ok:=hid Fb;have amz:=h.Vl;have hbl:=h.blk;have c3:w.cell? (af mb 3)=some vm:=(A0 hbl).trans rfl;have z3:w.frozen? (af mb 3)=false:=A7 hbl;obtain⟨n,hn⟩:=qF (made.length);rw[<-hn]at hm;have HN:=hid hn;have HM:=hid h;have HI:Hid (T.In w):=hid hI;have HF:=hid (And.intro hf1 hf2);have HPs:Hid (BE T.N L):=hid hps;have hrow:w.ownsRow B 3 1 vm n (DJ made):=by rw[hn];exact h.rows 3 (.inl rfl)
 have Dl:=hid hrow;clear h hbl hn hf1 hf2 hf3 hf4 hI hs Fb hps
 go_enter Tryz.func149,Tryz.ntmps149
 have q3:(w.alloc (.cells #[ab t] 3)).cell? (af mb 3)=some vm:=A6 _ c3
 go_wp2_with (at_builtin;refine jt _ rfl _ _ 45 rfl B 3 iI (ab 0) 1 8 Tryz.underlying45 Ii Ij Ik Il rfl (by decide) _ _ _ rfl (Dl.out.alloc _) (af w.heap.size 0) 1 1 [ab t] rfl rfl (dn (dz w _)) ?c2 (zn 1) ?c3 ?c4 ?c5 _ rfl ?_)
 case c2=>intro u hu;simp at hu;subst hu;rfl
 case c3=>unfold maxLen;omega
 case c4=>omega
 case c5=>simp;omega
 intro g3 Cf w3 Ad Ae Hy Fi;have happ:=HM.out.app (f':=Lo T (ae g3 (n+1) Cf) ve vc vr vx (made++ [t]) made E E xs) (j0:=3) (.inl rfl) ((A5.refl w []).alloc (.cells #[ab t] 3)) Ae
  (by show w3.ownsRow B 3 1 _ (made++ [t]).length (DJ (made++ [t]));rw[lA,GW,<-HN.out];exact Ad) rfl rfl (N7 Hy (by simp)) (λj hj hne=>by rcases hj with e |e |e |e |e <;> subst e <;> first |exact absurd rfl hne |rfl)
 obtain⟨y1,y2,y3⟩:=happ;have yc:w3.cell? (af mb 3)=some vm:=(A0 y1).trans rfl;have yf:w3.frozen? (af mb 3)=false:=A7 y1;have HY:=hid (And.intro y2 y3);clear y1 y2 y3 Ad Ae Hy Fi q3 c3 z3 hrow
 go_wp2_with fail
 obtain⟨W4,Be⟩:=qE (w3.setCell (af mb 3) (ae g3 (n+1) Cf));have Ti:Hid (Cr T W4 mb wk B rv a c (Lo T (ae g3 (n+1) Cf) ve vc vr vx (made++ [t]) made E E xs) ws L x xs X/\B3 B w W4):=hid (by rw[<-Be];exact HY.out);rw[Be];clear Be HY yc yf;have Fx:=Ti.out.2.size;have hb4:Below B w W4:=Ti.out.2.below hB;have hI4:=HI.out.below Bo hb4;obtain⟨d0,d1,_⟩:=hI4.tv.Cq;have e0:W4.cell? (af mb 0)=some (ac T.tb):=(A0 Ti.out.1.blk).trans rfl;have e8:W4.cell? (af mb 8)=some vr:=(A0 Ti.out.1.blk).trans rfl;have Le:Hid (∀V,Below W4.heap.size W4 V->Calls Tryz.prog 129 #[.agg #[.slice T.yZ T.N.nT T.yT,ae T.gN T.N.nN T.yQ],ab t] V λe w'=>e=.returned (.string (D6 T.zy T.N.nT t))/\Below V.heap.size V w'):=hid λV Bf=>by
  have Yc:=hI4.below hI4.bd Bf;exact Q5 V T.n0 T.N T.zy T.pg T.yZ T.yT T.gN T.yQ Yc.fc.gr Yc.fc.ln t (by omega)
 obtain⟨nT,Ac⟩:=qF (T.N.nT);obtain⟨nN,zT⟩:=qF (T.N.nN);obtain⟨wd,hwd⟩:=qE (D6 T.zy T.N.nT t);have akC:=hid hwd;rw[hwd,<-Ac,<-zT]at Le;rw[<-Ac]at d0;rw[<-zT]at d1;have Xi:W4.ownsRow B 9 1 vr n (Th T made):=by rw[HN.out];exact Ti.out.1.rows 8 (.inr (.inr (.inr (.inl rfl))))
 have ogM:some mb≠vr.ownBlock:=λe=>A9 Xi Ti.out.1.blk (by decide) e.symm
 have akD:T.tb<B:=Bo.tb;have Tp:some T.tb≠vr.ownBlock:=λe=>by have:=(Xi.lt _ e.symm).1;omega
 have ab7:=hid Xi;have amA:mb<W4.heap.size:=Ti.out.1.Vl;clear hb4 hI4 Ac zT hwd Xi;refine IB (λw'=>w'.cell? (af mb 0)=some (ac T.tb)/\w'.cell? (af mb 8)=some vr/\w'.cell? (af T.tb 0)=some (.slice T.yZ nT T.yT)/\w'.cell? (af T.tb 1)=some (ae T.gN nN T.yQ)) hmx yM ⟨e0,e8,d0,d1⟩ (λhH=>?_);simp only[AG,BP,AR];refine tB 0 hH ?_;refine tB 1 hH ?_;refine tB 2 hH ?_;refine tB 3 hH ?_;refine tB 4 hH ?_;refine tB 5 hH ?_;refine tB 6 hH ?_;refine tB 7 hH ?_;refine tB 8 hH ?_;refine tB 9 hH ?_;refine tB 10 hH ?_;refine tB 11 hH ?_;refine tB 12 hH ?_;refine tB 13 hH ?_;refine tB 14 hH ?_;refine tL ?_;refine tS 15 λK hK=>?_
 refine tM ?_
 go_simp;refine(Le.out _ (ah _ W4).drew).mono ?_;rintro e w5 ⟨rfl,zP⟩;try dsimp only
 refine hK.out _ _ ?_ λhH=>?_
 ·exact⟨A8 zP hH.1,A8 zP hH.2.1,A8 zP hH.2.2.1,A8 zP hH.2.2.2⟩
 clear hK K;refine tL ?_;have Av:Hid (Below W4.heap.size W4 w5):=hid ((ah _ W4).drew.trans zP);refine tS 16 λK hK=>?_
 refine tM ?_;go_simp;refine hK.out _ _ ?_ λhH=>?_
 ·exact⟨A6 _ hH.1,A6 _ hH.2.1,A6 _ hH.2.2.1,A6 _ hH.2.2.2⟩
 clear hK K;refine tL ?_;have hs5:W4.heap.size<=w5.heap.size:=Av.out.size;have HM5:Hid (Cr T w5 mb wk B rv a c (Lo T (ae g3 (n+1) Cf) ve vc vr vx (made++ [t]) made E E xs) ws L x xs X):=hid (Ti.out.1.below Av.out);have HR5:Hid (w5.ownsRow B 9 1 vr n (Th T made)):=hid (AC ab7.out (A5.zQ Av.out []) (λ_ _=>by simp));refine tS 17 λK hK=>?_
 refine tM ?_;rw[ay (by rfl)];refine mq _ (.tmp 19) (.tmp 30) 39 rfl B 9 iS (.string ByteArray.empty) 1 16 Tryz.underlying39 Gu Gv Gw Gx rfl (by decide) vr _ _ rfl (HR5.out.alloc _) (af w5.heap.size 0) 1 1 [.string wd] rfl rfl (dn (fr:=(0,0)) (dz w5 _)) Gl (by omega) Bg (by omega) zG _ rfl ?_;intro g8 Lp w7 hown hgrow hat Cu;refine hK.out _ _ ?_ λhH=>?_
 ·exact⟨(hgrow.cell_far _ zG (by exact ogM)).trans hH.1,(hgrow.cell_far _ zG (by exact ogM)).trans hH.2.1,(hgrow.cell_far _ zG Oz).trans hH.2.2.1,(hgrow.cell_far _ zG Oz).trans hH.2.2.2⟩
 clear hK K;refine tL ?_;refine tB 18 hH ?_;refine tB 19 hH ?_;refine tB 20 hH ?_;refine tB 21 hH ?_;refine tL ?_;refine bq yM ?_ _;clear hH zP e0 e8 d0 d1;have happ:=HM5.out.app (f':=Lo T (ae g3 (n+1) Cf) ve vc (ae g8 (n+1) Lp) vx (made++ [t]) (made++ [t]) E E xs) (j0:=8) (.inr (.inr (.inr (.inl rfl)))) ((A5.refl w5 []).alloc (.cells #[.string wd] 9)) hgrow
  (by
   show w7.ownsRow B 9 1 _ (made++ [t]).length (Th T (made++ [t]));have e:Th T (made++ [t])=Th T made++ [.string wd]:=by unfold Th;rw[fq,<-akC.out];rfl
   rw[lA,e,<-HN.out];exact hown) rfl rfl (N7 hat (by simp)) (λj hj hne=>by rcases hj with e |e |e |e |e <;> subst e <;> first |exact absurd rfl hne |rfl)
 obtain⟨y1,y2,y3⟩:=happ;have yc:w7.cell? (af mb 8)=some vr:=(A0 y1).trans rfl;have yf:w7.frozen? (af mb 8)=false:=A7 y1;have Xj:=hid y1;have HY:=hid (And.intro y2 y3);clear y1 y2 y3 hown hgrow hat Cu;show wpList _ _ _ _ _ _;have hI7:T.In (w7.setCell (af mb 8) (ae g8 (n+1) Lp)):=HI.out.below Bo ((Ti.out.2.trans ((B3.zQ Av.out).trans HY.out.2)).below hB);have ahA:Hid (Calls Tryz.prog 116 #[ac wk,ab t] (w7.setCell (af mb 8) (ae g8 (n+1) Lp)) λe w'=>∃v',e=.returned (.bool (D2 T.zH T.N.nT t L x).1)/\Ce w' wk T.tb B v' (D2 T.zH T.N.nT t L x).2.1 (D2 T.zH T.N.nT t L x).2.2/\A5 (w7.setCell (af mb 8) (ae g8 (n+1) Lp)) w' (wk::ws.ownBlock.toList)/\BN (w7.setCell (af mb 8) (ae g8 (n+1) Lp)).heap.size ws v'):=hid (bM Dy.out hI7 Bo HY.out.1.Qq HY.out.1.Jr (by omega) (by omega) HPs.out (by omega));have y4:w7.cell? (af mb 4)=some (ac wk):=by
  have h:=(A0 Xj.out (j:=4));exact h.trans rfl
 clear hI7;obtain⟨bt,hbt⟩:=qE ((D2 T.zH T.N.nT t L x).1);rw[hbt]at ahA;clear hbt
 go_wp2_with (go_at_call 116;refine ahA.out.mono ?_;rintro e w8 ⟨ws',rfl,h1,h2,h3⟩;have H8:=hid (And.intro h1 h2);clear h1 h2 h3)
 go_end0
 obtain⟨h1,h2⟩:=H8.out;rw[HF.out.1]at h1;obtain⟨m1,m2⟩:=HY.out.1.walk h2 h1;exact⟨rfl,_,HF.out.2,⟨_,_,_,_,_,_,_,m1⟩,Ti.out.2.trans ((B3.zQ Av.out).trans (HY.out.2.trans m2))⟩
end
end
section
def Ev (T:Am) (w:World) (mb wk B:Nat) (rv:Value) (a c:Nat) (made:List Nat) (E:List Ab) (L:List Pt) (X:List (List ByteArray)):Prop:=
 ∃x,MdS T w mb wk B rv a c made E L x X/\x<=2*made.length/\L.length<=7*made.length+1/\BE T.N L
section
variable {T:Am}{w:World}{mb wk B a c:Nat}{rv:Value}{made:List Nat}{E:List Ab}{L L':List Pt}{X:List (List ByteArray)}
theorem WY (Fb:T.Ok)  (hI:T.In w) (Bo:T.Bd B) (hB:B<=w.heap.size) (h:Ev T w mb wk B rv a c made E L X) (ht:t<T.N.nT) (hs:DH T.zH L t=some L') (hm:made.length<=10000):
  Calls Tryz.prog 149 #[ac mb,ab t] w λe w'=>e=.returned (.tuple #[])/\Ev T w' mb wk B rv a c (made++ [t]) E L' X/\B3 B w w':=by
 obtain⟨x,h1,h2,h3,h4⟩:=h;obtain⟨_,_,f3,f4⟩:=VP (x:=x) Fb ht h4 (by omega) hs;refine(oL Fb hI Bo hB h1 ht hs (by omega) (by omega) h4 (by omega)).mono ?_;rintro e w' ⟨rfl,x',g1,g2,g3⟩;exact⟨rfl,⟨x',g2,by simp;omega,by simp;omega,f4⟩,g3⟩
theorem Ev.blk (h:Ev T w mb wk B rv a c made E L X):mb<w.heap.size/\B<=mb/\w.cell? (af mb 0)=some (ac T.tb)/\w.cell? (af mb 1)=some rv/\w.cell? (af mb 2)=some (ab a)/\w.frozen? (af mb 2)=false:=by
 obtain⟨x,⟨vm,ve,vc,vr,vx,ws,xs,h⟩,_⟩:=h;exact⟨h.Vl,h.Qp,(A0 h.blk).trans rfl,(A0 h.blk).trans rfl,(A0 h.blk).trans rfl,A7 h.blk⟩
theorem Ev.setAt (h:Ev T w mb wk B rv a c made E L X) (a':Nat):Ev T (w.setCell (af mb 2) (ab a')) mb wk B rv a' c made E L X/\B3 B w (w.setCell (af mb 2) (ab a')):=by
 obtain⟨x,⟨vm,ve,vc,vr,vx,ws,xs,h⟩,h2⟩:=h;obtain⟨h3,h4⟩:=h.setAt a';exact⟨⟨x,⟨vm,ve,vc,vr,vx,ws,xs,h3⟩,h2⟩,h4⟩
theorem Ev.below {w':World} (h:Ev T w mb wk B rv a c made E L X) (hb:Below w.heap.size w w'):Ev T w' mb wk B rv a c made E L X:=by
 obtain⟨x,⟨vm,ve,vc,vr,vx,ws,xs,h⟩,h2⟩:=h;exact⟨x,⟨vm,ve,vc,vr,vx,ws,xs,h.below hb⟩,h2⟩
theorem oB {zH:Nat->Nat->Option (List Pt)}{m a2:Nat} (hr:D4 zH L ((row.drop m).take (a2 - m))=some L') (hm:m<a2) (ht:row[m]?=some t):∃L1,DH zH L t=some L1/\D4 zH L1 ((row.drop (m+1)).take (a2 - (m+1)))=some L':=by
 obtain⟨hi,e⟩:=zM.1 ht;rw[gm hi,show a2 - m=(a2 - (m+1))+1 by omega,sy,e]at hr;have hr:(DH zH L t).bind (λs=>D4 zH s ((row.drop (m+1)).take (a2 - (m+1))))=some L':=hr;cases h:DH zH L t with
 |none=>rw[h]at hr;cases hr
 |some L1=>rw[h]at hr;exact⟨L1,rfl,hr⟩
theorem qB {a m:Nat} (ha:a<=m) (ht:row[m]?=some t):(row.drop a).take (m+1 - a)=(row.drop a).take (m - a)++ [t]:=by
 rw[show m+1 - a=(m - a)+1 by omega,sr,zq,show a+(m - a)=m by omega,ht];rfl
theorem V7 (Fb:T.Ok) {a2:Nat} (hI:T.In w) (Bo:T.Bd B) (hB:B<=w.heap.size) (h:Ev T w mb wk B rv a c made E L X) (hrw:Em w B rv row) (hrl:∀t∈row,t<T.N.nT) (ha:a<=a2) (ha2:a2<=row.length) (Jp:row.length<=100) (hrun:D4 T.zH L ((row.drop a).take (a2 - a))=some L') (hm:made.length+(a2 - a)<=10000):
  Calls Tryz.prog 96 #[ac mb,ab a2] w λe w'=>e=.returned (.tuple #[])/\Ev T w' mb wk B rv a2 c (made++(row.drop a).take (a2 - a)) E L' X/\B3 B w w':=by
 have HI:Hid (∀V,B3 B w V->T.In V):=hid λV hk=>hI.below Bo (hk.below hB)
 have Dy:Hid (T.Ok/\T.Bd B):=hid ⟨Fb,Bo⟩;have Vi:Hid (∀V,B3 B w V->Em V B rv row):=hid λV hk=>hrw.below (hk.below hB)
 have Ms:Hid (∀t∈row,t<T.N.nT):=hid hrl;have HM:=hid h;have HR:=hid hrun;clear hI Fb Bo hrw hrl h hrun
 go_enter Tryz.func96,Tryz.ntmps96
 go_wp2
 go_loopg [4] (a2 - a) (λg z wr=>∃(m:Nat) (L1:List Pt),a<=m/\m<=a2/\g=a2 - m/\Hid (Ev T wr mb wk B rv m c (made++(row.drop a).take (m - a)) E L1 X)/\Hid (D4 T.zH L1 ((row.drop m).take (a2 - m))=some L')/\Hid (B3 B w wr))
 case atStart=>exact⟨a,L,zn _,ha,rfl,hid (by rw[ku,uu,fy];exact HM.out),HR,hid (B3.refl _ _)⟩
 case round=>
  obtain⟨m,L1,ham,hma,rfl,Gb,Jw,hkm⟩:=hrel;obtain⟨b1,b2,_,b4,b5,b6⟩:=Gb.out.blk
  by_cases hlt:m<a2
  ·have hmi:((m:Int)< (a2:Int)):=by omega
   obtain⟨t,ht⟩:∃t,row[m]?=some t:=⟨_,gE (by omega)⟩;have htT:=Ms.out t (mG ht);obtain⟨L2,hs1,hs2⟩:=oB Jw.out hlt ht;obtain⟨aR,cR,Cn,Fy,hrc⟩:=Vi.out wr hkm.out;obtain⟨gR,off,rfl,Nz,Oa⟩:=hrc (by omega);have cx:=Oa m t ht;have Ga:B<=wr.heap.size:=by have:=hkm.out.size;omega
   have Vj:Hid (∀V,Below wr.heap.size wr V->Calls Tryz.prog 149 #[ac mb,ab t] V λe w'=>e=.returned (.tuple #[])/\Ev T w' mb wk B rv m c (made++(row.drop a).take (m+1 - a)) E L2 X/\B3 B V w'):=hid λV Bf=>by
    have h:=WY Dy.out.1 (HI.out V (hkm.out.trans (B3.zQ Bf))) Dy.out.2 (by have:=Bf.size;omega) (Gb.out.below Bf) htT hs1 zG;rw[qB ham ht,<-aA];exact h
   have HRn:=hid hs2;obtain⟨nR,Ic⟩:=qF (row.length);rw[<-Ic]at Cn Fy ha2 Jp;have hml:((m:Int)< (nR:Int)):=by omega
   have HRv:=hid Cn;rw[Cn]at b4;clear hs1 hs2 hrc Oa ht htT Gb Jw Cn Ic
   go_upto_region 2 with fail
   refine dy (S:=λw'=>w'.cell? (af mb 1)=some (.slice (some (af gR off)) nR cR)/\w'.cell? (af mb 2)=some (ab m)/\w'.cell? (af gR (off+m))=some (ab t)) yM ⟨b4,b5,cx⟩ (λhH=>?_);refine tB 0 hH ?_;refine tB 1 hH ?_;refine tB 2 hH ?_;refine tB 3 hH ?_;refine tB 4 hH ?_;refine tB 5 hH ?_;refine tB 6 hH ?_;refine tB 7 hH ?_;refine tB 8 hH ?_;refine tB 9 hH ?_;refine tB 10 hH ?_;refine tL ?_;refine tS 11 λK hK=>?_
   refine tM ?_
   go_simp;refine(Vj.out _ (ah _ wr).drew).mono ?_;rintro e w4 ⟨rfl,Qz,hk4⟩;try dsimp only
   refine hK.out _ _ ?_ λhH=>?_
   ·exact⟨by rw[<-HRv.out];exact Qz.blk.2.2.2.1,Qz.blk.2.2.2.2.1,(jh (hk4.block gR (by show gR<wr.heap.size;omega) (.inl Nz))).trans hH.2.2⟩
   clear hK K;refine tL ?_;refine bq yM ?_ _;have HM4:=hid Qz;have Ke:Hid (B3 B w w4):=hid (hkm.out.trans ((B3.zQ (ah _ wr).drew).trans hk4));obtain⟨q1,q2,q3,q4,q5,q6⟩:=Qz.blk;have hmw:IntKind.i64.wrap ((m:Int)+1)=(m:Int)+1:=by rw[Db];omega
   clear hH Qz hk4 b4 b5 b6 cx q3 q4;go_wp2;obtain⟨m1,m2⟩:=HM4.out.setAt (m+1)
   go_roundg (a2 - (m+1))
   case measure=>omega
   case rel=>exact⟨m+1,L2,by omega,by omega,rfl,hid m1,HRn,hid (Ke.out.trans m2)⟩
  ·have hme:m=a2:=by omega
   subst hme;have hmi:¬((m:Int)< (m:Int)):=by omega
   have HRn:Hid (L1=L'):=hid (by
    have h:=Jw.out;rw[ku,uu]at h;have h:some L1=some L':=h;injection h)
   clear Jw;go_wp2
   go_end0
   exact⟨rfl,by rw[<-HRn.out];exact Gb.out,hkm.out⟩
end
end
end Go.Proofs.YtjjggdcnpndgjaaGreatDoor
