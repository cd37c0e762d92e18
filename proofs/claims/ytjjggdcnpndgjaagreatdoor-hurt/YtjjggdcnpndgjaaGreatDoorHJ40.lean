import Derived.Test.YtjjggdcnpndgjaaGreatDoorHJ39
set_option linter.unusedSimpArgs false
set_option maxHeartbeats 8000000
set_option maxRecDepth 100000
namespace Go.Proofs.YtjjggdcnpndgjaaGreatDoor
open Go.RowKit Go.Shelf
variable {L L':List Pt}{l:List Oper}{row:List Nat}{t:Nat}{w:World}
section
def VH (l:List Oper):Nat->Nat->Nat->Bool
 |0,_,_=>false
 |d+1,k,j=>((l[k]?).map λx=>x.after.toList.any λe=>Region.binds .any e&&(e.on==j||VH l d e.on j)).getD false
def MY (l:List Oper):Bool:=
 match l.getLast? with
 |none=>false
 |some o=>o.guard.isNone&&(o.dst.isNone&&((List.range (l.length - 1)).all (λj=>VH l 5 (l.length - 1) j)&&
   (List.range l.length).all λi=>((l[i]?).map λx=>x.after.toList.all λe=>decide (e.on<i)).getD true))
section
variable {P:Program}{Q:Exit->Act->World->Prop}{S:World->Prop}
theorem VO  (hB:MY l=true) {listed:Array Bool} (hs:listed.size=l.length) (h:Region.ready .any l.toArray listed=[]):∀i,i<l.length->listed.getD i true=true:=by
 intro i
 induction i using Nat.strongRecOn with
 |_ i ih=>
  intro hi;cases hv:listed.getD i true with
  |true=>rfl
  |false=>
   have hmem:i∈Region.ready .any l.toArray listed:=by
    rw[xu];refine⟨hv,l[i],by simp[hi],λe he hb=>?_⟩;unfold MY at hB;split at hB
    ·cases hB
    ·simp only[fu,nj,ir]at hB
     have h1:=hB.2.2.2 i hi;rw[gE hi]at h1;simp only[ko,jm,nj,ia]at h1;have h2:=h1 e aaC;have h3:=ih e.on h2 (by omega);rw[lu]at h3 ⊢;rw[jt (by omega)]at h3 ⊢;simpa using h3
   rw[h]at hmem;cases hmem
theorem R9 {l:List Oper}{listed:Array Bool} (hc:M3 l listed):∀(d k j:Nat),listed.getD k false=true->VH l d k j=true->listed.getD j false=true
 |0,_,_,_,h=>by cases h
 |d+1,k,j,hk,h=>by
  unfold VH at h;cases hx:l[k]? with
  |none=>rw[hx]at h;cases h
  |some x=>
   rw[hx]at h;simp only[ko,jm,ot,fu,oa,lq]at h;obtain⟨e,he,hb,h2⟩:=h;have h3:=hc k x hx hk e aaC hb
   rcases h2 with h2 |h2
   ·rw[<-h2];exact h3
   ·exact R9 hc d e.on j h3 h2
theorem eB  (hB:MY l=true) {listed:Array Bool} (hc:M3 l listed) (h:l.length - 1∈Region.ready .any l.toArray listed):∀j,j+1<l.length->listed.getD j false=true:=by
 intro j hj;obtain⟨_,o,ho,hall⟩:=xu.1 h;unfold MY at hB;split at hB
 ·cases hB
 ·rename_i o' hl
  have h2:=(I6 l o' hl).2;rw[fy,h2]at ho;injection ho with ho
  subst ho;simp only[fu,nj,ir]at hB;have h3:=hB.2.2.1 j (by omega);unfold VH at h3;rw[h2]at h3;simp only[ko,jm,ot,fu,oa,lq]at h3;obtain⟨e,he,hb,h5⟩:=h3;have h4:=hall e aaC hb
  rcases h5 with h5 |h5
  ·rw[<-h5];exact h4
  ·exact R9 hc 4 e.on j h4 h5
theorem bF {o:Oper} (ho:l.getLast?=some o) (hB:MY l=true):∀(fuel:Nat) (listed:Array Bool) (a:Act) (w:World),listed.size=l.length->M3 l listed->listed.getD (l.length - 1) true=false->
  wpAny P .any (AB l).toArray (EX λa w=>wpList P #[o] Q [o] a w) fuel listed a w->wpAny P .any l.toArray Q fuel listed a w:=by
 have hpos:0<l.length:=by cases l with |nil=>simp at ho |cons _ _=>simp
 intro fuel
 induction fuel with
 |zero=>
  intro listed a w hs hcl hl h;have h1:=h.1;rw[KK]at h1;have:=VO hB hs h1 (l.length - 1) (by omega);rw[hl]at this;cases this
 |succ fuel ih=>
  intro listed a w hs hcl hl h;refine⟨λh1=>?_,λi hi=>?_⟩
  ·have:=VO hB hs h1 (l.length - 1) (by omega)
   rw[hl]at this;cases this
  ·have h2:=h.2 i (by rw[KK];exact hi)
   unfold wpOp at h2 ⊢;have hio:∃oi,l[i]?=some oi:=by
    obtain⟨_,oi,h3,_⟩:=xu.1 hi;exact⟨oi,by simpa using h3⟩
   obtain⟨oi,hoi⟩:=hio
   by_cases Rh:i+1=l.length
   ·have e:i=l.length - 1:=by omega
    subst e;have hc:=I6 l o ho;rw[fy,hc.1]at h2;rw[fy,hc.2];have hg:o.guard=none/\o.dst=none:=by
     unfold MY at hB;rw[ho]at hB;simp only[fu,Option.isNone_iff_eq_none]at hB;exact⟨hB.1,hB.2.1⟩
    have hw1:Region.wanted (BM o) (yielded (AB l).toArray a.tmps)=true:=by
     unfold Region.wanted BM;rw[hg.1]
    have hw2:Region.wanted o (yielded l.toArray a.tmps)=true:=by
     unfold Region.wanted;rw[hg.1]
    have hw3:Region.wanted o (yielded #[o] a.tmps)=true:=by
     unfold Region.wanted;rw[hg.1]
    simp only[hw1,hw2,xz]at h2 ⊢;have hnil:Region.ready .any l.toArray (listed.setIfInBounds (l.length - 1) true)=[]:=by
     rw[List.eq_nil_iff_forall_not_mem];intro j hj;obtain⟨h4,oj,h5,_⟩:=xu.1 hj;have hjl:j<l.length:=by
      rw[fy]at h5;exact(yS.1 h5).1
     by_cases aaH:j=l.length - 1
     ·subst aaH
      simp[hs]at h4
     ·rw[yD true (xP aaH)]at h4
      have h6:=eB hB hcl hi j (by omega);rw[lu,jt (by omega)]at h4 h6;simp at h4 h6;rw[h4]at h6;cases h6
    have hend:wpList P #[o] Q [o] a w:=by
     rcases h2 with h2 | ⟨_,a',w',h2⟩
     ·have h7:(BM o).wp P a w (wpAny P .any (AB l).toArray (EX λa w=>wpList P #[o] Q [o] a w) fuel (listed.setIfInBounds (l.length - 1) true)) (EX λa w=>wpList P #[o] Q [o] a w):=h2
      unfold Oper.wp at h7;have hr:(execOp a.eval (BM o)).run P w=.ok (.value undef) w:=by
       simp[execOp,BM,Act.eval]
      rw[hr]at h7;have h8:wpAny P .any (AB l).toArray (EX λa w=>wpList P #[o] Q [o] a w) fuel (listed.setIfInBounds (l.length - 1) true) (a.put o.dst undef) w:=h7;rw[hg.2]at h8;have h9:a.put none undef=a:=rfl;rw[h9]at h8;cases fuel with
      |zero=>exact h8.2
      |succ f=>exact h8.1 (by rw[KK];exact hnil)
     ·exact False.elim h2
    unfold wpList at hend;rw[hw3,aq rfl]at hend;refine hend.imp (λh=>Oper.wp_mono (λa' w' h'=>?_) h) id;cases fuel with
    |zero=>exact⟨hnil,h'⟩
    |succ f=>exact⟨λ_=>h',by rw[hnil];simp⟩
   ·rw[fy,KZ l i Rh,hoi]at h2
    rw[fy,hoi];simp only at h2 ⊢;rw[SU]at h2;have hs':(listed.setIfInBounds i true).size=l.length:=by simp[hs]
    have aaI:=hcl.step hi;have hl':(listed.setIfInBounds i true).getD (l.length - 1) true=false:=by rw[yD true (by omega)];exact hl
    split at h2
    ·rename_i hw
     rw[aq hw];exact US (λa' w' h'=>ih _ a' w' hs' aaI hl' h') h2
    ·rename_i hw
     rw[au hw];exact ih _ _ _ hs' aaI hl' h2
theorem GZ {id:Nat}{a:Act} (S:World->Prop) (hm:P.follows .mixedOrders=true) (hB:MY l=true) (hS:S w.drew)
  (h:S w.drew->wpAnyH P .any (AB l).toArray (EX λa w=>wpList P #[AO l] Q [AO l] a w) S l.length (Array.replicate l.length false) a w.drew):(Code.region id l.toArray true).wp P Q a w:=by
 refine wp_region_any hm ?_;have ho:l.getLast?=some (AO l):=by
  refine LT l ?_;intro e;subst e;cases hB
 have hpos:0<l.length:=by cases l with |nil=>simp at ho |cons _ _=>simp
 rw[iz];refine bF ho hB _ _ _ _ (by simp) ?_ ?_ (wpAny_of_held _ _ _ _ (h hS))
 ·intro k o' hk hl
  rw[lu]at hl
  rcases jw k l.length with h' |h'
  ·simp[h']at hl
  ·simp[h']at hl
 rw[lu,jt yM];simp
end
end
section
theorem Tryz.infoE9:(Tryz.prog.info? 9).map (λi=>(i.zero,i.size,i.bytes))=some (some (.string ByteArray.empty),1,16):=by kernel_rfl
def Lb (T:zn) (e:ze):List Value:=[ab e.loc,ab e.kind,.string (CV T.yL T.N.nT e.old),.string (CV T.yL T.N.nT e.new)]
def Qu (T:zn) (l:List Nat):List Value:=l.map λt=>Value.string (CV T.yL T.N.nT t)
def Jt (T:zn) (vm ve vc vr vx:Value) (made told:List Nat) (E D:List ze) (xs:List Value):Nat->rE:=λj=>
 if j=3 then⟨3,1,vm,made.length,D8 made⟩else if j=5 then⟨121,4,ve,E.length,E.flatMap (Lb T)⟩else if j=6 then⟨3,1,vc,D.length,D8 (D.map (·.cost))⟩
 else if j=8 then⟨9,1,vr,told.length,Qu T told⟩else⟨39,1,vx,xs.length,xs⟩
def MdS (T:zn) (w:World) (mb wk B:Nat) (rv:Value) (a c:Nat) (made:List Nat) (E:List ze) (L:List Pt) (x:Nat) (X:List (List ByteArray)):Prop:=
 ∃vm ve vc vr vx ws xs,At T w mb wk B rv a c (Jt T vm ve vc vr vx made made E E xs) ws L x xs X
section
variable {T:zn}
theorem vM {vm ve vc vr vx:Value}{made told:List Nat}{E D:List ze}{xs:List Value}:∀j,Sl j->V7 (Jt T vm ve vc vr vx made told E D xs j).e:=λj hj=>by
 rcases hj with e |e |e |e |e <;> subst e <;> simp[Jt,V7]
theorem V4 (Dk:T.Ok) {x:Nat} (ht:t<T.N.nT) (hL:B3 T.N L) (hx:x<=939000000) (hs:DA T.yN L t=some L'):(C3 T.yN T.N.nT t L x).2.1=L'/\(C3 T.yN T.N.nT t L x).2.2<=x+2/\L'.length<=L.length+7/\B3 T.N L':=by
 rcases aY Dk ht hL hx with⟨h1,_⟩ | ⟨s,h1,_,h3,h4,h5,h6⟩
 ·rw[h1]at hs;cases hs
 ·rw[h1]at hs
  injection hs with hs
  subst hs;exact⟨h3,h4,h5,h6⟩
theorem N5 {H g n cap:Nat}{v:Value} (hat:v.ownBlock=some g\/g=H) (hH:w.heap.size<=H):BH w.heap.size v (ae g n cap):=λq hq=>by
 obtain rfl:g=q:=by simpa[Value.ownBlock] using hq
 rcases hat with h |h
 ·exact .inl h
 ·exact .inr (by omega)
theorem nZ (Dk:T.Ok) {mb wk B a c x:Nat}{rv:Value}{made:List Nat}{E:List ze}{X:List (List ByteArray)} (hI:T.In w) (zW:T.Bd B) (hB:B<=w.heap.size) (h:MdS T w mb wk B rv a c made E L x X) (ht:t<T.N.nT) (hs:DA T.yN L t=some L') (hx:x<=930000000) (hL:L.length<=80000) (hps:B3 T.N L) (hm:made.length<=1000000):
  Calls Tryz.prog 149 #[ac mb,ab t] w λe w'=>e=.returned (.tuple #[])/\∃x',x'<=x+2/\MdS T w' mb wk B rv a c (made++ [t]) E L' x' X/\AV B w w':=by
 obtain⟨iI,Io,Ip,Iq,Ir⟩:=jc Tryz.infoX3;obtain⟨iS,Ij,Ik,Il,Im⟩:=jc Tryz.infoE9;obtain⟨vm,ve,vc,vr,vx,ws,xs,h⟩:=h;obtain⟨hf1,hf2,hf3,hf4⟩:=V4 (x:=x) Dk ht hps (by omega) hs;have Ab:Hid T.Ok:=hid Dk;have alX:=h.Tb;have hbl:=h.blk;have c3:w.cell? (af mb 3)=some vm:=(A0 hbl).trans rfl;have z3:w.frozen? (af mb 3)=false:=A3 hbl;obtain⟨n,hn⟩:=qF (made.length);rw[<-hn]at hm;have HN:=hid hn;have HM:=hid h;have HI:Hid (T.In w):=hid hI;have HF:=hid (And.intro hf1 hf2);have HPs:Hid (B3 T.N L):=hid hps;have hrow:w.ownsRow B 3 1 vm n (D8 made):=by rw[hn];exact h.rows 3 (.inl rfl)
 have Da:=hid hrow;clear h hbl hn hf1 hf2 hf3 hf4 hI hs Dk hps
 go_enter Tryz.func149,Tryz.ntmps149
 have q3:(w.alloc (.cells #[ab t] 3)).cell? (af mb 3)=some vm:=A2 _ c3
 go_wp2_with (at_builtin;refine jq _ rfl _ _ 45 rfl B 3 iI (ab 0) 1 8 Tryz.underlying45 Io Ip Iq Ir rfl (by decide) _ _ _ rfl (Da.out.alloc _) (af w.heap.size 0) 1 1 [ab t] rfl rfl (dh (dw w _)) ?c2 (yF 1) ?c3 ?c4 ?c5 _ rfl ?_)
 case c2=>intro u hu;simp at hu;subst hu;rfl
 case c3=>unfold maxLen;omega
 case c4=>omega
 case c5=>simp;omega
 intro g3 Am w3 zO zM Fu Eh;have happ:=HM.out.app (f':=Jt T (ae g3 (n+1) Am) ve vc vr vx (made++ [t]) made E E xs) (j0:=3) (.inl rfl) ((A1.refl w []).alloc (.cells #[ab t] 3)) zM
  (by show w3.ownsRow B 3 1 _ (made++ [t]).length (D8 (made++ [t]));rw[lA,GK,<-HN.out];exact zO) rfl rfl (N5 Fu (by simp)) (λj hj hne=>by rcases hj with e |e |e |e |e <;> subst e <;> first |exact absurd rfl hne |rfl)
 obtain⟨y1,y2,y3⟩:=happ;have yc:w3.cell? (af mb 3)=some vm:=(A0 y1).trans rfl;have yf:w3.frozen? (af mb 3)=false:=A3 y1;have HY:=hid (And.intro y2 y3);clear y1 y2 y3 zO zM Fu Eh q3 c3 z3 hrow
 go_wp2_with fail
 obtain⟨W4,Dv⟩:=qE (w3.setCell (af mb 3) (ae g3 (n+1) Am));have Qv:Hid (At T W4 mb wk B rv a c (Jt T (ae g3 (n+1) Am) ve vc vr vx (made++ [t]) made E E xs) ws L x xs X/\AV B w W4):=hid (by rw[<-Dv];exact HY.out);rw[Dv];clear Dv HY yc yf;have Ea:=Qv.out.2.size;have hb4:Below B w W4:=Qv.out.2.below hB;have hI4:=HI.out.below zW hb4;obtain⟨d0,d1,_⟩:=hI4.tv.Ar;have e0:W4.cell? (af mb 0)=some (ac T.tb):=(A0 Qv.out.1.blk).trans rfl;have e8:W4.cell? (af mb 8)=some vr:=(A0 Qv.out.1.blk).trans rfl;have Jf:Hid (∀V,Below W4.heap.size W4 V->Calls Tryz.prog 129 #[.agg #[.slice T.yu T.N.nT T.yl,ae T.gN T.N.nN T.xY],ab t] V λe w'=>e=.returned (.string (CV T.yL T.N.nT t))/\Below V.heap.size V w'):=hid λV zR=>by
  have Vg:=hI4.below hI4.bd zR;exact P9 V T.n0 T.N T.yL T.pg T.yu T.yl T.gN T.xY Vg.fc.gr Vg.fc.ln t (by omega)
 obtain⟨nT,zo⟩:=qF (T.N.nT);obtain⟨nN,yY⟩:=qF (T.N.nN);obtain⟨wd,hwd⟩:=qE (CV T.yL T.N.nT t);have aj4:=hid hwd;rw[hwd,<-zo,<-yY]at Jf;rw[<-zo]at d0;rw[<-yY]at d1;have Um:W4.ownsRow B 9 1 vr n (Qu T made):=by rw[HN.out];exact Qv.out.1.rows 8 (.inr (.inr (.inr (.inl rfl))))
 have ogM:some mb≠vr.ownBlock:=λe=>A5 Um Qv.out.1.blk (by decide) e.symm
 have aj5:T.tb<B:=zW.tb;have Qz:some T.tb≠vr.ownBlock:=λe=>by have:=(Um.lt _ e.symm).1;omega
 have abq:=hid Um;have alY:mb<W4.heap.size:=Qv.out.1.Tb;clear hb4 hI4 zo yY hwd Um;refine GZ (λw'=>w'.cell? (af mb 0)=some (ac T.tb)/\w'.cell? (af mb 8)=some vr/\w'.cell? (af T.tb 0)=some (.slice T.yu nT T.yl)/\w'.cell? (af T.tb 1)=some (ae T.gN nN T.xY)) hmx yg ⟨e0,e8,d0,d1⟩ (λhH=>?_);simp only[AB,BM,AO];refine tB 0 hH ?_;refine tB 1 hH ?_;refine tB 2 hH ?_;refine tB 3 hH ?_;refine tB 4 hH ?_;refine tB 5 hH ?_;refine tB 6 hH ?_;refine tB 7 hH ?_;refine tB 8 hH ?_;refine tB 9 hH ?_;refine tB 10 hH ?_;refine tB 11 hH ?_;refine tB 12 hH ?_;refine tB 13 hH ?_;refine tB 14 hH ?_;refine tL ?_;refine tS 15 λK hK=>?_
 refine tM ?_
 go_simp;refine(Jf.out _ (ah _ W4).drew).mono ?_;rintro e w5 ⟨rfl,yT⟩;try dsimp only
 refine hK.out _ _ ?_ λhH=>?_
 ·exact⟨A4 yT hH.1,A4 yT hH.2.1,A4 yT hH.2.2.1,A4 yT hH.2.2.2⟩
 clear hK K;refine tL ?_;have zI:Hid (Below W4.heap.size W4 w5):=hid ((ah _ W4).drew.trans yT);refine tS 16 λK hK=>?_
 refine tM ?_;go_simp;refine hK.out _ _ ?_ λhH=>?_
 ·exact⟨A2 _ hH.1,A2 _ hH.2.1,A2 _ hH.2.2.1,A2 _ hH.2.2.2⟩
 clear hK K;refine tL ?_;have hs5:W4.heap.size<=w5.heap.size:=zI.out.size;have HM5:Hid (At T w5 mb wk B rv a c (Jt T (ae g3 (n+1) Am) ve vc vr vx (made++ [t]) made E E xs) ws L x xs X):=hid (Qv.out.1.below zI.out);have HR5:Hid (w5.ownsRow B 9 1 vr n (Qu T made)):=hid (A7 abq.out (A1.yX zI.out []) (λ_ _=>by simp));refine tS 17 λK hK=>?_
 refine tM ?_;rw[aq (by rfl)];refine mz _ (.tmp 19) (.tmp 30) 39 rfl B 9 iS (.string ByteArray.empty) 1 16 Tryz.underlying39 Ij Ik Il Im rfl (by decide) vr _ _ rfl (HR5.out.alloc _) (af w5.heap.size 0) 1 1 [.string wd] rfl rfl (dh (fr:=(0,0)) (dw w5 _)) Fb (by omega) zX (by omega) yM _ rfl ?_;intro g8 Ju w7 hown hgrow hat Bv;refine hK.out _ _ ?_ λhH=>?_
 ·exact⟨(hgrow.cell_far _ yM (by exact ogM)).trans hH.1,(hgrow.cell_far _ yM (by exact ogM)).trans hH.2.1,(hgrow.cell_far _ yM Na).trans hH.2.2.1,(hgrow.cell_far _ yM Na).trans hH.2.2.2⟩
 clear hK K;refine tL ?_;refine tB 18 hH ?_;refine tB 19 hH ?_;refine tB 20 hH ?_;refine tB 21 hH ?_;refine tL ?_;refine bk yg ?_ _;clear hH yT e0 e8 d0 d1;have happ:=HM5.out.app (f':=Jt T (ae g3 (n+1) Am) ve vc (ae g8 (n+1) Ju) vx (made++ [t]) (made++ [t]) E E xs) (j0:=8) (.inr (.inr (.inr (.inl rfl)))) ((A1.refl w5 []).alloc (.cells #[.string wd] 9)) hgrow
  (by
   show w7.ownsRow B 9 1 _ (made++ [t]).length (Qu T (made++ [t]));have e:Qu T (made++ [t])=Qu T made++ [.string wd]:=by unfold Qu;rw[ew,<-aj4.out];rfl
   rw[lA,e,<-HN.out];exact hown) rfl rfl (N5 hat (by simp)) (λj hj hne=>by rcases hj with e |e |e |e |e <;> subst e <;> first |exact absurd rfl hne |rfl)
 obtain⟨y1,y2,y3⟩:=happ;have yc:w7.cell? (af mb 8)=some vr:=(A0 y1).trans rfl;have yf:w7.frozen? (af mb 8)=false:=A3 y1;have Un:=hid y1;have HY:=hid (And.intro y2 y3);clear y1 y2 y3 hown hgrow hat Bv;show wpList _ _ _ _ _ _;have hI7:T.In (w7.setCell (af mb 8) (ae g8 (n+1) Ju)):=HI.out.below zW ((Qv.out.2.trans ((AV.yX zI.out).trans HY.out.2)).below hB);have ag0:Hid (Calls Tryz.prog 116 #[ac wk,ab t] (w7.setCell (af mb 8) (ae g8 (n+1) Ju)) λe w'=>∃v',e=.returned (.bool (C3 T.yN T.N.nT t L x).1)/\Ah w' wk T.tb B v' (C3 T.yN T.N.nT t L x).2.1 (C3 T.yN T.N.nT t L x).2.2/\A1 (w7.setCell (af mb 8) (ae g8 (n+1) Ju)) w' (wk::ws.ownBlock.toList)/\BH (w7.setCell (af mb 8) (ae g8 (n+1) Ju)).heap.size ws v'):=hid (d7 Ab.out hI7 zW HY.out.1.Ot HY.out.1.Gz (by omega) (by omega) HPs.out (by omega));have y4:w7.cell? (af mb 4)=some (ac wk):=by
  have h:=(A0 Un.out (j:=4));exact h.trans rfl
 clear hI7;obtain⟨bt,hbt⟩:=qE ((C3 T.yN T.N.nT t L x).1);rw[hbt]at ag0;clear hbt
 go_wp2_with (go_at_call 116;refine ag0.out.mono ?_;rintro e w8 ⟨ws',rfl,h1,h2,h3⟩;have H8:=hid (And.intro h1 h2);clear h1 h2 h3)
 go_end0
 obtain⟨h1,h2⟩:=H8.out;rw[HF.out.1]at h1;obtain⟨m1,m2⟩:=HY.out.1.walk h2 h1;exact⟨rfl,_,HF.out.2,⟨_,_,_,_,_,_,_,m1⟩,Qv.out.2.trans ((AV.yX zI.out).trans (HY.out.2.trans m2))⟩
end
end
section
def Df (T:zn) (w:World) (mb wk B:Nat) (rv:Value) (a c:Nat) (made:List Nat) (E:List ze) (L:List Pt) (X:List (List ByteArray)):Prop:=
 ∃x,MdS T w mb wk B rv a c made E L x X/\x<=2*made.length/\L.length<=7*made.length+1/\B3 T.N L
section
variable {T:zn}{w:World}{mb wk B a c:Nat}{rv:Value}{made:List Nat}{E:List ze}{L L':List Pt}{X:List (List ByteArray)}
theorem WI (Dk:T.Ok)  (hI:T.In w) (zW:T.Bd B) (hB:B<=w.heap.size) (h:Df T w mb wk B rv a c made E L X) (ht:t<T.N.nT) (hs:DA T.yN L t=some L') (hm:made.length<=10000):
  Calls Tryz.prog 149 #[ac mb,ab t] w λe w'=>e=.returned (.tuple #[])/\Df T w' mb wk B rv a c (made++ [t]) E L' X/\AV B w w':=by
 obtain⟨x,h1,h2,h3,h4⟩:=h;obtain⟨_,_,f3,f4⟩:=V4 (x:=x) Dk ht h4 (by omega) hs;refine(nZ Dk hI zW hB h1 ht hs (by omega) (by omega) h4 (by omega)).mono ?_;rintro e w' ⟨rfl,x',g1,g2,g3⟩;exact⟨rfl,⟨x',g2,by simp;omega,by simp;omega,f4⟩,g3⟩
theorem Df.blk (h:Df T w mb wk B rv a c made E L X):mb<w.heap.size/\B<=mb/\w.cell? (af mb 0)=some (ac T.tb)/\w.cell? (af mb 1)=some rv/\w.cell? (af mb 2)=some (ab a)/\w.frozen? (af mb 2)=false:=by
 obtain⟨x,⟨vm,ve,vc,vr,vx,ws,xs,h⟩,_⟩:=h;exact⟨h.Tb,h.Oq,(A0 h.blk).trans rfl,(A0 h.blk).trans rfl,(A0 h.blk).trans rfl,A3 h.blk⟩
theorem Df.setAt (h:Df T w mb wk B rv a c made E L X) (a':Nat):Df T (w.setCell (af mb 2) (ab a')) mb wk B rv a' c made E L X/\AV B w (w.setCell (af mb 2) (ab a')):=by
 obtain⟨x,⟨vm,ve,vc,vr,vx,ws,xs,h⟩,h2⟩:=h;obtain⟨h3,h4⟩:=h.setAt a';exact⟨⟨x,⟨vm,ve,vc,vr,vx,ws,xs,h3⟩,h2⟩,h4⟩
theorem Df.below {w':World} (h:Df T w mb wk B rv a c made E L X) (hb:Below w.heap.size w w'):Df T w' mb wk B rv a c made E L X:=by
 obtain⟨x,⟨vm,ve,vc,vr,vx,ws,xs,h⟩,h2⟩:=h;exact⟨x,⟨vm,ve,vc,vr,vx,ws,xs,h.below hb⟩,h2⟩
theorem pD {yN:Nat->Nat->Option (List Pt)}{m a2:Nat} (hr:CQ yN L ((row.drop m).take (a2 - m))=some L') (hm:m<a2) (ht:row[m]?=some t):∃L1,DA yN L t=some L1/\CQ yN L1 ((row.drop (m+1)).take (a2 - (m+1)))=some L':=by
 obtain⟨hi,e⟩:=yS.1 ht;rw[gm hi,show a2 - m=(a2 - (m+1))+1 by omega,qw,e]at hr;have hr:(DA yN L t).bind (λs=>CQ yN s ((row.drop (m+1)).take (a2 - (m+1))))=some L':=hr;cases h:DA yN L t with
 |none=>rw[h]at hr;cases hr
 |some L1=>rw[h]at hr;exact⟨L1,rfl,hr⟩
theorem mL {a m:Nat} (ha:a<=m) (ht:row[m]?=some t):(row.drop a).take (m+1 - a)=(row.drop a).take (m - a)++ [t]:=by
 rw[show m+1 - a=(m - a)+1 by omega,sy,yH,show a+(m - a)=m by omega,ht];rfl
theorem VK (Dk:T.Ok) {a2:Nat} (hI:T.In w) (zW:T.Bd B) (hB:B<=w.heap.size) (h:Df T w mb wk B rv a c made E L X) (hrw:Cw w B rv row) (hrl:∀t∈row,t<T.N.nT) (ha:a<=a2) (ha2:a2<=row.length) (Gx:row.length<=100) (hrun:CQ T.yN L ((row.drop a).take (a2 - a))=some L') (hm:made.length+(a2 - a)<=10000):
  Calls Tryz.prog 96 #[ac mb,ab a2] w λe w'=>e=.returned (.tuple #[])/\Df T w' mb wk B rv a2 c (made++(row.drop a).take (a2 - a)) E L' X/\AV B w w':=by
 have HI:Hid (∀V,AV B w V->T.In V):=hid λV hk=>hI.below zW (hk.below hB)
 have Ab:Hid (T.Ok/\T.Bd B):=hid ⟨Dk,zW⟩;have Yl:Hid (∀V,AV B w V->Cw V B rv row):=hid λV hk=>hrw.below (hk.below hB)
 have La:Hid (∀t∈row,t<T.N.nT):=hid hrl;have HM:=hid h;have HR:=hid hrun;clear hI Dk zW hrw hrl h hrun
 go_enter Tryz.func96,Tryz.ntmps96
 go_wp2
 go_loopg [4] (a2 - a) (λg z wr=>∃(m:Nat) (L1:List Pt),a<=m/\m<=a2/\g=a2 - m/\Hid (Df T wr mb wk B rv m c (made++(row.drop a).take (m - a)) E L1 X)/\Hid (CQ T.yN L1 ((row.drop m).take (a2 - m))=some L')/\Hid (AV B w wr))
 case atStart=>exact⟨a,L,yF _,ha,rfl,hid (by rw[kq,uf,iq];exact HM.out),HR,hid (AV.refl _ _)⟩
 case round=>
  obtain⟨m,L1,ham,hma,rfl,Ee,Hq,hkm⟩:=hrel;obtain⟨b1,b2,_,b4,b5,b6⟩:=Ee.out.blk
  by_cases hlt:m<a2
  ·have hmi:((m:Int)< (a2:Int)):=by omega
   obtain⟨t,ht⟩:∃t,row[m]?=some t:=⟨_,gE (by omega)⟩;have htT:=La.out t (mG ht);obtain⟨L2,hs1,hs2⟩:=pD Hq.out hlt ht;obtain⟨aR,cR,Ai,Eb,hrc⟩:=Yl.out wr hkm.out;obtain⟨gR,off,rfl,Mh,Mi⟩:=hrc (by omega);have cx:=Mi m t ht;have Ed:B<=wr.heap.size:=by have:=hkm.out.size;omega
   have Yx:Hid (∀V,Below wr.heap.size wr V->Calls Tryz.prog 149 #[ac mb,ab t] V λe w'=>e=.returned (.tuple #[])/\Df T w' mb wk B rv m c (made++(row.drop a).take (m+1 - a)) E L2 X/\AV B V w'):=hid λV zR=>by
    have h:=WI Ab.out.1 (HI.out V (hkm.out.trans (AV.yX zR))) Ab.out.2 (by have:=zR.size;omega) (Ee.out.below zR) htT hs1 yM;rw[mL ham ht,<-aA];exact h
   have HRn:=hid hs2;obtain⟨nR,Ie⟩:=qF (row.length);rw[<-Ie]at Ai Eb ha2 Gx;have hml:((m:Int)< (nR:Int)):=by omega
   have HRv:=hid Ai;rw[Ai]at b4;clear hs1 hs2 hrc Mi ht htT Ee Hq Ai Ie
   go_upto_region 2 with fail
   refine dn (S:=λw'=>w'.cell? (af mb 1)=some (.slice (some (af gR off)) nR cR)/\w'.cell? (af mb 2)=some (ab m)/\w'.cell? (af gR (off+m))=some (ab t)) yg ⟨b4,b5,cx⟩ (λhH=>?_);refine tB 0 hH ?_;refine tB 1 hH ?_;refine tB 2 hH ?_;refine tB 3 hH ?_;refine tB 4 hH ?_;refine tB 5 hH ?_;refine tB 6 hH ?_;refine tB 7 hH ?_;refine tB 8 hH ?_;refine tB 9 hH ?_;refine tB 10 hH ?_;refine tL ?_;refine tS 11 λK hK=>?_
   refine tM ?_
   go_simp;refine(Yx.out _ (ah _ wr).drew).mono ?_;rintro e w4 ⟨rfl,Oz,hk4⟩;try dsimp only
   refine hK.out _ _ ?_ λhH=>?_
   ·exact⟨by rw[<-HRv.out];exact Oz.blk.2.2.2.1,Oz.blk.2.2.2.2.1,(jd (hk4.block gR (by show gR<wr.heap.size;omega) (.inl Mh))).trans hH.2.2⟩
   clear hK K;refine tL ?_;refine bk yg ?_ _;have HM4:=hid Oz;have Ht:Hid (AV B w w4):=hid (hkm.out.trans ((AV.yX (ah _ wr).drew).trans hk4));obtain⟨q1,q2,q3,q4,q5,q6⟩:=Oz.blk;have hmw:IntKind.i64.wrap ((m:Int)+1)=(m:Int)+1:=by rw[Cy];omega
   clear hH Oz hk4 b4 b5 b6 cx q3 q4;go_wp2;obtain⟨m1,m2⟩:=HM4.out.setAt (m+1)
   go_roundg (a2 - (m+1))
   case measure=>omega
   case rel=>exact⟨m+1,L2,by omega,by omega,rfl,hid m1,HRn,hid (Ht.out.trans m2)⟩
  ·have hme:m=a2:=by omega
   subst hme;have hmi:¬((m:Int)< (m:Int)):=by omega
   have HRn:Hid (L1=L'):=hid (by
    have h:=Hq.out;rw[kq,uf]at h;have h:some L1=some L':=h;injection h)
   clear Hq;go_wp2
   go_end0
   exact⟨rfl,by rw[<-HRn.out];exact Ee.out,hkm.out⟩
end
end
end Go.Proofs.YtjjggdcnpndgjaaGreatDoor
