import Derived.Test.YtjjggdcnpndgjabGreatDoorJ28
set_option linter.unusedSimpArgs false
set_option maxHeartbeats 4000000
set_option maxRecDepth 100000
namespace Go.Proofs.YtjjggdcnpndgjabGreatDoor
open Go.RowKit Go.Shelf
variable {B i k n q:Nat}{Q:Wts}{b:Wt}{cn ct:Nat->Nat->Nat->Wt}{f:Nat->Wt}{p:Pt}{tls:List (Option Pt)}{w:World}
section
structure E5 (Q:Wts) (w:World) (B gi gn gq i k:Nat) (nm ta:Nat->Wt):Prop where
 pi:w.cell? (af Q.gp i)=some (ae gi (Q.row.length+1) (Q.row.length+1))
 pn:w.cell? (af gi (k*2))=some (ae gn Q.T.N.nN Q.T.N.nN)
 pq:w.cell? (af gi (k*2+1))=some (ae gq Q.tls.length Q.tls.length)
 gpB:Q.gp<B
 giB:gi<B
 gnB:B<=gn
 gqB:B<=gq
 ne:gn≠gq
 gnl:gn<w.heap.size
 gql:gq<w.heap.size
 nmc:GZ w gn Q.T.N.nN nm
 tac:GZ w gq Q.tls.length ta
 nmf:∀j,w.frozen? (af gn j)=false
 taf:∀j,w.frozen? (af gq j)=false
def KnP (Q:Wts) (w:World) (B i k:Nat) (cn ct:Nat->Nat->Nat->Wt):Prop:=∀a b,a<=b->b<=Q.row.length->(i<a\/a=i/\b<k)->NmV Q w B a b (fun n=>cn n a b)/\TlV Q w B a b (fun q=>ct q a b)
theorem KnP.below {w':World} (h:KnP Q w B i k cn ct) (hb:Below B w w') (hg:Q.gp<B):KnP Q w' B i k cn ct:=fun a b h1 h2 h3=>⟨(h a b h1 h2 h3).1.below hb hg,(h a b h1 h2 h3).2.below hb hg⟩
def WSm (f:Nat->Nat->Nat->Wt):Prop:=∀n a b,(f n a b).1<=AB/\(f n a b).2<=FZ
def FX (f:Nat->Wt):Prop:=∀n,(f n).1<=AB/\(f n).2<=FZ
theorem WSm.put {f:Nat->Nat->Nat->Wt}{g:Nat->Wt} (h:WSm f) (hg:FX g) (i k:Nat):WSm (AK f i k g):=fun n a b=>by
 unfold AK;split
 ·exact hg n
 ·exact h n a b
theorem eT {a:Wt} (h:a.1<=AB/\a.2<=FZ) (hb:b.2<=FZ):(BL a b).1<=AB/\(BL a b).2<=FZ:=by
 refine⟨lT_ (K6 (RM a b)) h.1,?_⟩
 rcases RV a b with e |e
 ·rw[e];exact h.2
 ·rw[e];exact hb
theorem FX.set  (h:FX f) (n:Nat)  (hb:b.2<=FZ):FX (AZ f n (BL (f n) b)):=fun m=>by
 unfold AZ;split
 ·exact eT (h n) hb
 ·exact h m
theorem NP (a b:Wt):(GE a b).2<=FZ:=by unfold GE;simp only;omega
theorem L4 (a b:Wt):BL a b=if wlt b a then b else a:=by
 unfold BL
 by_cases h:wlt b a
 ·rw[if_pos h,if_pos]
  unfold wlt at h;unfold U8;simp only[Bool.or_eq_true,Bool.and_eq_true,decide_eq_true_eq];exact h
 ·rw[if_neg h,if_neg]
  unfold wlt at h;unfold U8;simp only[Bool.or_eq_true,Bool.and_eq_true,decide_eq_true_eq];exact h
theorem GZ.put {g:Nat} (h:GZ w g n f)  (hq:q<n) (y:Wt):
  GZ ((w.setCell (af g (q*2)) (ab y.1)).setCell (af g (q*2+1)) (ab y.2)) g n (AZ f q y):=by
 obtain⟨c,hc⟩:=h q hq;have hblk:∃cs e fr,w.heap[g]?=some (.cells cs e fr):=by
  simp only[World.cell?]at c;cases ho:w.heap[g]? with
  |none=>rw[ho]at c;cases c
  |some o=>
   cases o with
   |cells cs e fr=>exact⟨cs,e,fr,rfl⟩
   |_=>rw[ho]at c;cases c
 obtain⟨cs,e,fr,hb⟩:=hblk;have hb2:=A5 (j:=q*2+1) (A5 (j:=q*2) hb (ab y.1)) (ab y.2);have hcs:∀j,w.cell? (af g j)=cs[j]?:=fun j=>A0 hb
 have hl1:q*2+1<cs.size:=by
  rw[hcs]at hc;exact(Array.getElem?_eq_some_iff.1 hc).1
 intro i hi;rw[A0 hb2,A0 hb2];unfold AZ
 by_cases ei:i=q
 ·subst ei
  rw[if_pos rfl];refine⟨?_,?_⟩
  ·rw[Array.getElem?_setIfInBounds_ne (by omega),Array.getElem?_setIfInBounds,if_pos rfl,if_pos (by omega)]
  ·rw[Array.getElem?_setIfInBounds,if_pos rfl,if_pos y2Z]
 ·rw[if_neg ei]
  obtain⟨h1,h2⟩:=h i hi;rw[hcs]at h1 h2;refine⟨?_,?_⟩
  ·rw[Array.getElem?_setIfInBounds_ne (by omega),Array.getElem?_setIfInBounds_ne (by omega)];exact h1
  ·rw[Array.getElem?_setIfInBounds_ne (by omega),Array.getElem?_setIfInBounds_ne (by omega)];exact h2
section
variable {Q:Wts}{w:World}{B gi gn gq i k:Nat}{nm ta:Nat->Wt}
theorem E5.keeps {w':World}{S:List Nat} (h:E5 Q w B gi gn gq i k nm ta) (hk:A1 w w' S) (hB:B<=w.heap.size) (hS:∀q∈S,B<=q/\q≠gn/\q≠gq):E5 Q w' B gi gn gq i k nm ta:=by
 have hb:Below B w w':=hk.below hB (fun q hq=>(hS q hq).1);have e1:w'.heap[gn]?=w.heap[gn]?:=hk.block gn h.gnl (fun hm=>(hS gn hm).2.1 rfl);have e2:w'.heap[gq]?=w.heap[gq]?:=hk.block gq h.gql (fun hm=>(hS gq hm).2.2 rfl);exact⟨(hb.cell (by exact h.gpB)).trans h.pi,(hb.cell y71Z).trans h.pn,(hb.cell y71Z).trans h.pq,h.gpB,h.giB,h.gnB,h.gqB,h.ne,lL h.gnl hk.size,lL h.gql hk.size,
  fun j hj=>⟨(World.cell?_of_block e1).trans (h.nmc j hj).1,(World.cell?_of_block e1).trans (h.nmc j hj).2⟩,fun j hj=>⟨(World.cell?_of_block e2).trans (h.tac j hj).1,(World.cell?_of_block e2).trans (h.tac j hj).2⟩,
  fun j=>(World.frozen?_of_block e1).trans (h.nmf j),fun j=>(World.frozen?_of_block e2).trans (h.taf j)⟩
theorem TW (h:E5 Q w B gi gn gq i k nm ta) (hB:B<=w.heap.size)  (hq:q<Q.tls.length) (y:Wt):
  Calls Tryz.prog 81 #[.pointer (some (af gq (q*2))),wtV y] w fun e w'=>e=.returned (.bool (decide (wlt y (ta q))))/\E5 Q w' B gi gn gq i k nm (AZ ta q (BL (ta q) y))/\A1 w w' [gq]:=by
 obtain⟨c1,c2⟩:=h.tac q hq;obtain⟨y1,y2⟩:=y;refine(RL gq (q*2) _ _ y1 y2 w c1 c2 h.taf).mono ?_;rintro e w' ⟨rfl,w1,hb,hw⟩;have h1:E5 Q w1 B gi gn gq i k nm ta:=h.keeps (A1.of_below hb []) hB (by simp);refine⟨rfl,?_⟩;rw[L4]
 by_cases hl:wlt (y1,y2) ((ta q).1,(ta q).2)
 ·rw[if_pos hl]at hw
  have hl2:wlt (y1,y2) (ta q):=hl;rw[if_pos hl2];subst hw;have hk:A1 w1 ((w1.setCell (af gq (q*2)) (ab y1)).setCell (af gq (q*2+1)) (ab y2)) [gq]:=((A1.refl w1 [gq]).setCell (by simp) _).setCell (by simp) _;refine⟨?_,(A1.of_below hb [gq]).trans hk⟩;have hB1:B<=w1.heap.size:=lT_ hB hb.size;have hbb:Below B w1 ((w1.setCell (af gq (q*2)) (ab y1)).setCell (af gq (q*2+1)) (ab y2)):=hk.below hB1 (fun x hx=>by rw[mS.1 hx];exact h.gqB);have e1:=hk.block gn h1.gnl y80Z;have hf:∀j,((w1.setCell (af gq (q*2)) (ab y1)).setCell (af gq (q*2+1)) (ab y2)).frozen? (af gq j)=w1.frozen? (af gq j):=fun j=>by simp
  exact⟨(hbb.cell (by exact h.gpB)).trans h1.pi,(hbb.cell y71Z).trans h1.pn,(hbb.cell y71Z).trans h1.pq,h.gpB,h.giB,h.gnB,h.gqB,h.ne,lL h1.gnl hk.size,lL h1.gql hk.size,
   fun j hj=>⟨(World.cell?_of_block e1).trans (h1.nmc j hj).1,(World.cell?_of_block e1).trans (h1.nmc j hj).2⟩,h1.tac.put hq (y1,y2),fun j=>(World.frozen?_of_block e1).trans (h1.nmf j),fun j=>(hf j).trans (h1.taf j)⟩
 ·rw[if_neg hl]at hw
  have hl2:¬wlt (y1,y2) (ta q):=hl;rw[if_neg hl2];subst hw;have e:AZ ta q (ta q)=ta:=by funext m;unfold AZ;split <;> simp_all
  rw[e];exact⟨h1,A1.of_below hb _⟩
theorem E5.put_ta (h1:E5 Q w B gi gn gq i k nm ta) (hB:B<=w.heap.size)  (hq:q<Q.tls.length) (y:Wt):
  E5 Q ((w.setCell (af gq (q*2)) (ab y.1)).setCell (af gq (q*2+1)) (ab y.2)) B gi gn gq i k nm (AZ ta q y)/\A1 w ((w.setCell (af gq (q*2)) (ab y.1)).setCell (af gq (q*2+1)) (ab y.2)) [gq]:=by
 have hk:A1 w ((w.setCell (af gq (q*2)) (ab y.1)).setCell (af gq (q*2+1)) (ab y.2)) [gq]:=((A1.refl w [gq]).setCell (by simp) _).setCell (by simp) _;have hbb:=hk.below hB (fun x hx=>by rw[mS.1 hx];exact h1.gqB);have e1:=hk.block gn h1.gnl (by simpa using h1.ne);have hf:∀j,((w.setCell (af gq (q*2)) (ab y.1)).setCell (af gq (q*2+1)) (ab y.2)).frozen? (af gq j)=w.frozen? (af gq j):=fun j=>by simp
 exact⟨⟨(hbb.cell (by exact h1.gpB)).trans h1.pi,(hbb.cell (by exact h1.giB)).trans h1.pn,(hbb.cell (by exact h1.giB)).trans h1.pq,h1.gpB,h1.giB,h1.gnB,h1.gqB,h1.ne,lL h1.gnl hk.size,lL h1.gql hk.size,
   fun j hj=>⟨(World.cell?_of_block e1).trans (h1.nmc j hj).1,(World.cell?_of_block e1).trans (h1.nmc j hj).2⟩,h1.tac.put hq y,fun j=>(World.frozen?_of_block e1).trans (h1.nmf j),fun j=>(hf j).trans (h1.taf j)⟩,hk⟩
theorem q8 (h:E5 Q w B gi gn gq i k nm ta) (hB:B<=w.heap.size)  (hn:n<Q.T.N.nN) (y:Wt):
  Calls Tryz.prog 81 #[.pointer (some (af gn (n*2))),wtV y] w fun e w'=>e=.returned (.bool (decide (wlt y (nm n))))/\E5 Q w' B gi gn gq i k (AZ nm n (BL (nm n) y)) ta/\A1 w w' [gn]:=by
 obtain⟨c1,c2⟩:=h.nmc n hn;obtain⟨y1,y2⟩:=y;refine(RL gn (n*2) _ _ y1 y2 w c1 c2 h.nmf).mono ?_;rintro e w' ⟨rfl,w1,hb,hw⟩;have h1:E5 Q w1 B gi gn gq i k nm ta:=h.keeps (A1.of_below hb []) hB (by simp);refine⟨rfl,?_⟩;rw[L4]
 by_cases hl:wlt (y1,y2) ((nm n).1,(nm n).2)
 ·rw[if_pos hl]at hw
  have hl2:wlt (y1,y2) (nm n):=hl;rw[if_pos hl2];subst hw;have hk:A1 w1 ((w1.setCell (af gn (n*2)) (ab y1)).setCell (af gn (n*2+1)) (ab y2)) [gn]:=((A1.refl w1 [gn]).setCell (by simp) _).setCell (by simp) _;refine⟨?_,(A1.of_below hb [gn]).trans hk⟩;have hB1:B<=w1.heap.size:=lT_ hB hb.size;have hbb:Below B w1 ((w1.setCell (af gn (n*2)) (ab y1)).setCell (af gn (n*2+1)) (ab y2)):=hk.below hB1 (fun x hx=>by rw[mS.1 hx];exact h.gnB);have e1:=hk.block gq h1.gql (by simpa using Ne.symm h.ne);have hf:∀j,((w1.setCell (af gn (n*2)) (ab y1)).setCell (af gn (n*2+1)) (ab y2)).frozen? (af gn j)=w1.frozen? (af gn j):=fun j=>by simp
  exact⟨(hbb.cell (by exact h.gpB)).trans h1.pi,(hbb.cell y71Z).trans h1.pn,(hbb.cell y71Z).trans h1.pq,h.gpB,h.giB,h.gnB,h.gqB,h.ne,lL h1.gnl hk.size,lL h1.gql hk.size,
   h1.nmc.put hn (y1,y2),fun j hj=>⟨(World.cell?_of_block e1).trans (h1.tac j hj).1,(World.cell?_of_block e1).trans (h1.tac j hj).2⟩,fun j=>(hf j).trans (h1.nmf j),fun j=>(World.frozen?_of_block e1).trans (h1.taf j)⟩
 ·rw[if_neg hl]at hw
  have hl2:¬wlt (y1,y2) (nm n):=hl;rw[if_neg hl2];subst hw;have e:AZ nm n (nm n)=nm:=by funext m;unfold AZ;split <;> simp_all
  rw[e];exact⟨h1,A1.of_below hb _⟩
theorem uX  (hK:KnP Q w B i k cn ct) (hC:E5 Q w B gi gn gq i k nm ta) (hB:B<=w.heap.size) (hk:k<=Q.row.length) {j:Nat} (h1:i<=j) (h2:j<=k):NmV Q w w.heap.size i j (fun n=>AK cn i k nm n i j):=by
 by_cases e:j=k
 ·subst e
  have hf:(fun n=>AK cn i j nm n i j)=nm:=by funext n;unfold AK;rw[if_pos ⟨rfl,rfl⟩]
  rw[hf];exact⟨gi,gn,by have:=hC.giB;omega,hC.gnl,hC.pi,hC.pn,hC.nmc⟩
 ·have hf:(fun n=>AK cn i k nm n i j)=fun n=>cn n i j:=by funext n;unfold AK;rw[if_neg (by omega)]
  rw[hf];obtain⟨gi',gn',z1,z2,z3⟩:=(hK i j h1 (by omega) (.inr ⟨rfl,by omega⟩)).1;exact⟨gi',gn',by omega,by omega,z3⟩
theorem vF  (hK:KnP Q w B i k cn ct) (hC:E5 Q w B gi gn gq i k nm ta) (hB:B<=w.heap.size) (hk:k<=Q.row.length) {j:Nat} (h1:i<=j) (h2:j<=k):TlV Q w w.heap.size j k (fun q=>AK ct i k ta q j k):=by
 by_cases e:j=i
 ·subst e
  have hf:(fun q=>AK ct j k ta q j k)=ta:=by funext n;unfold AK;rw[if_pos ⟨rfl,rfl⟩]
  rw[hf];exact⟨gi,gq,by have:=hC.giB;omega,hC.gql,hC.pi,hC.pq,hC.tac⟩
 ·have hf:(fun q=>AK ct i k ta q j k)=fun q=>ct q j k:=by funext n;unfold AK;rw[if_neg (by omega)]
  rw[hf];obtain⟨gi',gn',z1,z2,z3⟩:=(hK j k h2 hk (.inl (by omega))).2;exact⟨gi',gn',by omega,by omega,z3⟩
end
theorem TJ  (hN:Q.T.N.Ok) (hr:∀x∈Q.row,x<Q.T.N.nT) (h100:Q.row.length<=100)  (hc:WSm cn)  (hp:J8 Q.T.N p) (i k:Nat):WOk (CZ Q.T.N Q.row cn p i k):=by
 cases p with
 |nam n=>
  have:=hc n i k;unfold AB FZ at this;exact⟨by show(cn n i k).1<=_;omega,this.2⟩
 |tok t=>
  show WOk (FQ Q.T.N Q.row t i k);unfold FQ;split
  ·have:=hN.put2 t hp
   exact⟨by simp only;omega,by simp⟩
  ·refine⟨?_,by simp⟩
   simp only;have h1:E4 Q.T.N Q.row i (k - 1)<=9900:=by
    rcases Nat.le_total i (k - 1)with h |h
    ·have h2:=(NQ (N:=Q.T.N) Q.row h).2
     have h3:=JQ hN hr h100 (k - 1);omega
    ·unfold E4
     rw[show k - 1 - i=0 by omega,List.take_zero];simp[AU]
   have h2:FC Q.T.N (Q.row.getD (k - 1) 0) t<=1048576:=by
    unfold FC JY
    by_cases h1:Q.row.getD (k - 1) 0=t
    ·rw[if_pos h1];simp
    ·rw[if_neg h1]
     by_cases h2:Q.T.N.swp (Q.row.getD (k - 1) 0) t=0
     ·rw[if_pos h2];exact lR_ _
     ·rw[if_neg h2]
      have:=hN.swp2 (Q.row.getD (k - 1) 0) t;simp only[Option.getD_some];omega
   omega
end
def JM (Q:Wts) (cn ct:Nat->Nat->Nat->Wt) (p:Pt) (q i k:Nat):Nat->Wt
 |0=>(AB,0)
 |m+1=>BL (JM Q cn ct p q i k m) (D3 Q.T.N Q.row cn ct p q i (i+1+m) k)
theorem bC (Q:Wts) (cn ct:Nat->Nat->Nat->Wt) (p:Pt) (q i k:Nat):∀m,(JM Q cn ct p q i k m).1<=AB/\(JM Q cn ct p q i k m).2<=FZ
 |0=>⟨lR_ _,Nat.zero_le _⟩
 |m+1=>eT (bC Q cn ct p q i k m) (NP _ _)
theorem cW (f:Nat->Wt) (q:Nat) (a b:Wt):AZ (AZ f q a) q b=AZ f q b:=by
 funext m;unfold AZ;split <;> rfl
theorem MP (f:Nat->Wt) (q:Nat) (a:Wt):AZ f q a q=a:=by unfold AZ;rw[if_pos rfl]
theorem tF  (hQ:Q.In w) {gi gn gq:Nat}{nm ta:Nat->Wt} (hC:E5 Q w B gi gn gq i k nm ta) (hB:B<=w.heap.size) (hik:i<=k) (hk:k<=Q.row.length) (hq:Q.tls[q]?=some none):
  Calls Tryz.prog 107 #[ac Q.wb,ab q,ab i,ab k] w fun e w'=>e=.returned (.tuple #[])/\E5 Q w' B gi gn gq i k nm (AZ ta q (if i=k then(0,0)else ta q))/\A1 w w' [gq]:=by
 have c3:w.cell? (af Q.wb 3)=some (ae Q.gt Q.tls.length Q.ct):=(A0 hQ.blk).trans rfl;have c5:w.cell? (af Q.wb 5)=some (ae Q.gp (Q.row.length+1) (Q.row.length+1)):=(A0 hQ.blk).trans rfl;obtain⟨t0,_,_⟩:=hQ.tlc q _ hq;have t0:w.cell? (af Q.gt (q*3))=some (.bool true):=t0;have c6:=hC.pi;have c7:=hC.pq;have hqlt:q<Q.tls.length:=(gS_.1 hq).1;obtain⟨a0,a1⟩:=hC.tac q hqlt;have u0:=hC.taf (q*2);have u1:=hC.taf (q*2+1);have hr100:=hQ.r40;have htl:=hQ.tl20;have htc:=hQ.tlc2;have HP:=hid (hC.put_ta hB hqlt (0,0));have HC:=hid hC;obtain⟨L,hL⟩:=qF (Q.row.length+1);obtain⟨nQ,hnQ⟩:=qF (Q.tls.length);have hiL:i<L:=by omega
 have hkL:k<L:=by omega
 have hL1:L<=101:=by omega
 rw[<-hL]at c5 c6;rw[<-hnQ]at c3 c7 hqlt htl htc;obtain⟨x1,hx1⟩:=qE ((ta q).1);obtain⟨x2,hx2⟩:=qE ((ta q).2);rw[hx1]at a0;rw[hx2]at a1;clear hQ hC hL hnQ hx1 hx2 hq
 by_cases e:i=k
 ·rw[if_pos e]
  subst e;clear HC
  go_enter Tryz.func107,Tryz.ntmps107
  go_wp2;exact⟨rfl,_,results_none rfl _ _ _,rfl,HP.out⟩
 ·rw[if_neg e]
  have hne:((i:Int)==(k:Int))=false:=by rw[beq_eq_false_iff_ne];omega
  have e2:AZ ta q (ta q)=ta:=by funext m;unfold AZ;split <;> simp_all
  rw[e2];clear e2 HP e
  go_enter Tryz.func107,Tryz.ntmps107
  go_wp2;exact⟨rfl,_,results_none rfl _ _ _,rfl,HC.out,A1.refl _ _⟩
theorem pF  (hQ:Q.In w) {gi gn gq:Nat}{nm ta:Nat->Wt} (hC:E5 Q w B gi gn gq i k nm ta) (hK:KnP Q w B i k cn ct) (hcn:WSm cn) (hct:WSm ct) (hB:B<=w.heap.size) (hik:i<=k) (hk:k<=Q.row.length)  (hq:Q.tls[q]?=some (some p)) (hq1:q+1<Q.tls.length) (h0:ta q=(AB,0)):
  Calls Tryz.prog 107 #[ac Q.wb,ab q,ab i,ab k] w fun e w'=>e=.returned (.tuple #[])/\E5 Q w' B gi gn gq i k nm (AZ ta q (JM Q cn ct p q i k (k - (i+1))))/\A1 w w' [gq]:=by
 have c3:w.cell? (af Q.wb 3)=some (ae Q.gt Q.tls.length Q.ct):=(A0 hQ.blk).trans rfl;have c5:w.cell? (af Q.wb 5)=some (ae Q.gp (Q.row.length+1) (Q.row.length+1)):=(A0 hQ.blk).trans rfl;obtain⟨t0,_,_⟩:=hQ.tlc q _ hq;have t0:w.cell? (af Q.gt (q*3))=some (.bool false):=t0;have c6:=hC.pi;have c7:=hC.pq;have hqlt:q<Q.tls.length:=by omega
 have hgpB:=hC.gpB;have hgqB:=hC.gqB;have hr100:=hQ.r40;have htl:=hQ.tl20;have htc:=hQ.tlc2;have hpo:=hQ.pto q p hq;have HQ:Hid (∀V,Below B w V->Q.In V):=hid fun V hb=>hQ.below (hb.mono (by omega))
 have HK:Hid (∀V,Below B w V->KnP Q V B i k cn ct):=hid fun V hb=>hK.below hb hgpB
 have HC:Hid (E5 Q w B gi gn gq i k nm (AZ ta q (JM Q cn ct p q i k 0))):=hid (by
  have e:AZ ta q (JM Q cn ct p q i k 0)=ta:=by
   funext m;unfold AZ JM;split
   ·rename_i e;rw[e,h0]
   ·rfl
  rw[e];exact hC)
 have HS:Hid (∀V j,Below B w V->B<=V.heap.size->i<j->j<k->Calls Tryz.prog 126 #[ac Q.wb,ab q,ab i,ab j,ab k] V fun e w'=>e=.returned (wtV (D3 Q.T.N Q.row cn ct p q i j k))/\Below V.heap.size V w'):=hid fun V j hb hBV h1 h2=>
  R4 (hQ.below (hb.mono (by omega))) (B:=B) hq hq1 (by omega) (by omega) hk (fun n e=>(hK.below hb hgpB i j (by omega) (by omega) (.inr ⟨rfl,h2⟩)).1) (hK.below hb hgpB j k (by omega) hk (.inl h1)).2 hBV
   (TJ hQ.tab.fc.gr.ok hQ.rl hQ.r40 hcn hpo i j) (by have:=hct (q+1) j k;unfold AB FZ at this;exact⟨by omega,this.2⟩)
 obtain⟨L,hL⟩:=qF (Q.row.length+1);obtain⟨nQ,hnQ⟩:=qF (Q.tls.length);have HQL:Hid (q<Q.tls.length):=hid hqlt;have hiL:i<L:=by omega
 have hkL:k<L:=by omega
 have hL1:L<=101:=by omega
 rw[<-hL]at c5 c6;rw[<-hnQ]at c3 c7 hqlt htl htc;clear hQ hC hK hL hnQ hq hq1 hpo hcn hct h0
 go_enter Tryz.func107,Tryz.ntmps107
 go_wp2
 go_loopw [9] (fun z wr=>∃(m:Nat),m<=k - (i+1)/\z=ab (i+1+m:Nat)/\Hid (E5 Q wr B gi gn gq i k nm (AZ ta q (JM Q cn ct p q i k m)))/\Hid (A1 w wr [gq])) (fun z _=>k - (intOf z).toNat)
 case atStart=>exact⟨0,Nat.zero_le _,by go_num,HC,hid (A1.refl _ _)⟩
 case round=>
  obtain⟨m,hm,rfl,hcv,hkw⟩:=hrel;obtain⟨j,hj⟩:=qE (i+1+m);have HJ:=hid hj;have hj101:j<=202:=by omega
  have hjk:j<=k\/m=0:=by omega
  rw[hj];clear hj;have hbw:Below B w wr:=hkw.out.below hB (fun x hx=>by rw[mS.1 hx];exact hgqB);have hBr:B<=wr.heap.size:=lT_ hB hbw.size
  by_cases hlt:j<k
  ·have HS1:=hid (HS.out wr j hbw hBr (by have:=HJ.out;omega) hlt)
   obtain⟨Y,hY⟩:=qE (D3 Q.T.N Q.row cn ct p q i j k);rw[hY]at HS1;have HY:=hid hY;clear hY hbw
   go_wp2_with (first
    | (go_at_call 126;refine HS1.out.mono ?_;rintro e w2 ⟨rfl,hb2⟩;have HC2:=hid (hcv.out.keeps (A1.of_below hb2 []) hBr (by simp));have HB2:=hid hb2;have hs2:=hb2.size;clear hb2)
    | (go_at_call 81;refine(TW HC2.out (by omega) HQL.out Y).mono ?_;rintro e w3 ⟨rfl,hc3,hk3⟩;have H3:=hid (And.intro hc3 hk3);clear hc3 hk3))
   go_roundw
   case rel=>exact⟨m+1,by have:=HJ.out;omega,by have:=HJ.out;go_num,hid (by
    have h1:=H3.out.1;rw[MP,cW,<-HY.out,<-HJ.out]at h1;exact h1),hid ((hkw.out.trans (A1.of_below HB2.out _)).trans H3.out.2)⟩
   case measure=>simp[intOf];omega
  ·have HE:Hid (m=k - (i+1)):=hid (by have:=HJ.out;omega)
   go_wp2
   go_end0
   rw[<-HE.out];exact⟨rfl,hcv.out,hkw.out⟩
def tlF:List (Option Pt)->Option (List Pt)
 | []=>none
 |none::_=>some []
 |some p::r=>(tlF r).map (p:: ·)
def BK (tls:List (Option Pt)) (q:Nat):Option (List Pt):=tlF (tls.drop q)
def FI (hds:List (List Nat)) (n q:Nat):Prop:=∃l,hds[n]?=some l/\q∈l
def PH (tls:List (Option Pt)):Prop:=∀q,q<tls.length->∃l,BK tls q=some l
theorem fY  (h:tls[q]?=some none):BK tls q=some []:=by
 obtain⟨h1,h2⟩:=gS_.1 h;unfold BK;rw[List.drop_eq_getElem_cons h1,h2];rfl
theorem MR  (hk:PH tls)  (h:tls[q]?=some (some p)):q+1<tls.length/\∃ps,BK tls (q+1)=some ps/\BK tls q=some (p::ps):=by
 obtain⟨h1,h2⟩:=gS_.1 h;have h3:BK tls q=(BK tls (q+1)).map (p:: ·):=by
  unfold BK;rw[List.drop_eq_getElem_cons h1,h2];rfl
 obtain⟨l,hl⟩:=hk q h1;rw[h3]at hl;cases h4:BK tls (q+1)with
 |none=>rw[h4]at hl;cases hl
 |some ps=>
  refine⟨?_,ps,rfl,by rw[h3,h4];rfl⟩
  rcases Nat.lt_or_ge (q+1) tls.length with h5 |h5
  ·exact h5
  ·unfold BK at h4
   rw[List.drop_of_length_le h5]at h4;cases h4
theorem RW  (hk:PH tls) {l:List Pt} (h:BK tls q=some l):(l=[]/\tls[q]?=some none)\/∃p ps,l=p::ps/\tls[q]?=some (some p):=by
 rcases Nat.lt_or_ge q tls.length with h1 |h1
 ·have h2:=gE h1
  cases h3:tls[q]with
  |none=>
   rw[h3]at h2;rw[fY h2]at h;injection h with h
   exact .inl ⟨h.symm,h2⟩
  |some p=>
   rw[h3]at h2;obtain⟨_,ps,_,h4⟩:=MR hk h2;rw[h4]at h;injection h with h
   exact .inr ⟨p,ps,h.symm,h2⟩
 ·unfold BK at h
  rw[List.drop_of_length_le h1]at h;cases h
def muN (nN:Nat) (f:Nat->Wt):Nat:=((List.range nN).map fun n=>(f n).1*939524098+(f n).2).sum
theorem fU {f:Nat->Wt}{n:Nat}{v:Wt}:∀{nN:Nat},n<nN->v.1*939524098+v.2< (f n).1*939524098+(f n).2->muN nN (AZ f n v)<muN nN f
 |m+1,hn,h=>by
  unfold muN;rw[List.range_succ,List.map_append,List.map_append,List.sum_append,List.sum_append];simp only[List.map_cons,List.map_nil,List.sum_cons,List.sum_nil]
  by_cases e:n=m
  ·subst e
   have h1:((List.range n).map fun j=>(AZ f n v j).1*939524098+(AZ f n v j).2)=(List.range n).map fun j=>(f j).1*939524098+(f j).2:=by
    apply List.map_congr_left;intro j hj;have hj:=List.mem_range.1 hj;unfold AZ;rw[if_neg (by omega)]
   rw[h1,MP];omega
  ·have h1:=fU (f:=f) (n:=n) (v:=v) (nN:=m) (by omega) h
   unfold muN at h1;have h2:AZ f n v m=f m:=by unfold AZ;rw[if_neg (by omega)]
   rw[h2];omega
theorem uI {nN:Nat} (hn:n<nN) {y:Wt} (hy:y.2<=FZ) (h:wlt y (f n)):muN nN (AZ f n (BL (f n) y))<muN nN f:=by
 apply fU hn;rw[L4,if_pos h];unfold wlt at h;unfold FZ at hy
 rcases h with h | ⟨h1,h2⟩
 ·have h3:(y.1+1)*939524098<=(f n).1*939524098:=Nat.mul_le_mul_right _ h
  rw[Nat.add_mul,Nat.one_mul]at h3;omega
 ·rw[h1];omega
theorem fC {a:Wt} (h:¬wlt b a):wle a b:=by unfold wlt at h;unfold wle;omega
def U2 (L:Nat) (l:List Nat):Prop:=∃k,l++(List.range k).reverse=(List.range L).reverse
theorem U2.snoc {L x:Nat}{l:List Nat} (h:U2 L (l++ [x])):U2 L l/\l.length+x+1=L:=by
 obtain⟨k,h⟩:=h;have hlen:=congrArg List.length h;simp at hlen;rw[aA]at h;have h2:(List.range L).reverse=(List.range L).reverse.take l.length++(List.range (L - l.length)).reverse:=by
  have h3:(List.range L).reverse=((List.range L).drop (L - l.length)).reverse++((List.range L).take (L - l.length)).reverse:=by
   rw[<-List.reverse_append,List.take_append_drop]
  have h4:(List.range L).take (L - l.length)=List.range (L - l.length):=by
   rw[List.take_range,Nat.min_eq_left (by omega)]
  rw[h4]at h3;have h5:((List.range L).drop (L - l.length)).reverse.length=l.length:=by simp;omega
  conv=>lhs;rw[h3]
  congr 1
  rw[h3,List.take_left' h5]
 have h6:[x]++(List.range k).reverse=(List.range (L - l.length)).reverse:=by
  have h7:=congrArg (List.drop l.length) h;rw[List.drop_left,h2,List.drop_left' y2Z]at h7;exact h7
 have h8:L - l.length=k+1:=by omega
 rw[h8,LH]at h6;have h9:x=k:=by simpa using h6
 subst h9;refine⟨⟨x+1,?_⟩,by omega⟩;rw[LH];exact h
end Go.Proofs.YtjjggdcnpndgjabGreatDoor
