import Derived.Test.YtjjggdcnpndgjaaGreatDoorCJ27
set_option linter.unusedSimpArgs false
set_option maxHeartbeats 4000000
set_option maxRecDepth 100000
namespace Go.Proofs.YtjjggdcnpndgjaaGreatDoor
abbrev rj:=@Array.getElem?_setIfInBounds
open Go.RowKit Go.Shelf
variable {B i k n q:Nat}{Q:Aq}{b:Wt}{cn ct:Nat->Nat->Nat->Wt}{f:Nat->Wt}{p:Pt}{zK:List (Option Pt)}{w:World}
section
structure EF (Q:Aq) (w:World) (B gi gn gq i k:Nat) (nm ta:Nat->Wt):Prop where
 pi:w.cell? (af Q.gp i)=some (ae gi (Q.row.length+1) (Q.row.length+1))
 pn:w.cell? (af gi (k*2))=some (ae gn Q.T.N.nN Q.T.N.nN)
 pq:w.cell? (af gi (k*2+1))=some (ae gq Q.zK.length Q.zK.length)
 Qg:Q.gp<B
 Qx:gi<B
 Xm:B<=gn
 Sz:B<=gq
 ne:gn≠gq
 Qh:gn<w.heap.size
 Ta:gq<w.heap.size
 Qi:IK w gn Q.T.N.nN nm
 tac:IK w gq Q.zK.length ta
 nmf:∀j,w.frozen? (af gn j)=false
 Xn:∀j,w.frozen? (af gq j)=false
def Oi (Q:Aq) (w:World) (B i k:Nat) (cn ct:Nat->Nat->Nat->Wt):Prop:=∀a b,a<=b->b<=Q.row.length->(i<a\/a=i/\b<k)->Jn Q w B a b (λn=>cn n a b)/\Oh Q w B a b (λq=>ct q a b)
theorem Oi.below {w':World} (h:Oi Q w B i k cn ct) (hb:Below B w w') (hg:Q.gp<B):Oi Q w' B i k cn ct:=λa b h1 h2 h3=>⟨(h a b h1 h2 h3).1.below hb hg,(h a b h1 h2 h3).2.below hb hg⟩
def Hu (f:Nat->Nat->Nat->Wt):Prop:=∀n a b,(f n a b).1<=AJ/\(f n a b).2<=GH
def GE (f:Nat->Wt):Prop:=∀n,(f n).1<=AJ/\(f n).2<=GH
theorem Hu.put {f:Nat->Nat->Nat->Wt}{g:Nat->Wt} (h:Hu f) (hg:GE g) (i k:Nat):Hu (AP f i k g):=λn a b=>by
 unfold AP;split
 ·exact hg n
 ·exact h n a b
theorem iD {a:Wt} (h:a.1<=AJ/\a.2<=GH) (hb:b.2<=GH):(BS a b).1<=AJ/\(BS a b).2<=GH:=by
 refine⟨zV (KK (RF a b)) h.1,?_⟩
 rcases SM a b with e |e
 ·rw[e];exact h.2
 ·rw[e];exact hb
theorem GE.set  (h:GE f) (n:Nat)  (hb:b.2<=GH):GE (BA f n (BS (f n) b)):=λm=>by
 unfold BA;split
 ·exact iD (h n) hb
 ·exact h m
theorem O0 (a b:Wt):(GO a b).2<=GH:=by unfold GO;simp only;omega
theorem LR (a b:Wt):BS a b=if At b a then b else a:=by
 unfold BS
 by_cases h:At b a
 ·rw[ay h,ay]
  unfold At at h;unfold WJ;simp only[oq,gz,ir];exact h
 ·rw[aq h,aq]
  unfold At at h;unfold WJ;simp only[oq,gz,ir];exact h
theorem IK.put {g:Nat} (h:IK w g n f)  (hq:q<n) (y:Wt):
  IK ((w.setCell (af g (q*2)) (ab y.1)).setCell (af g (q*2+1)) (ab y.2)) g n (BA f q y):=by
 obtain⟨c,hc⟩:=h q hq;have hblk:∃cs e fr,w.heap[g]?=some (.cells cs e fr):=by
  simp only[World.cell?]at c;cases ho:w.heap[g]? with
  |none=>rw[ho]at c;cases c
  |some o=>
   cases o with
   |cells cs e fr=>exact⟨cs,e,fr,rfl⟩
   |_=>rw[ho]at c;cases c
 obtain⟨cs,e,fr,hb⟩:=hblk;have hb2:=AA (j:=q*2+1) (AA (j:=q*2) hb (ab y.1)) (ab y.2);have hcs:∀j,w.cell? (af g j)=cs[j]?:=λj=>A0 hb
 have Mo:q*2+1<cs.size:=by
  rw[hcs]at hc;exact(ng.1 hc).1
 intro i hi;rw[A0 hb2,A0 hb2];unfold BA
 by_cases ei:i=q
 ·subst ei
  rw[ay rfl];refine⟨?_,?_⟩
  ·rw[eu (by omega),rj,ay rfl,ay (by omega)]
  ·rw[rj,ay rfl,ay zG]
 ·rw[aq ei]
  obtain⟨h1,h2⟩:=h i hi;rw[hcs]at h1 h2;refine⟨?_,?_⟩
  ·rw[eu (by omega),eu (by omega)];exact h1
  ·rw[eu (by omega),eu (by omega)];exact h2
section
variable {Q:Aq}{w:World}{B gi gn gq i k:Nat}{nm ta:Nat->Wt}
theorem EF.keeps {w':World}{S:List Nat} (h:EF Q w B gi gn gq i k nm ta) (hk:A5 w w' S) (hB:B<=w.heap.size) (hS:∀q∈S,B<=q/\q≠gn/\q≠gq):EF Q w' B gi gn gq i k nm ta:=by
 have hb:Below B w w':=hk.below hB (λq hq=>(hS q hq).1);have e1:w'.heap[gn]?=w.heap[gn]?:=hk.block gn h.Qh (λhm=>(hS gn hm).2.1 rfl);have e2:w'.heap[gq]?=w.heap[gq]?:=hk.block gq h.Ta (λhm=>(hS gq hm).2.2 rfl);exact⟨(hb.cell (by exact h.Qg)).trans h.pi,(hb.cell aaN).trans h.pn,(hb.cell aaN).trans h.pq,h.Qg,h.Qx,h.Xm,h.Sz,h.ne,lL h.Qh hk.size,lL h.Ta hk.size,
  λj hj=>⟨(jh e1).trans (h.Qi j hj).1,(jh e1).trans (h.Qi j hj).2⟩,λj hj=>⟨(jh e2).trans (h.tac j hj).1,(jh e2).trans (h.tac j hj).2⟩,
  λj=>(og e1).trans (h.nmf j),λj=>(og e2).trans (h.Xn j)⟩
theorem TX (h:EF Q w B gi gn gq i k nm ta) (hB:B<=w.heap.size)  (hq:q<Q.zK.length) (y:Wt):
  Calls Tryz.prog 191 #[.pointer (some (af gq (q*2))),Dt y] w λe w'=>e=.returned (.bool (decide (At y (ta q))))/\EF Q w' B gi gn gq i k nm (BA ta q (BS (ta q) y))/\A5 w w' [gq]:=by
 obtain⟨c1,c2⟩:=h.tac q hq;obtain⟨y1,y2⟩:=y;refine(RR gq (q*2) _ _ y1 y2 w c1 c2 h.Xn).mono ?_;rintro e w' ⟨rfl,w1,hb,hw⟩;have h1:EF Q w1 B gi gn gq i k nm ta:=h.keeps (A5.zQ hb []) hB (by simp);refine⟨rfl,?_⟩;rw[LR]
 by_cases hl:At (y1,y2) ((ta q).1,(ta q).2)
 ·rw[ay hl]at hw
  have hl2:At (y1,y2) (ta q):=hl;rw[ay hl2];subst hw;have hk:A5 w1 ((w1.setCell (af gq (q*2)) (ab y1)).setCell (af gq (q*2+1)) (ab y2)) [gq]:=((A5.refl w1 [gq]).setCell (by simp) _).setCell (by simp) _;refine⟨?_,(A5.zQ hb [gq]).trans hk⟩;have He:B<=w1.heap.size:=zV hB hb.size;have Fj:Below B w1 ((w1.setCell (af gq (q*2)) (ab y1)).setCell (af gq (q*2+1)) (ab y2)):=hk.below He (λx hx=>by rw[mS.1 hx];exact h.Sz);have e1:=hk.block gn h1.Qh acI;have hf:∀j,((w1.setCell (af gq (q*2)) (ab y1)).setCell (af gq (q*2+1)) (ab y2)).frozen? (af gq j)=w1.frozen? (af gq j):=λj=>by simp
  exact⟨(Fj.cell (by exact h.Qg)).trans h1.pi,(Fj.cell aaN).trans h1.pn,(Fj.cell aaN).trans h1.pq,h.Qg,h.Qx,h.Xm,h.Sz,h.ne,lL h1.Qh hk.size,lL h1.Ta hk.size,
   λj hj=>⟨(jh e1).trans (h1.Qi j hj).1,(jh e1).trans (h1.Qi j hj).2⟩,h1.tac.put hq (y1,y2),λj=>(og e1).trans (h1.nmf j),λj=>(hf j).trans (h1.Xn j)⟩
 ·rw[aq hl]at hw
  have hl2:¬At (y1,y2) (ta q):=hl;rw[aq hl2];subst hw;have e:BA ta q (ta q)=ta:=by funext m;unfold BA;split <;> simp_all
  rw[e];exact⟨h1,A5.zQ hb _⟩
theorem EF.ajG (h1:EF Q w B gi gn gq i k nm ta) (hB:B<=w.heap.size)  (hq:q<Q.zK.length) (y:Wt):
  EF Q ((w.setCell (af gq (q*2)) (ab y.1)).setCell (af gq (q*2+1)) (ab y.2)) B gi gn gq i k nm (BA ta q y)/\A5 w ((w.setCell (af gq (q*2)) (ab y.1)).setCell (af gq (q*2+1)) (ab y.2)) [gq]:=by
 have hk:A5 w ((w.setCell (af gq (q*2)) (ab y.1)).setCell (af gq (q*2+1)) (ab y.2)) [gq]:=((A5.refl w [gq]).setCell (by simp) _).setCell (by simp) _;have Fj:=hk.below hB (λx hx=>by rw[mS.1 hx];exact h1.Sz);have e1:=hk.block gn h1.Qh (by simpa using h1.ne);have hf:∀j,((w.setCell (af gq (q*2)) (ab y.1)).setCell (af gq (q*2+1)) (ab y.2)).frozen? (af gq j)=w.frozen? (af gq j):=λj=>by simp
 exact⟨⟨(Fj.cell (by exact h1.Qg)).trans h1.pi,(Fj.cell (by exact h1.Qx)).trans h1.pn,(Fj.cell (by exact h1.Qx)).trans h1.pq,h1.Qg,h1.Qx,h1.Xm,h1.Sz,h1.ne,lL h1.Qh hk.size,lL h1.Ta hk.size,
   λj hj=>⟨(jh e1).trans (h1.Qi j hj).1,(jh e1).trans (h1.Qi j hj).2⟩,h1.tac.put hq y,λj=>(og e1).trans (h1.nmf j),λj=>(hf j).trans (h1.Xn j)⟩,hk⟩
theorem sU (h:EF Q w B gi gn gq i k nm ta) (hB:B<=w.heap.size)  (hn:n<Q.T.N.nN) (y:Wt):
  Calls Tryz.prog 191 #[.pointer (some (af gn (n*2))),Dt y] w λe w'=>e=.returned (.bool (decide (At y (nm n))))/\EF Q w' B gi gn gq i k (BA nm n (BS (nm n) y)) ta/\A5 w w' [gn]:=by
 obtain⟨c1,c2⟩:=h.Qi n hn;obtain⟨y1,y2⟩:=y;refine(RR gn (n*2) _ _ y1 y2 w c1 c2 h.nmf).mono ?_;rintro e w' ⟨rfl,w1,hb,hw⟩;have h1:EF Q w1 B gi gn gq i k nm ta:=h.keeps (A5.zQ hb []) hB (by simp);refine⟨rfl,?_⟩;rw[LR]
 by_cases hl:At (y1,y2) ((nm n).1,(nm n).2)
 ·rw[ay hl]at hw
  have hl2:At (y1,y2) (nm n):=hl;rw[ay hl2];subst hw;have hk:A5 w1 ((w1.setCell (af gn (n*2)) (ab y1)).setCell (af gn (n*2+1)) (ab y2)) [gn]:=((A5.refl w1 [gn]).setCell (by simp) _).setCell (by simp) _;refine⟨?_,(A5.zQ hb [gn]).trans hk⟩;have He:B<=w1.heap.size:=zV hB hb.size;have Fj:Below B w1 ((w1.setCell (af gn (n*2)) (ab y1)).setCell (af gn (n*2+1)) (ab y2)):=hk.below He (λx hx=>by rw[mS.1 hx];exact h.Xm);have e1:=hk.block gq h1.Ta (by simpa using yB h.ne);have hf:∀j,((w1.setCell (af gn (n*2)) (ab y1)).setCell (af gn (n*2+1)) (ab y2)).frozen? (af gn j)=w1.frozen? (af gn j):=λj=>by simp
  exact⟨(Fj.cell (by exact h.Qg)).trans h1.pi,(Fj.cell aaN).trans h1.pn,(Fj.cell aaN).trans h1.pq,h.Qg,h.Qx,h.Xm,h.Sz,h.ne,lL h1.Qh hk.size,lL h1.Ta hk.size,
   h1.Qi.put hn (y1,y2),λj hj=>⟨(jh e1).trans (h1.tac j hj).1,(jh e1).trans (h1.tac j hj).2⟩,λj=>(hf j).trans (h1.nmf j),λj=>(og e1).trans (h1.Xn j)⟩
 ·rw[aq hl]at hw
  have hl2:¬At (y1,y2) (nm n):=hl;rw[aq hl2];subst hw;have e:BA nm n (nm n)=nm:=by funext m;unfold BA;split <;> simp_all
  rw[e];exact⟨h1,A5.zQ hb _⟩
theorem x8  (hK:Oi Q w B i k cn ct) (hC:EF Q w B gi gn gq i k nm ta) (hB:B<=w.heap.size) (hk:k<=Q.row.length) {j:Nat} (h1:i<=j) (h2:j<=k):Jn Q w w.heap.size i j (λn=>AP cn i k nm n i j):=by
 by_cases e:j=k
 ·subst e
  have hf:(λn=>AP cn i j nm n i j)=nm:=by funext n;unfold AP;rw[ay ⟨rfl,rfl⟩]
  rw[hf];exact⟨gi,gn,by have:=hC.Qx;omega,hC.Qh,hC.pi,hC.pn,hC.Qi⟩
 ·have hf:(λn=>AP cn i k nm n i j)=λn=>cn n i j:=by funext n;unfold AP;rw[aq (by omega)]
  rw[hf];obtain⟨Sy,gn',z1,z2,z3⟩:=(hK i j h1 (by omega) (.inr ⟨rfl,by omega⟩)).1;exact⟨Sy,gn',by omega,by omega,z3⟩
theorem x5  (hK:Oi Q w B i k cn ct) (hC:EF Q w B gi gn gq i k nm ta) (hB:B<=w.heap.size) (hk:k<=Q.row.length) {j:Nat} (h1:i<=j) (h2:j<=k):Oh Q w w.heap.size j k (λq=>AP ct i k ta q j k):=by
 by_cases e:j=i
 ·subst e
  have hf:(λq=>AP ct j k ta q j k)=ta:=by funext n;unfold AP;rw[ay ⟨rfl,rfl⟩]
  rw[hf];exact⟨gi,gq,by have:=hC.Qx;omega,hC.Ta,hC.pi,hC.pq,hC.tac⟩
 ·have hf:(λq=>AP ct i k ta q j k)=λq=>ct q j k:=by funext n;unfold AP;rw[aq (by omega)]
  rw[hf];obtain⟨Sy,gn',z1,z2,z3⟩:=(hK j k h2 hk (.inl (by omega))).2;exact⟨Sy,gn',by omega,by omega,z3⟩
end
theorem UF  (hN:Q.T.N.Ok) (hr:∀x∈Q.row,x<Q.T.N.nT) (Jp:Q.row.length<=100)  (hc:Hu cn)  (hp:JQ Q.T.N p) (i k:Nat):WOk (D9 Q.T.N Q.row cn p i k):=by
 cases p with
 |zi n=>
  have:=hc n i k;unfold AJ GH at this;exact⟨by show(cn n i k).1<=_;omega,this.2⟩
 |tok t=>
  show WOk (G9 Q.T.N Q.row t i k);unfold G9;split
  ·have:=hN.Za t hp
   exact⟨by simp only;omega,by simp⟩
  ·refine⟨?_,by simp⟩
   simp only;have h1:EH Q.T.N Q.row i (k - 1)<=9900:=by
    rcases Nat.le_total i (k - 1)with h |h
    ·have h2:=(NP (N:=Q.T.N) Q.row h).2
     have h3:=K1 hN hr Jp (k - 1);omega
    ·unfold EH
     rw[show k - 1 - i=0 by omega,uu];simp[AY]
   have h2:FQ Q.T.N (Q.row.getD (k - 1) 0) t<=1048576:=by
    unfold FQ KB
    by_cases h1:Q.row.getD (k - 1) 0=t
    ·rw[ay h1];simp
    ·rw[aq h1]
     by_cases h2:Q.T.N.swp (Q.row.getD (k - 1) 0) t=0
     ·rw[ay h2];exact zn _
     ·rw[aq h2]
      have:=hN.acN (Q.row.getD (k - 1) 0) t;simp only[jq];omega
   omega
end
def JY (Q:Aq) (cn ct:Nat->Nat->Nat->Wt) (p:Pt) (q i k:Nat):Nat->Wt
 |0=>(AJ,0)
 |m+1=>BS (JY Q cn ct p q i k m) (DE Q.T.N Q.row cn ct p q i (i+1+m) k)
theorem bZ (Q:Aq) (cn ct:Nat->Nat->Nat->Wt) (p:Pt) (q i k:Nat):∀m,(JY Q cn ct p q i k m).1<=AJ/\(JY Q cn ct p q i k m).2<=GH
 |0=>⟨zn _,dh _⟩
 |m+1=>iD (bZ Q cn ct p q i k m) (O0 _ _)
theorem aM (f:Nat->Wt) (q:Nat) (a b:Wt):BA (BA f q a) q b=BA f q b:=by
 funext m;unfold BA;split <;> rfl
theorem N0 (f:Nat->Wt) (q:Nat) (a:Wt):BA f q a q=a:=by unfold BA;rw[ay rfl]
theorem vY  (hQ:Q.In w) {gi gn gq:Nat}{nm ta:Nat->Wt} (hC:EF Q w B gi gn gq i k nm ta) (hB:B<=w.heap.size) (hik:i<=k) (hk:k<=Q.row.length) (hq:Q.zK[q]?=some none):
  Calls Tryz.prog 217 #[ac Q.wb,ab q,ab i,ab k] w λe w'=>e=.returned (.tuple #[])/\EF Q w' B gi gn gq i k nm (BA ta q (if i=k then(0,0)else ta q))/\A5 w w' [gq]:=by
 have c3:w.cell? (af Q.wb 3)=some (ae Q.gt Q.zK.length Q.ct):=(A0 hQ.blk).trans rfl;have c5:w.cell? (af Q.wb 5)=some (ae Q.gp (Q.row.length+1) (Q.row.length+1)):=(A0 hQ.blk).trans rfl;obtain⟨t0,_,_⟩:=hQ.Sv q _ hq;have t0:w.cell? (af Q.gt (q*3))=some (.bool true):=t0;have c6:=hC.pi;have c7:=hC.pq;have aah:q<Q.zK.length:=(zM.1 hq).1;obtain⟨a0,a1⟩:=hC.tac q aah;have u0:=hC.Xn (q*2);have u1:=hC.Xn (q*2+1);have Kh:=hQ.Gi;have Dh:=hQ.Sw;have Qf:=hQ.Sx;have HP:=hid (hC.ajG hB aah (0,0));have HC:=hid hC;obtain⟨L,hL⟩:=qF (Q.row.length+1);obtain⟨nQ,Fq⟩:=qF (Q.zK.length);have hiL:i<L:=by omega
 have hkL:k<L:=by omega
 have Fh:L<=101:=by omega
 rw[<-hL]at c5 c6;rw[<-Fq]at c3 c7 aah Dh Qf;obtain⟨x1,hx1⟩:=qE ((ta q).1);obtain⟨x2,hx2⟩:=qE ((ta q).2);rw[hx1]at a0;rw[hx2]at a1;clear hQ hC hL Fq hx1 hx2 hq
 by_cases e:i=k
 ·rw[ay e]
  subst e;clear HC
  go_enter Tryz.func217,Tryz.ntmps217
  go_wp2;exact⟨rfl,_,qz rfl _ _ _,rfl,HP.out⟩
 ·rw[aq e]
  have hne:((i:Int)==(k:Int))=false:=by rw[mh];omega
  have e2:BA ta q (ta q)=ta:=by funext m;unfold BA;split <;> simp_all
  rw[e2];clear e2 HP e
  go_enter Tryz.func217,Tryz.ntmps217
  go_wp2;exact⟨rfl,_,qz rfl _ _ _,rfl,HC.out,A5.refl _ _⟩
theorem qQ  (hQ:Q.In w) {gi gn gq:Nat}{nm ta:Nat->Wt} (hC:EF Q w B gi gn gq i k nm ta) (hK:Oi Q w B i k cn ct) (Gp:Hu cn) (hct:Hu ct) (hB:B<=w.heap.size) (hik:i<=k) (hk:k<=Q.row.length)  (hq:Q.zK[q]?=some (some p)) (Kb:q+1<Q.zK.length) (h0:ta q=(AJ,0)):
  Calls Tryz.prog 217 #[ac Q.wb,ab q,ab i,ab k] w λe w'=>e=.returned (.tuple #[])/\EF Q w' B gi gn gq i k nm (BA ta q (JY Q cn ct p q i k (k - (i+1))))/\A5 w w' [gq]:=by
 have c3:w.cell? (af Q.wb 3)=some (ae Q.gt Q.zK.length Q.ct):=(A0 hQ.blk).trans rfl;have c5:w.cell? (af Q.wb 5)=some (ae Q.gp (Q.row.length+1) (Q.row.length+1)):=(A0 hQ.blk).trans rfl;obtain⟨t0,_,_⟩:=hQ.Sv q _ hq;have t0:w.cell? (af Q.gt (q*3))=some (.bool false):=t0;have c6:=hC.pi;have c7:=hC.pq;have aah:q<Q.zK.length:=by omega
 have Vd:=hC.Qg;have Kw:=hC.Sz;have Kh:=hQ.Gi;have Dh:=hQ.Sw;have Qf:=hQ.Sx;have Dc:=hQ.Xl q p hq;have HQ:Hid (∀V,Below B w V->Q.In V):=hid λV hb=>hQ.below (hb.mono (by omega))
 have HK:Hid (∀V,Below B w V->Oi Q V B i k cn ct):=hid λV hb=>hK.below hb Vd
 have HC:Hid (EF Q w B gi gn gq i k nm (BA ta q (JY Q cn ct p q i k 0))):=hid (by
  have e:BA ta q (JY Q cn ct p q i k 0)=ta:=by
   funext m;unfold BA JY;split
   ·rename_i e;rw[e,h0]
   ·rfl
  rw[e];exact hC)
 have HS:Hid (∀V j,Below B w V->B<=V.heap.size->i<j->j<k->Calls Tryz.prog 234 #[ac Q.wb,ab q,ab i,ab j,ab k] V λe w'=>e=.returned (Dt (DE Q.T.N Q.row cn ct p q i j k))/\Below V.heap.size V w'):=hid λV j hb hBV h1 h2=>
  S8 (hQ.below (hb.mono (by omega))) (B:=B) hq Kb (by omega) (by omega) hk (λn e=>(hK.below hb Vd i j (by omega) (by omega) (.inr ⟨rfl,h2⟩)).1) (hK.below hb Vd j k (by omega) hk (.inl h1)).2 hBV
   (UF hQ.tab.fc.gr.ok hQ.rl hQ.Gi Gp Dc i j) (by have:=hct (q+1) j k;unfold AJ GH at this;exact⟨by omega,this.2⟩)
 obtain⟨L,hL⟩:=qF (Q.row.length+1);obtain⟨nQ,Fq⟩:=qF (Q.zK.length);have Qj:Hid (q<Q.zK.length):=hid aah;have hiL:i<L:=by omega
 have hkL:k<L:=by omega
 have Fh:L<=101:=by omega
 rw[<-hL]at c5 c6;rw[<-Fq]at c3 c7 aah Dh Qf;clear hQ hC hK hL Fq hq Kb Dc Gp hct h0
 go_enter Tryz.func217,Tryz.ntmps217
 go_wp2
 go_loopw [9] (λz wr=>∃(m:Nat),m<=k - (i+1)/\z=ab (i+1+m:Nat)/\Hid (EF Q wr B gi gn gq i k nm (BA ta q (JY Q cn ct p q i k m)))/\Hid (A5 w wr [gq])) (λz _=>k - (intOf z).toNat)
 case atStart=>exact⟨0,dh _,by go_num,HC,hid (A5.refl _ _)⟩
 case round=>
  obtain⟨m,hm,rfl,hcv,zW⟩:=hrel;obtain⟨j,hj⟩:=qE (i+1+m);have HJ:=hid hj;have al1:j<=202:=by omega
  have hjk:j<=k\/m=0:=by omega
  rw[hj];clear hj;have zX:Below B w wr:=zW.out.below hB (λx hx=>by rw[mS.1 hx];exact Kw);have Ga:B<=wr.heap.size:=zV hB zX.size
  by_cases hlt:j<k
  ·have HS1:=hid (HS.out wr j zX Ga (by have:=HJ.out;omega) hlt)
   obtain⟨Y,hY⟩:=qE (DE Q.T.N Q.row cn ct p q i j k);rw[hY]at HS1;have HY:=hid hY;clear hY zX
   go_wp2_with (first
    | (go_at_call 234;refine HS1.out.mono ?_;rintro e w2 ⟨rfl,hb2⟩;have Rg:=hid (hcv.out.keeps (A5.zQ hb2 []) Ga (by simp));have zO:=hid hb2;have hs2:=hb2.size;clear hb2)
    | (go_at_call 191;refine(TX Rg.out (by omega) Qj.out Y).mono ?_;rintro e w3 ⟨rfl,hc3,hk3⟩;have H3:=hid (And.intro hc3 hk3);clear hc3 hk3))
   go_roundw
   case rel=>exact⟨m+1,by have:=HJ.out;omega,by have:=HJ.out;go_num,hid (by
    have h1:=H3.out.1;rw[N0,aM,<-HY.out,<-HJ.out]at h1;exact h1),hid ((zW.out.trans (A5.zQ zO.out _)).trans H3.out.2)⟩
   case measure=>simp[intOf];omega
  ·have HE:Hid (m=k - (i+1)):=hid (by have:=HJ.out;omega)
   go_wp2
   go_end0
   rw[<-HE.out];exact⟨rfl,hcv.out,zW.out⟩
def Oj:List (Option Pt)->Option (List Pt)
 | []=>none
 |none::_=>some []
 |some p::r=>(Oj r).map (p:: ·)
def BR (zK:List (Option Pt)) (q:Nat):Option (List Pt):=Oj (zK.drop q)
def FY (hds:List (List Nat)) (n q:Nat):Prop:=∃l,hds[n]?=some l/\q∈l
def PF (zK:List (Option Pt)):Prop:=∀q,q<zK.length->∃l,BR zK q=some l
theorem gU  (h:zK[q]?=some none):BR zK q=some []:=by
 obtain⟨h1,h2⟩:=zM.1 h;unfold BR;rw[gm h1,h2];rfl
theorem MZ  (hk:PF zK)  (h:zK[q]?=some (some p)):q+1<zK.length/\∃ps,BR zK (q+1)=some ps/\BR zK q=some (p::ps):=by
 obtain⟨h1,h2⟩:=zM.1 h;have h3:BR zK q=(BR zK (q+1)).map (p:: ·):=by
  unfold BR;rw[gm h1,h2];rfl
 obtain⟨l,hl⟩:=hk q h1;rw[h3]at hl;cases h4:BR zK (q+1)with
 |none=>rw[h4]at hl;cases hl
 |some ps=>
  refine⟨?_,ps,rfl,by rw[h3,h4];rfl⟩
  rcases jz (q+1) zK.length with h5 |h5
  ·exact h5
  ·unfold BR at h4
   rw[qu h5]at h4;cases h4
theorem SJ  (hk:PF zK) {l:List Pt} (h:BR zK q=some l):(l=[]/\zK[q]?=some none)\/∃p ps,l=p::ps/\zK[q]?=some (some p):=by
 rcases jz q zK.length with h1 |h1
 ·have h2:=gE h1
  cases h3:zK[q]with
  |none=>
   rw[h3]at h2;rw[gU h2]at h;injection h with h
   exact .inl ⟨h.symm,h2⟩
  |some p=>
   rw[h3]at h2;obtain⟨_,ps,_,h4⟩:=MZ hk h2;rw[h4]at h;injection h with h
   exact .inr ⟨p,ps,h.symm,h2⟩
 ·unfold BR at h
  rw[qu h1]at h;cases h
def Hv (nN:Nat) (f:Nat->Wt):Nat:=((List.range nN).map λn=>(f n).1*939524098+(f n).2).sum
theorem i7 {f:Nat->Wt}{n:Nat}{v:Wt}:∀{nN:Nat},n<nN->v.1*939524098+v.2< (f n).1*939524098+(f n).2->Hv nN (BA f n v)<Hv nN f
 |m+1,hn,h=>by
  unfold Hv;rw[uw,fq,fq,List.sum_append,List.sum_append];simp only[jx,um,List.sum_cons,List.sum_nil]
  by_cases e:n=m
  ·subst e
   have h1:((List.range n).map λj=>(BA f n v j).1*939524098+(BA f n v j).2)=(List.range n).map λj=>(f j).1*939524098+(f j).2:=by
    apply mj;intro j hj;have hj:=jc.1 hj;unfold BA;rw[aq (by omega)]
   rw[h1,N0];omega
  ·have h1:=i7 (f:=f) (n:=n) (v:=v) (nN:=m) (by omega) h
   unfold Hv at h1;have h2:BA f n v m=f m:=by unfold BA;rw[aq (by omega)]
   rw[h2];omega
theorem vK {nN:Nat} (hn:n<nN) {y:Wt} (hy:y.2<=GH) (h:At y (f n)):Hv nN (BA f n (BS (f n) y))<Hv nN f:=by
 apply i7 hn;rw[LR,ay h];unfold At at h;unfold GH at hy
 rcases h with h | ⟨h1,h2⟩
 ·have h3:(y.1+1)*939524098<=(f n).1*939524098:=oy _ h
  rw[Nat.add_mul,Nat.one_mul]at h3;omega
 ·rw[h1];omega
theorem gB {a:Wt} (h:¬At b a):Ao a b:=by unfold At at h;unfold Ao;omega
def UG (L:Nat) (l:List Nat):Prop:=∃k,l++(List.range k).reverse=(List.range L).reverse
theorem UG.snoc {L x:Nat}{l:List Nat} (h:UG L (l++ [x])):UG L l/\l.length+x+1=L:=by
 obtain⟨k,h⟩:=h;have hlen:=congrArg List.length h;simp at hlen;rw[aA]at h;have h2:(List.range L).reverse=(List.range L).reverse.take l.length++(List.range (L - l.length)).reverse:=by
  have h3:(List.range L).reverse=((List.range L).drop (L - l.length)).reverse++((List.range L).take (L - l.length)).reverse:=by
   rw[<-List.reverse_append,td]
  have h4:(List.range L).take (L - l.length)=List.range (L - l.length):=by
   rw[List.take_range,vu (by omega)]
  rw[h4]at h3;have h5:((List.range L).drop (L - l.length)).reverse.length=l.length:=by simp;omega
  conv=>lhs;rw[h3]
  congr 1
  rw[h3,List.take_left' h5]
 have h6:[x]++(List.range k).reverse=(List.range (L - l.length)).reverse:=by
  have h7:=congrArg (List.drop l.length) h;rw[zk,h2,List.drop_left' zG]at h7;exact h7
 have h8:L - l.length=k+1:=by omega
 rw[h8,LL]at h6;have h9:x=k:=by simpa using h6
 subst h9;refine⟨⟨x+1,?_⟩,by omega⟩;rw[LL];exact h
end Go.Proofs.YtjjggdcnpndgjaaGreatDoor
