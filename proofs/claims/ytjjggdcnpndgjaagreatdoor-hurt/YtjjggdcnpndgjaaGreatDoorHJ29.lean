import Derived.Test.YtjjggdcnpndgjaaGreatDoorHJ28
set_option linter.unusedSimpArgs false
set_option maxHeartbeats 4000000
set_option maxRecDepth 100000
namespace Go.Proofs.YtjjggdcnpndgjaaGreatDoor
abbrev qm:=@Array.getElem?_setIfInBounds
open Go.RowKit Go.Shelf
variable {B i k n q:Nat}{Q:zu}{b:Wt}{cn ct:Nat->Nat->Nat->Wt}{f:Nat->Wt}{p:Pt}{yQ:List (Option Pt)}{w:World}
section
structure DZ (Q:zu) (w:World) (B gi gn gq i k:Nat) (nm ta:Nat->Wt):Prop where
 pi:w.cell? (af Q.gp i)=some (ae gi (Q.row.length+1) (Q.row.length+1))
 pn:w.cell? (af gi (k*2))=some (ae gn Q.T.N.nN Q.T.N.nN)
 pq:w.cell? (af gi (k*2+1))=some (ae gq Q.yQ.length Q.yQ.length)
 Od:Q.gp<B
 Ox:gi<B
 Uq:B<=gn
 Qo:B<=gq
 ne:gn≠gq
 Oe:gn<w.heap.size
 Qp:gq<w.heap.size
 Og:I3 w gn Q.T.N.nN nm
 tac:I3 w gq Q.yQ.length ta
 nmf:∀j,w.frozen? (af gn j)=false
 Ur:∀j,w.frozen? (af gq j)=false
def Mr (Q:zu) (w:World) (B i k:Nat) (cn ct:Nat->Nat->Nat->Wt):Prop:=∀a b,a<=b->b<=Q.row.length->(i<a\/a=i/\b<k)->Gv Q w B a b (λn=>cn n a b)/\Mq Q w B a b (λq=>ct q a b)
theorem Mr.below {w':World} (h:Mr Q w B i k cn ct) (hb:Below B w w') (hg:Q.gp<B):Mr Q w' B i k cn ct:=λa b h1 h2 h3=>⟨(h a b h1 h2 h3).1.below hb hg,(h a b h1 h2 h3).2.below hb hg⟩
def Fl (f:Nat->Nat->Nat->Wt):Prop:=∀n a b,(f n a b).1<=AC/\(f n a b).2<=FZ
def FX (f:Nat->Wt):Prop:=∀n,(f n).1<=AC/\(f n).2<=FZ
theorem Fl.put {f:Nat->Nat->Nat->Wt}{g:Nat->Wt} (h:Fl f) (hg:FX g) (i k:Nat):Fl (AK f i k g):=λn a b=>by
 unfold AK;split
 ·exact hg n
 ·exact h n a b
theorem fT {a:Wt} (h:a.1<=AC/\a.2<=FZ) (hb:b.2<=FZ):(BK a b).1<=AC/\(BK a b).2<=FZ:=by
 refine⟨y5 (K9 (QM a b)) h.1,?_⟩
 rcases S4 a b with e |e
 ·rw[e];exact h.2
 ·rw[e];exact hb
theorem FX.set  (h:FX f) (n:Nat)  (hb:b.2<=FZ):FX (AY f n (BK (f n) b)):=λm=>by
 unfold AY;split
 ·exact fT (h n) hb
 ·exact h m
theorem NL (a b:Wt):(GD a b).2<=FZ:=by unfold GD;simp only;omega
theorem LA (a b:Wt):BK a b=if zG b a then b else a:=by
 unfold BK
 by_cases h:zG b a
 ·rw[aq h,aq]
  unfold zG at h;unfold U3;simp only[oa,fu,ia];exact h
 ·rw[au h,au]
  unfold zG at h;unfold U3;simp only[oa,fu,ia];exact h
theorem I3.put {g:Nat} (h:I3 w g n f)  (hq:q<n) (y:Wt):
  I3 ((w.setCell (af g (q*2)) (ab y.1)).setCell (af g (q*2+1)) (ab y.2)) g n (AY f q y):=by
 obtain⟨c,hc⟩:=h q hq;have hblk:∃cs e fr,w.heap[g]?=some (.cells cs e fr):=by
  simp only[World.cell?]at c;cases ho:w.heap[g]? with
  |none=>rw[ho]at c;cases c
  |some o=>
   cases o with
   |cells cs e fr=>exact⟨cs,e,fr,rfl⟩
   |_=>rw[ho]at c;cases c
 obtain⟨cs,e,fr,hb⟩:=hblk;have hb2:=A6 (j:=q*2+1) (A6 (j:=q*2) hb (ab y.1)) (ab y.2);have hcs:∀j,w.cell? (af g j)=cs[j]?:=λj=>A0 hb
 have Ty:q*2+1<cs.size:=by
  rw[hcs]at hc;exact(mh.1 hc).1
 intro i hi;rw[A0 hb2,A0 hb2];unfold AY
 by_cases ei:i=q
 ·subst ei
  rw[aq rfl];refine⟨?_,?_⟩
  ·rw[dz (by omega),qm,aq rfl,aq (by omega)]
  ·rw[qm,aq rfl,aq yM]
 ·rw[au ei]
  obtain⟨h1,h2⟩:=h i hi;rw[hcs]at h1 h2;refine⟨?_,?_⟩
  ·rw[dz (by omega),dz (by omega)];exact h1
  ·rw[dz (by omega),dz (by omega)];exact h2
section
variable {Q:zu}{w:World}{B gi gn gq i k:Nat}{nm ta:Nat->Wt}
theorem DZ.keeps {w':World}{S:List Nat} (h:DZ Q w B gi gn gq i k nm ta) (hk:A1 w w' S) (hB:B<=w.heap.size) (hS:∀q∈S,B<=q/\q≠gn/\q≠gq):DZ Q w' B gi gn gq i k nm ta:=by
 have hb:Below B w w':=hk.below hB (λq hq=>(hS q hq).1);have e1:w'.heap[gn]?=w.heap[gn]?:=hk.block gn h.Oe (λhm=>(hS gn hm).2.1 rfl);have e2:w'.heap[gq]?=w.heap[gq]?:=hk.block gq h.Qp (λhm=>(hS gq hm).2.2 rfl);exact⟨(hb.cell (by exact h.Od)).trans h.pi,(hb.cell Zz).trans h.pn,(hb.cell Zz).trans h.pq,h.Od,h.Ox,h.Uq,h.Qo,h.ne,lL h.Oe hk.size,lL h.Qp hk.size,
  λj hj=>⟨(jd e1).trans (h.Og j hj).1,(jd e1).trans (h.Og j hj).2⟩,λj hj=>⟨(jd e2).trans (h.tac j hj).1,(jd e2).trans (h.tac j hj).2⟩,
  λj=>(ni e1).trans (h.nmf j),λj=>(ni e2).trans (h.Ur j)⟩
theorem TD (h:DZ Q w B gi gn gq i k nm ta) (hB:B<=w.heap.size)  (hq:q<Q.yQ.length) (y:Wt):
  Calls Tryz.prog 191 #[.pointer (some (af gq (q*2))),Bz y] w λe w'=>e=.returned (.bool (decide (zG y (ta q))))/\DZ Q w' B gi gn gq i k nm (AY ta q (BK (ta q) y))/\A1 w w' [gq]:=by
 obtain⟨c1,c2⟩:=h.tac q hq;obtain⟨y1,y2⟩:=y;refine(QL gq (q*2) _ _ y1 y2 w c1 c2 h.Ur).mono ?_;rintro e w' ⟨rfl,w1,hb,hw⟩;have h1:DZ Q w1 B gi gn gq i k nm ta:=h.keeps (A1.yX hb []) hB (by simp);refine⟨rfl,?_⟩;rw[LA]
 by_cases hl:zG (y1,y2) ((ta q).1,(ta q).2)
 ·rw[aq hl]at hw
  have hl2:zG (y1,y2) (ta q):=hl;rw[aq hl2];subst hw;have hk:A1 w1 ((w1.setCell (af gq (q*2)) (ab y1)).setCell (af gq (q*2+1)) (ab y2)) [gq]:=((A1.refl w1 [gq]).setCell (by simp) _).setCell (by simp) _;refine⟨?_,(A1.yX hb [gq]).trans hk⟩;have Jr:B<=w1.heap.size:=y5 hB hb.size;have Dp:Below B w1 ((w1.setCell (af gq (q*2)) (ab y1)).setCell (af gq (q*2+1)) (ab y2)):=hk.below Jr (λx hx=>by rw[mS.1 hx];exact h.Qo);have e1:=hk.block gn h1.Oe abV;have hf:∀j,((w1.setCell (af gq (q*2)) (ab y1)).setCell (af gq (q*2+1)) (ab y2)).frozen? (af gq j)=w1.frozen? (af gq j):=λj=>by simp
  exact⟨(Dp.cell (by exact h.Od)).trans h1.pi,(Dp.cell Zz).trans h1.pn,(Dp.cell Zz).trans h1.pq,h.Od,h.Ox,h.Uq,h.Qo,h.ne,lL h1.Oe hk.size,lL h1.Qp hk.size,
   λj hj=>⟨(jd e1).trans (h1.Og j hj).1,(jd e1).trans (h1.Og j hj).2⟩,h1.tac.put hq (y1,y2),λj=>(ni e1).trans (h1.nmf j),λj=>(hf j).trans (h1.Ur j)⟩
 ·rw[au hl]at hw
  have hl2:¬zG (y1,y2) (ta q):=hl;rw[au hl2];subst hw;have e:AY ta q (ta q)=ta:=by funext m;unfold AY;split <;> simp_all
  rw[e];exact⟨h1,A1.yX hb _⟩
theorem DZ.ai8 (h1:DZ Q w B gi gn gq i k nm ta) (hB:B<=w.heap.size)  (hq:q<Q.yQ.length) (y:Wt):
  DZ Q ((w.setCell (af gq (q*2)) (ab y.1)).setCell (af gq (q*2+1)) (ab y.2)) B gi gn gq i k nm (AY ta q y)/\A1 w ((w.setCell (af gq (q*2)) (ab y.1)).setCell (af gq (q*2+1)) (ab y.2)) [gq]:=by
 have hk:A1 w ((w.setCell (af gq (q*2)) (ab y.1)).setCell (af gq (q*2+1)) (ab y.2)) [gq]:=((A1.refl w [gq]).setCell (by simp) _).setCell (by simp) _;have Dp:=hk.below hB (λx hx=>by rw[mS.1 hx];exact h1.Qo);have e1:=hk.block gn h1.Oe (by simpa using h1.ne);have hf:∀j,((w.setCell (af gq (q*2)) (ab y.1)).setCell (af gq (q*2+1)) (ab y.2)).frozen? (af gq j)=w.frozen? (af gq j):=λj=>by simp
 exact⟨⟨(Dp.cell (by exact h1.Od)).trans h1.pi,(Dp.cell (by exact h1.Ox)).trans h1.pn,(Dp.cell (by exact h1.Ox)).trans h1.pq,h1.Od,h1.Ox,h1.Uq,h1.Qo,h1.ne,lL h1.Oe hk.size,lL h1.Qp hk.size,
   λj hj=>⟨(jd e1).trans (h1.Og j hj).1,(jd e1).trans (h1.Og j hj).2⟩,h1.tac.put hq y,λj=>(ni e1).trans (h1.nmf j),λj=>(hf j).trans (h1.Ur j)⟩,hk⟩
theorem sE (h:DZ Q w B gi gn gq i k nm ta) (hB:B<=w.heap.size)  (hn:n<Q.T.N.nN) (y:Wt):
  Calls Tryz.prog 191 #[.pointer (some (af gn (n*2))),Bz y] w λe w'=>e=.returned (.bool (decide (zG y (nm n))))/\DZ Q w' B gi gn gq i k (AY nm n (BK (nm n) y)) ta/\A1 w w' [gn]:=by
 obtain⟨c1,c2⟩:=h.Og n hn;obtain⟨y1,y2⟩:=y;refine(QL gn (n*2) _ _ y1 y2 w c1 c2 h.nmf).mono ?_;rintro e w' ⟨rfl,w1,hb,hw⟩;have h1:DZ Q w1 B gi gn gq i k nm ta:=h.keeps (A1.yX hb []) hB (by simp);refine⟨rfl,?_⟩;rw[LA]
 by_cases hl:zG (y1,y2) ((nm n).1,(nm n).2)
 ·rw[aq hl]at hw
  have hl2:zG (y1,y2) (nm n):=hl;rw[aq hl2];subst hw;have hk:A1 w1 ((w1.setCell (af gn (n*2)) (ab y1)).setCell (af gn (n*2+1)) (ab y2)) [gn]:=((A1.refl w1 [gn]).setCell (by simp) _).setCell (by simp) _;refine⟨?_,(A1.yX hb [gn]).trans hk⟩;have Jr:B<=w1.heap.size:=y5 hB hb.size;have Dp:Below B w1 ((w1.setCell (af gn (n*2)) (ab y1)).setCell (af gn (n*2+1)) (ab y2)):=hk.below Jr (λx hx=>by rw[mS.1 hx];exact h.Uq);have e1:=hk.block gq h1.Qp (by simpa using xP h.ne);have hf:∀j,((w1.setCell (af gn (n*2)) (ab y1)).setCell (af gn (n*2+1)) (ab y2)).frozen? (af gn j)=w1.frozen? (af gn j):=λj=>by simp
  exact⟨(Dp.cell (by exact h.Od)).trans h1.pi,(Dp.cell Zz).trans h1.pn,(Dp.cell Zz).trans h1.pq,h.Od,h.Ox,h.Uq,h.Qo,h.ne,lL h1.Oe hk.size,lL h1.Qp hk.size,
   h1.Og.put hn (y1,y2),λj hj=>⟨(jd e1).trans (h1.tac j hj).1,(jd e1).trans (h1.tac j hj).2⟩,λj=>(hf j).trans (h1.nmf j),λj=>(ni e1).trans (h1.Ur j)⟩
 ·rw[au hl]at hw
  have hl2:¬zG (y1,y2) (nm n):=hl;rw[au hl2];subst hw;have e:AY nm n (nm n)=nm:=by funext m;unfold AY;split <;> simp_all
  rw[e];exact⟨h1,A1.yX hb _⟩
theorem vL  (hK:Mr Q w B i k cn ct) (hC:DZ Q w B gi gn gq i k nm ta) (hB:B<=w.heap.size) (hk:k<=Q.row.length) {j:Nat} (h1:i<=j) (h2:j<=k):Gv Q w w.heap.size i j (λn=>AK cn i k nm n i j):=by
 by_cases e:j=k
 ·subst e
  have hf:(λn=>AK cn i j nm n i j)=nm:=by funext n;unfold AK;rw[aq ⟨rfl,rfl⟩]
  rw[hf];exact⟨gi,gn,by have:=hC.Ox;omega,hC.Oe,hC.pi,hC.pn,hC.Og⟩
 ·have hf:(λn=>AK cn i k nm n i j)=λn=>cn n i j:=by funext n;unfold AK;rw[au (by omega)]
  rw[hf];obtain⟨Qn,Ya,z1,z2,z3⟩:=(hK i j h1 (by omega) (.inr ⟨rfl,by omega⟩)).1;exact⟨Qn,Ya,by omega,by omega,z3⟩
theorem wO  (hK:Mr Q w B i k cn ct) (hC:DZ Q w B gi gn gq i k nm ta) (hB:B<=w.heap.size) (hk:k<=Q.row.length) {j:Nat} (h1:i<=j) (h2:j<=k):Mq Q w w.heap.size j k (λq=>AK ct i k ta q j k):=by
 by_cases e:j=i
 ·subst e
  have hf:(λq=>AK ct j k ta q j k)=ta:=by funext n;unfold AK;rw[aq ⟨rfl,rfl⟩]
  rw[hf];exact⟨gi,gq,by have:=hC.Ox;omega,hC.Qp,hC.pi,hC.pq,hC.tac⟩
 ·have hf:(λq=>AK ct i k ta q j k)=λq=>ct q j k:=by funext n;unfold AK;rw[au (by omega)]
  rw[hf];obtain⟨Qn,Ya,z1,z2,z3⟩:=(hK j k h2 hk (.inl (by omega))).2;exact⟨Qn,Ya,by omega,by omega,z3⟩
end
theorem TF  (hN:Q.T.N.Ok) (hr:∀x∈Q.row,x<Q.T.N.nT) (Gx:Q.row.length<=100)  (hc:Fl cn)  (hp:J5 Q.T.N p) (i k:Nat):WOk (CZ Q.T.N Q.row cn p i k):=by
 cases p with
 |yB n=>
  have:=hc n i k;unfold AC FZ at this;exact⟨by show(cn n i k).1<=_;omega,this.2⟩
 |tok t=>
  show WOk (FR Q.T.N Q.row t i k);unfold FR;split
  ·have:=hN.Vz t hp
   exact⟨by simp only;omega,by simp⟩
  ·refine⟨?_,by simp⟩
   simp only;have h1:E2 Q.T.N Q.row i (k - 1)<=9900:=by
    rcases Nat.le_total i (k - 1)with h |h
    ·have h2:=(NH (N:=Q.T.N) Q.row h).2
     have h3:=JO hN hr Gx (k - 1);omega
    ·unfold E2
     rw[show k - 1 - i=0 by omega,uf];simp[AU]
   have h2:FH Q.T.N (Q.row.getD (k - 1) 0) t<=1048576:=by
    unfold FH JS
    by_cases h1:Q.row.getD (k - 1) 0=t
    ·rw[aq h1];simp
    ·rw[au h1]
     by_cases h2:Q.T.N.swp (Q.row.getD (k - 1) 0) t=0
     ·rw[aq h2];exact yF _
     ·rw[au h2]
      have:=hN.abZ (Q.row.getD (k - 1) 0) t;simp only[jm];omega
   omega
end
def JK (Q:zu) (cn ct:Nat->Nat->Nat->Wt) (p:Pt) (q i k:Nat):Nat->Wt
 |0=>(AC,0)
 |m+1=>BK (JK Q cn ct p q i k m) (D3 Q.T.N Q.row cn ct p q i (i+1+m) k)
theorem aQ (Q:zu) (cn ct:Nat->Nat->Nat->Wt) (p:Pt) (q i k:Nat):∀m,(JK Q cn ct p q i k m).1<=AC/\(JK Q cn ct p q i k m).2<=FZ
 |0=>⟨yF _,bu _⟩
 |m+1=>fT (aQ Q cn ct p q i k m) (NL _ _)
theorem bB (f:Nat->Wt) (q:Nat) (a b:Wt):AY (AY f q a) q b=AY f q b:=by
 funext m;unfold AY;split <;> rfl
theorem MO (f:Nat->Wt) (q:Nat) (a:Wt):AY f q a q=a:=by unfold AY;rw[aq rfl]
theorem tE  (hQ:Q.In w) {gi gn gq:Nat}{nm ta:Nat->Wt} (hC:DZ Q w B gi gn gq i k nm ta) (hB:B<=w.heap.size) (hik:i<=k) (hk:k<=Q.row.length) (hq:Q.yQ[q]?=some none):
  Calls Tryz.prog 217 #[ac Q.wb,ab q,ab i,ab k] w λe w'=>e=.returned (.tuple #[])/\DZ Q w' B gi gn gq i k nm (AY ta q (if i=k then(0,0)else ta q))/\A1 w w' [gq]:=by
 have c3:w.cell? (af Q.wb 3)=some (ae Q.gt Q.yQ.length Q.ct):=(A0 hQ.blk).trans rfl;have c5:w.cell? (af Q.wb 5)=some (ae Q.gp (Q.row.length+1) (Q.row.length+1)):=(A0 hQ.blk).trans rfl;obtain⟨t0,_,_⟩:=hQ.Qk q _ hq;have t0:w.cell? (af Q.gt (q*3))=some (.bool true):=t0;have c6:=hC.pi;have c7:=hC.pq;have Yc:q<Q.yQ.length:=(yS.1 hq).1;obtain⟨a0,a1⟩:=hC.tac q Yc;have u0:=hC.Ur (q*2);have u1:=hC.Ur (q*2+1);have Hu:=hQ.Em;have Bk:=hQ.Ql;have Oc:=hQ.Qm;have HP:=hid (hC.ai8 hB Yc (0,0));have HC:=hid hC;obtain⟨L,hL⟩:=qF (Q.row.length+1);obtain⟨nQ,Dw⟩:=qF (Q.yQ.length);have hiL:i<L:=by omega
 have hkL:k<L:=by omega
 have Cb:L<=101:=by omega
 rw[<-hL]at c5 c6;rw[<-Dw]at c3 c7 Yc Bk Oc;obtain⟨x1,hx1⟩:=qE ((ta q).1);obtain⟨x2,hx2⟩:=qE ((ta q).2);rw[hx1]at a0;rw[hx2]at a1;clear hQ hC hL Dw hx1 hx2 hq
 by_cases e:i=k
 ·rw[aq e]
  subst e;clear HC
  go_enter Tryz.func217,Tryz.ntmps217
  go_wp2;exact⟨rfl,_,ql rfl _ _ _,rfl,HP.out⟩
 ·rw[au e]
  have hne:((i:Int)==(k:Int))=false:=by rw[jz];omega
  have e2:AY ta q (ta q)=ta:=by funext m;unfold AY;split <;> simp_all
  rw[e2];clear e2 HP e
  go_enter Tryz.func217,Tryz.ntmps217
  go_wp2;exact⟨rfl,_,ql rfl _ _ _,rfl,HC.out,A1.refl _ _⟩
theorem pS  (hQ:Q.In w) {gi gn gq:Nat}{nm ta:Nat->Wt} (hC:DZ Q w B gi gn gq i k nm ta) (hK:Mr Q w B i k cn ct) (Es:Fl cn) (hct:Fl ct) (hB:B<=w.heap.size) (hik:i<=k) (hk:k<=Q.row.length)  (hq:Q.yQ[q]?=some (some p)) (Ev:q+1<Q.yQ.length) (h0:ta q=(AC,0)):
  Calls Tryz.prog 217 #[ac Q.wb,ab q,ab i,ab k] w λe w'=>e=.returned (.tuple #[])/\DZ Q w' B gi gn gq i k nm (AY ta q (JK Q cn ct p q i k (k - (i+1))))/\A1 w w' [gq]:=by
 have c3:w.cell? (af Q.wb 3)=some (ae Q.gt Q.yQ.length Q.ct):=(A0 hQ.blk).trans rfl;have c5:w.cell? (af Q.wb 5)=some (ae Q.gp (Q.row.length+1) (Q.row.length+1)):=(A0 hQ.blk).trans rfl;obtain⟨t0,_,_⟩:=hQ.Qk q _ hq;have t0:w.cell? (af Q.gt (q*3))=some (.bool false):=t0;have c6:=hC.pi;have c7:=hC.pq;have Yc:q<Q.yQ.length:=by omega
 have Sv:=hC.Od;have Iw:=hC.Qo;have Hu:=hQ.Em;have Bk:=hQ.Ql;have Oc:=hQ.Qm;have Ci:=hQ.Up q p hq;have HQ:Hid (∀V,Below B w V->Q.In V):=hid λV hb=>hQ.below (hb.mono (by omega))
 have HK:Hid (∀V,Below B w V->Mr Q V B i k cn ct):=hid λV hb=>hK.below hb Sv
 have HC:Hid (DZ Q w B gi gn gq i k nm (AY ta q (JK Q cn ct p q i k 0))):=hid (by
  have e:AY ta q (JK Q cn ct p q i k 0)=ta:=by
   funext m;unfold AY JK;split
   ·rename_i e;rw[e,h0]
   ·rfl
  rw[e];exact hC)
 have HS:Hid (∀V j,Below B w V->B<=V.heap.size->i<j->j<k->Calls Tryz.prog 234 #[ac Q.wb,ab q,ab i,ab j,ab k] V λe w'=>e=.returned (Bz (D3 Q.T.N Q.row cn ct p q i j k))/\Below V.heap.size V w'):=hid λV j hb hBV h1 h2=>
  RH (hQ.below (hb.mono (by omega))) (B:=B) hq Ev (by omega) (by omega) hk (λn e=>(hK.below hb Sv i j (by omega) (by omega) (.inr ⟨rfl,h2⟩)).1) (hK.below hb Sv j k (by omega) hk (.inl h1)).2 hBV
   (TF hQ.tab.fc.gr.ok hQ.rl hQ.Em Es Ci i j) (by have:=hct (q+1) j k;unfold AC FZ at this;exact⟨by omega,this.2⟩)
 obtain⟨L,hL⟩:=qF (Q.row.length+1);obtain⟨nQ,Dw⟩:=qF (Q.yQ.length);have Oh:Hid (q<Q.yQ.length):=hid Yc;have hiL:i<L:=by omega
 have hkL:k<L:=by omega
 have Cb:L<=101:=by omega
 rw[<-hL]at c5 c6;rw[<-Dw]at c3 c7 Yc Bk Oc;clear hQ hC hK hL Dw hq Ev Ci Es hct h0
 go_enter Tryz.func217,Tryz.ntmps217
 go_wp2
 go_loopw [9] (λz wr=>∃(m:Nat),m<=k - (i+1)/\z=ab (i+1+m:Nat)/\Hid (DZ Q wr B gi gn gq i k nm (AY ta q (JK Q cn ct p q i k m)))/\Hid (A1 w wr [gq])) (λz _=>k - (intOf z).toNat)
 case atStart=>exact⟨0,bu _,by go_num,HC,hid (A1.refl _ _)⟩
 case round=>
  obtain⟨m,hm,rfl,hcv,y7⟩:=hrel;obtain⟨j,hj⟩:=qE (i+1+m);have HJ:=hid hj;have alp:j<=202:=by omega
  have hjk:j<=k\/m=0:=by omega
  rw[hj];clear hj;have y6:Below B w wr:=y7.out.below hB (λx hx=>by rw[mS.1 hx];exact Iw);have Ed:B<=wr.heap.size:=y5 hB y6.size
  by_cases hlt:j<k
  ·have Yd:=hid (HS.out wr j y6 Ed (by have:=HJ.out;omega) hlt)
   obtain⟨Y,hY⟩:=qE (D3 Q.T.N Q.row cn ct p q i j k);rw[hY]at Yd;have HY:=hid hY;clear hY y6
   go_wp2_with (first
    | (go_at_call 234;refine Yd.out.mono ?_;rintro e w2 ⟨rfl,hb2⟩;have Ke:=hid (hcv.out.keeps (A1.yX hb2 []) Ed (by simp));have yV:=hid hb2;have hs2:=hb2.size;clear hb2)
    | (go_at_call 191;refine(TD Ke.out (by omega) Oh.out Y).mono ?_;rintro e w3 ⟨rfl,hc3,hk3⟩;have H3:=hid (And.intro hc3 hk3);clear hc3 hk3))
   go_roundw
   case rel=>exact⟨m+1,by have:=HJ.out;omega,by have:=HJ.out;go_num,hid (by
    have h1:=H3.out.1;rw[MO,bB,<-HY.out,<-HJ.out]at h1;exact h1),hid ((y7.out.trans (A1.yX yV.out _)).trans H3.out.2)⟩
   case measure=>simp[intOf];omega
  ·have HE:Hid (m=k - (i+1)):=hid (by have:=HJ.out;omega)
   go_wp2
   go_end0
   rw[<-HE.out];exact⟨rfl,hcv.out,y7.out⟩
def Ms:List (Option Pt)->Option (List Pt)
 | []=>none
 |none::_=>some []
 |some p::r=>(Ms r).map (p:: ·)
def BJ (yQ:List (Option Pt)) (q:Nat):Option (List Pt):=Ms (yQ.drop q)
def FJ (hds:List (List Nat)) (n q:Nat):Prop:=∃l,hds[n]?=some l/\q∈l
def PG (yQ:List (Option Pt)):Prop:=∀q,q<yQ.length->∃l,BJ yQ q=some l
theorem gQ  (h:yQ[q]?=some none):BJ yQ q=some []:=by
 obtain⟨h1,h2⟩:=yS.1 h;unfold BJ;rw[gm h1,h2];rfl
theorem MM  (hk:PG yQ)  (h:yQ[q]?=some (some p)):q+1<yQ.length/\∃ps,BJ yQ (q+1)=some ps/\BJ yQ q=some (p::ps):=by
 obtain⟨h1,h2⟩:=yS.1 h;have h3:BJ yQ q=(BJ yQ (q+1)).map (p:: ·):=by
  unfold BJ;rw[gm h1,h2];rfl
 obtain⟨l,hl⟩:=hk q h1;rw[h3]at hl;cases h4:BJ yQ (q+1)with
 |none=>rw[h4]at hl;cases hl
 |some ps=>
  refine⟨?_,ps,rfl,by rw[h3,h4];rfl⟩
  rcases jw (q+1) yQ.length with h5 |h5
  ·exact h5
  ·unfold BJ at h4
   rw[tq h5]at h4;cases h4
theorem RQ  (hk:PG yQ) {l:List Pt} (h:BJ yQ q=some l):(l=[]/\yQ[q]?=some none)\/∃p ps,l=p::ps/\yQ[q]?=some (some p):=by
 rcases jw q yQ.length with h1 |h1
 ·have h2:=gE h1
  cases h3:yQ[q]with
  |none=>
   rw[h3]at h2;rw[gQ h2]at h;injection h with h
   exact .inl ⟨h.symm,h2⟩
  |some p=>
   rw[h3]at h2;obtain⟨_,ps,_,h4⟩:=MM hk h2;rw[h4]at h;injection h with h
   exact .inr ⟨p,ps,h.symm,h2⟩
 ·unfold BJ at h
  rw[tq h1]at h;cases h
def Fm (nN:Nat) (f:Nat->Wt):Nat:=((List.range nN).map λn=>(f n).1*939524098+(f n).2).sum
theorem fI {f:Nat->Wt}{n:Nat}{v:Wt}:∀{nN:Nat},n<nN->v.1*939524098+v.2< (f n).1*939524098+(f n).2->Fm nN (AY f n v)<Fm nN f
 |m+1,hn,h=>by
  unfold Fm;rw[uj,ew,ew,List.sum_append,List.sum_append];simp only[jv,ur,List.sum_cons,List.sum_nil]
  by_cases e:n=m
  ·subst e
   have h1:((List.range n).map λj=>(AY f n v j).1*939524098+(AY f n v j).2)=(List.range n).map λj=>(f j).1*939524098+(f j).2:=by
    apply lz;intro j hj;have hj:=ir.1 hj;unfold AY;rw[au (by omega)]
   rw[h1,MO];omega
  ·have h1:=fI (f:=f) (n:=n) (v:=v) (nN:=m) (by omega) h
   unfold Fm at h1;have h2:AY f n v m=f m:=by unfold AY;rw[au (by omega)]
   rw[h2];omega
theorem tH {nN:Nat} (hn:n<nN) {y:Wt} (hy:y.2<=FZ) (h:zG y (f n)):Fm nN (AY f n (BK (f n) y))<Fm nN f:=by
 apply fI hn;rw[LA,aq h];unfold zG at h;unfold FZ at hy
 rcases h with h | ⟨h1,h2⟩
 ·have h3:(y.1+1)*939524098<=(f n).1*939524098:=oh _ h
  rw[Nat.add_mul,Nat.one_mul]at h3;omega
 ·rw[h1];omega
theorem gI {a:Wt} (h:¬zG b a):zq a b:=by unfold zG at h;unfold zq;omega
def TJ (L:Nat) (l:List Nat):Prop:=∃k,l++(List.range k).reverse=(List.range L).reverse
theorem TJ.snoc {L x:Nat}{l:List Nat} (h:TJ L (l++ [x])):TJ L l/\l.length+x+1=L:=by
 obtain⟨k,h⟩:=h;have hlen:=congrArg List.length h;simp at hlen;rw[aA]at h;have h2:(List.range L).reverse=(List.range L).reverse.take l.length++(List.range (L - l.length)).reverse:=by
  have h3:(List.range L).reverse=((List.range L).drop (L - l.length)).reverse++((List.range L).take (L - l.length)).reverse:=by
   rw[<-List.reverse_append,qx]
  have h4:(List.range L).take (L - l.length)=List.range (L - l.length):=by
   rw[List.take_range,xI (by omega)]
  rw[h4]at h3;have h5:((List.range L).drop (L - l.length)).reverse.length=l.length:=by simp;omega
  conv=>lhs;rw[h3]
  congr 1
  rw[h3,List.take_left' h5]
 have h6:[x]++(List.range k).reverse=(List.range (L - l.length)).reverse:=by
  have h7:=congrArg (List.drop l.length) h;rw[yC,h2,List.drop_left' yM]at h7;exact h7
 have h8:L - l.length=k+1:=by omega
 rw[h8,LI]at h6;have h9:x=k:=by simpa using h6
 subst h9;refine⟨⟨x+1,?_⟩,by omega⟩;rw[LI];exact h
end Go.Proofs.YtjjggdcnpndgjaaGreatDoor
