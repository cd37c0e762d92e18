import Derived.Test.YtjjggdcnpndgjaaGreatDoorCJ20
import Derived.Test.YtjjggdcnpndgjaaGreatDoorCJ16
import Derived.Deep.DeepCutAuto
import Derived.Test.YtjjggdcnpndgjaaGreatDoorCJ19
set_option linter.unusedSimpArgs false
set_option maxHeartbeats 4000000
set_option maxRecDepth 100000
namespace Go.Proofs.YtjjggdcnpndgjaaGreatDoor
abbrev eu:=@Array.getElem?_setIfInBounds_ne
abbrev ym:=@Array.getElem?_setIfInBounds_self_of_lt
open Go.RowKit Go.Shelf
variable {N:NG}{R:Nat->Int}{S:Nat->Nat}{n r t x:Nat}
def Dt (a:Wt):Value:=.agg #[ab (a.1:Int),ab (a.2:Int)]
theorem nH (w:World) (A:Array Value) (B C:Obj) (t:Nat) (f:Nat × Nat):(((w.alloc (.cells A t f)).alloc B).alloc C).drew.heap[w.heap.size]?=some (.cells A t f):=by
 have z0:(w.alloc (.cells A t f)).heap[w.heap.size]?=some (.cells A t f):=bg w _;have z1:=(dw _ B _ (ak z0)).trans z0;exact(dw _ C _ (ak z1)).trans z1
theorem p9 (w:World) (A:Obj) (B:Array Value) (C:Obj) (t:Nat) (f:Nat × Nat):(((w.alloc A).alloc (.cells B t f)).alloc C).drew.heap[w.heap.size+1]?=some (.cells B t f):=by
 have z0:((w.alloc A).alloc (.cells B t f)).heap[w.heap.size+1]?=some (.cells B t f):=by
  have h:=bg (w.alloc A) (.cells B t f)
  rwa [bh]at h
 exact(dw _ C _ (ak z0)).trans z0
theorem PB (w:World) (A:Obj) (B:Array Value) (t:Nat) (f:Nat × Nat):((w.alloc A).alloc (.cells B t f)).heap[w.heap.size+1]?=some (.cells B t f):=by
 have h:=bg (w.alloc A) (.cells B t f)
 rwa [bh]at h
theorem xH (w:World) (A B:Obj) (C:Array Value) (t:Nat) (f:Nat × Nat):(((w.alloc A).alloc B).alloc (.cells C t f)).drew.heap[w.heap.size+1+1]?=some (.cells C t f):=by
 have h:=bg ((w.alloc A).alloc B) (.cells C t f)
 rwa [bh,bh]at h
theorem R7 (a1 a2 b1 b2:Nat) (h1:a1+b1<=4611686018427387904) (ha:a2<=939524097) (hb:b2<=939524097) (w:World):
  Calls Tryz.prog 193 #[.agg #[ab a1,ab a2],.agg #[ab b1,ab b2]] w λe w'=>e=.returned (Dt (GO (a1,a2) (b1,b2)))/\Below w.heap.size w w':=by
 have CA:Hid (∀W,Calls Tryz.prog 184 #[ab a2,ab b2] W λe w'=>e=.returned (ab (DR a2 b2))/\W=w'):=hid λW=>N4 a2 b2 ha hb W
 have hw:IntKind.i64.wrap ((a1:Int)+(b1:Int))=(a1:Int)+(b1:Int):=by rw[Db];omega
 go_enter Tryz.func193,Tryz.ntmps193
 go_upto_region 1 with fail
 refine AH (λw'=>w'.cell? (af w.heap.size 0)=some (ab a1)/\w'.cell? (af w.heap.size 1)=some (ab a2)/\w'.cell? (af (w.heap.size+1) 0)=some (ab b1)/\w'.cell? (af (w.heap.size+1) 1)=some (ab b2)) yM yM ?_ (λhH=>?_)
 ·exact⟨(A0 (nH w _ _ _ _ _)).trans rfl,(A0 (nH w _ _ _ _ _)).trans rfl,(A0 (p9 w _ _ _ _ _)).trans rfl,(A0 (p9 w _ _ _ _ _)).trans rfl⟩
 simp only[AG,BP,AR];refine tB 0 hH ?_;refine tL ?_;refine tB 1 hH ?_;refine tL ?_;refine tB 2 hH ?_;refine tL ?_;refine tB 3 hH ?_;refine tL ?_;refine tB 4 hH ?_;refine tL ?_;refine tB 5 hH ?_;refine tL ?_;refine tB 6 hH ?_;refine tL ?_;refine tB 7 hH ?_;refine tL ?_;refine tB 8 hH ?_;refine tL ?_;refine tS 9 λK hK=>?_
 refine tM ?_
 go_simp;refine(CA.out _).mono ?_;rintro e w' ⟨rfl,rfl⟩;try dsimp only
 refine hK.out _ _ ?_ λhH=>?_
 ·exact hH
 clear hK K;refine tL ?_;refine tB 10 hH ?_;refine tL ?_;refine tB 11 hH ?_;refine tL ?_;refine bq yM ?_ _;clear hH;show wpList _ _ _ _ _ _;go_wp2;refine⟨rfl,_,GC (p:=4) (ty:=313) rfl _ _ (w.heap.size+1+1) _ _ _ _ rfl (xH w _ _ _ _ _) Tryz.underlying313 rfl yM,?_⟩;exact⟨by unfold Dt GO DR GH;simp,(((ah w.heap.size w).alloc (zn _) _).alloc Kk _ |>.alloc (by rw[bh,bh];omega) _).drew⟩
theorem WO (a1 a2:Nat) (h1:a1<=4611686018427387904) (ha:a2<=939524097) (w:World):
  Calls Tryz.prog 222 #[.agg #[ab a1,ab a2]] w λe w'=>e=.returned (Dt (named (a1,a2)))/\Below w.heap.size w w':=by
 have CP:Hid (∀W,Calls Tryz.prog 193 #[.agg #[ab a1,ab a2],.agg #[ab 0,ab 1]] W λe w'=>e=.returned (Dt (GO (a1,a2) (0,1)))/\Below W.heap.size W w'):=hid λW=>R7 a1 a2 0 1 (by omega) ha (by omega) W
 go_enter Tryz.func222,Tryz.ntmps222
 go_wp2_with (go_at_call 193;refine(CP.out _).mono ?_;rintro e w2 ⟨rfl,hb2⟩;have HB:Hid (Below w.heap.size w w2):=hid (((Aj (ah w.heap.size w)).alloc Kk _).trans (hb2.mono (by rw[bh,bh];omega)));have zz:=(hb2.block (w.heap.size+1) (ak (PB w _ _ _ _))).trans (PB w _ _ _ _);have HZ:=hid zz;have c0:=(A0 (j:=0) zz).trans rfl;have c1:=(A0 (j:=1) zz).trans rfl;have f0:=A7 (j:=0) zz;have f1:=A7 (j:=1) zz;clear hb2 zz;unfold Dt)
 refine⟨rfl,_,GC (p:=2) (ty:=313) rfl _ _ (w.heap.size+1) _ _ _ _ rfl (AA (j:=1) (AA (j:=0) HZ.out _) _) Tryz.underlying313 rfl yM,?_⟩;exact⟨rfl,(HB.out.setCell Vp _).setCell Vp _⟩
def At (a b:Wt):Prop:=a.1<b.1\/a.1=b.1/\a.2<b.2
instance (a b:Wt):Decidable (At a b):=by unfold At;infer_instance
theorem IY (w:World) (o:Obj):Below w.heap.size w (w.alloc o):=(ah _ _).alloc (zn _) _
theorem agt {P:Prop} (h:P:=by
  refine tL ?_;refine tB 23 hH ?_;refine tL ?_;refine tB 24 hH ?_;refine tL ?_;refine tB 25 hH ?_;refine tL ?_;refine bq yM ?_ _;clear hH;obtain⟨W,hW⟩:=qE ((w.alloc (.cells #[ab y1,ab y2] 313)).drew);rw[hW]at b1 b2 c1 c2 g1 g2 Jv ⊢;clear hW;go_wp2;go_ret;exact⟨rfl,Jv.out⟩):P:=h
theorem agu {P:Prop} (h:P:=by
  refine tL ?_;refine tB 24 hH ?_;refine tL ?_;refine tB 25 hH ?_;refine tL ?_;refine bq yM ?_ _;clear hH;obtain⟨W,hW⟩:=qE ((w.alloc (.cells #[ab y1,ab y2] 313)).drew);rw[hW]at b1 b2 c1 c2 g1 g2 Jv ⊢;clear hW;go_wp2;go_ret;exact⟨rfl,_,Jv.out,rfl⟩):P:=h
theorem RR (g o x1 x2 y1 y2:Nat) (w:World) (h1:w.cell? (af g o)=some (ab x1)) (h2:w.cell? (af g (o+1))=some (ab x2)) (hf:∀j,w.frozen? (af g j)=false):
  Calls Tryz.prog 191 #[.pointer (some (af g o)),.agg #[ab y1,ab y2]] w λe w'=>
   e=.returned (.bool (decide (At (y1,y2) (x1,x2))))/\∃w1,Below w.heap.size w w1/\w'=if At (y1,y2) (x1,x2)then(w1.setCell (af g o) (ab y1)).setCell (af g (o+1)) (ab y2)else w1:=by
 have hg:g<w.heap.size:=bu w _ h1
 by_cases hlt:y1<x1
 ·have hi:((y1:Int)< (x1:Int)):=by omega
  have hd:At (y1,y2) (x1,x2):=.inl hlt;simp only[ay hd,iz hd];clear hd;have zX:Below w.heap.size w (w.alloc (.cells #[ab y1,ab y2] 313)).drew:=(IY w _).drew;have z0:(w.alloc (.cells #[ab y1,ab y2] 313)).drew.heap[w.heap.size]?=some (.cells #[ab y1,ab y2] 313 (0,0)):=bg w _;have b1:=(A0 (j:=0) z0).trans rfl;have b2:=(A0 (j:=1) z0).trans rfl;have c1:=(zX.cell (p:=(af g o)) Ef).trans h1;have c2:=(zX.cell (p:=(af g (o+1))) Ef).trans h2;have g1:=(zX.frozen (p:=(af g o)) Ef).trans (hf o);have g2:=(zX.frozen (p:=(af g (o+1))) Ef).trans (hf (o+1));have Jv:=hid zX;clear zX z0 h1 h2 hf
  go_enter Tryz.func191,Tryz.ntmps191
  go_upto_region 1 with fail
  refine dy (S:=λw'=>w'.cell? (af w.heap.size 0)=some (ab y1)/\w'.cell? (af w.heap.size 1)=some (ab y2)/\w'.cell? (af g o)=some (ab x1)/\w'.cell? (af g (o+1))=some (ab x2)) yM ⟨b1,b2,c1,c2⟩ (λhH=>?_);refine tB 0 hH ?_;refine tL ?_;refine tB 1 hH ?_;refine tL ?_;refine tB 2 hH ?_;refine tL ?_;refine tB 3 hH ?_;refine tL ?_;refine tB 4 hH ?_;refine tL ?_;refine tB 5 hH ?_;refine tL ?_;refine tB 6 hH ?_;refine tL ?_;refine tB 7 hH ?_;refine tL ?_;refine lq (i:=8) (v:=undef) rfl yM yM yM (λ_ _ _ h=>h) (Or.inr ⟨by rfl,rfl⟩) hH ?_;refine tL ?_;refine lq (i:=9) (v:=undef) rfl yM yM yM (λ_ _ _ h=>h) (Or.inr ⟨by rfl,rfl⟩) hH ?_;refine tL ?_;refine lq (i:=10) (v:=undef) rfl yM yM yM (λ_ _ _ h=>h) (Or.inr ⟨by rfl,rfl⟩) hH ?_
  refine tL ?_;refine lq (i:=11) (v:=undef) rfl yM yM yM (λ_ _ _ h=>h) (Or.inr ⟨by rfl,rfl⟩) hH ?_;refine tL ?_;refine lq (i:=12) (v:=undef) rfl yM yM yM (λ_ _ _ h=>h) (Or.inr ⟨by rfl,rfl⟩) hH ?_;refine tL ?_;refine lq (i:=13) (v:=undef) rfl yM yM yM (λ_ _ _ h=>h) (Or.inr ⟨by rfl,rfl⟩) hH ?_;refine tL ?_;refine lq (i:=14) (v:=undef) rfl yM yM yM (λ_ _ _ h=>h) (Or.inr ⟨by rfl,rfl⟩) hH ?_;refine tL ?_;refine lq (i:=15) (v:=undef) rfl yM yM yM (λ_ _ _ h=>h) (Or.inr ⟨by rfl,rfl⟩) hH ?_;refine tL ?_;refine lq (i:=16) (v:=undef) rfl yM yM yM (λ_ _ _ h=>h) (Or.inr ⟨by rfl,rfl⟩) hH ?_;refine tL ?_
  refine lq (i:=17) (v:=undef) rfl yM yM yM (λ_ _ _ h=>h) (Or.inr ⟨by rfl,rfl⟩) hH ?_;refine tL ?_;refine lq (i:=18) (v:=undef) rfl yM yM yM (λ_ _ _ h=>h) (Or.inr ⟨by rfl,rfl⟩) hH ?_;refine tL ?_;refine lq (i:=19) (v:=undef) rfl yM yM yM (λ_ _ _ h=>h) (Or.inr ⟨by rfl,rfl⟩) hH ?_;refine tL ?_;refine lq (i:=20) (v:=undef) rfl yM yM yM (λ_ _ _ h=>h) (Or.inr ⟨by rfl,rfl⟩) hH ?_;refine tL ?_;refine lq (i:=21) (v:=undef) rfl yM yM yM (λ_ _ _ h=>h) (Or.inr ⟨by rfl,rfl⟩) hH ?_;refine tL ?_;refine lq (i:=22) (v:=undef) rfl yM yM yM (λ_ _ _ h=>h) (Or.inr ⟨by rfl,rfl⟩) hH ?_;refine tL ?_;refine lq (i:=23) (v:=undef) rfl yM yM yM (λ_ _ _ h=>h) (Or.inr ⟨by rfl,rfl⟩) hH ?_
  exact agu
 have hi:¬((y1:Int)< (x1:Int)):=by omega
 by_cases he:y1=x1
 ·by_cases hl2:y2<x2
  ·have hi2:((y2:Int)< (x2:Int)):=by omega
   have Ea:((y1:Int)==(x1:Int))=true:=by rw[kr];omega
   have hd:At (y1,y2) (x1,x2):=.inr ⟨he,hl2⟩;simp only[ay hd,iz hd];clear he;clear hd;have zX:Below w.heap.size w (w.alloc (.cells #[ab y1,ab y2] 313)).drew:=(IY w _).drew;have z0:(w.alloc (.cells #[ab y1,ab y2] 313)).drew.heap[w.heap.size]?=some (.cells #[ab y1,ab y2] 313 (0,0)):=bg w _;have b1:=(A0 (j:=0) z0).trans rfl;have b2:=(A0 (j:=1) z0).trans rfl;have c1:=(zX.cell (p:=(af g o)) Ef).trans h1;have c2:=(zX.cell (p:=(af g (o+1))) Ef).trans h2;have g1:=(zX.frozen (p:=(af g o)) Ef).trans (hf o);have g2:=(zX.frozen (p:=(af g (o+1))) Ef).trans (hf (o+1));have Jv:=hid zX;clear zX z0 h1 h2 hf
   go_enter Tryz.func191,Tryz.ntmps191
   go_upto_region 1 with fail
   refine dy (S:=λw'=>w'.cell? (af w.heap.size 0)=some (ab y1)/\w'.cell? (af w.heap.size 1)=some (ab y2)/\w'.cell? (af g o)=some (ab x1)/\w'.cell? (af g (o+1))=some (ab x2)) yM ⟨b1,b2,c1,c2⟩ (λhH=>?_);refine tB 0 hH ?_;refine tL ?_;refine tB 1 hH ?_;refine tL ?_;refine tB 2 hH ?_;refine tL ?_;refine tB 3 hH ?_;refine tL ?_;refine tB 4 hH ?_;refine tL ?_;refine tB 5 hH ?_;refine tL ?_;refine tB 6 hH ?_;refine tL ?_;refine tB 7 hH ?_;refine tL ?_;refine tB 8 hH ?_;refine tL ?_;refine tB 9 hH ?_;refine tL ?_;refine tB 10 hH ?_;refine tL ?_;refine tB 11 hH ?_;refine tL ?_;refine tB 12 hH ?_;refine tL ?_;refine tB 13 hH ?_;refine tL ?_;refine tB 14 hH ?_;refine tL ?_;refine tB 15 hH ?_;refine tL ?_;refine tB 16 hH ?_;refine tL ?_;refine tB 17 hH ?_;refine tL ?_;refine tB 18 hH ?_;refine tL ?_;refine tB 19 hH ?_;refine tL ?_;refine tB 20 hH ?_;refine tL ?_;refine tB 21 hH ?_
   refine tL ?_;refine tB 22 hH ?_;refine tL ?_;refine tB 23 hH ?_;exact agu
  ·have hi2:¬((y2:Int)< (x2:Int)):=by omega
   have Ea:((y1:Int)==(x1:Int))=true:=by rw[kr];omega
   have hd:¬At (y1,y2) (x1,x2):=by unfold At;simp only;omega
   simp only[aq hd,gy hd];clear he;clear hd;have zX:Below w.heap.size w (w.alloc (.cells #[ab y1,ab y2] 313)).drew:=(IY w _).drew;have z0:(w.alloc (.cells #[ab y1,ab y2] 313)).drew.heap[w.heap.size]?=some (.cells #[ab y1,ab y2] 313 (0,0)):=bg w _;have b1:=(A0 (j:=0) z0).trans rfl;have b2:=(A0 (j:=1) z0).trans rfl;have c1:=(zX.cell (p:=(af g o)) Ef).trans h1;have c2:=(zX.cell (p:=(af g (o+1))) Ef).trans h2;have g1:=(zX.frozen (p:=(af g o)) Ef).trans (hf o);have g2:=(zX.frozen (p:=(af g (o+1))) Ef).trans (hf (o+1));have Jv:=hid zX;clear zX z0 h1 h2 hf
   go_enter Tryz.func191,Tryz.ntmps191
   go_upto_region 1 with fail
   refine dy (S:=λw'=>w'.cell? (af w.heap.size 0)=some (ab y1)/\w'.cell? (af w.heap.size 1)=some (ab y2)/\w'.cell? (af g o)=some (ab x1)/\w'.cell? (af g (o+1))=some (ab x2)) yM ⟨b1,b2,c1,c2⟩ (λhH=>?_);refine tB 0 hH ?_;refine tL ?_;refine tB 1 hH ?_;refine tL ?_;refine tB 2 hH ?_;refine tL ?_;refine tB 3 hH ?_;refine tL ?_;refine tB 4 hH ?_;refine tL ?_;refine tB 5 hH ?_;refine tL ?_;refine tB 6 hH ?_;refine tL ?_;refine tB 7 hH ?_;refine tL ?_;refine tB 8 hH ?_;refine tL ?_;refine tB 9 hH ?_;refine tL ?_;refine tB 10 hH ?_;refine tL ?_;refine tB 11 hH ?_;refine tL ?_;refine tB 12 hH ?_;refine tL ?_;refine tB 13 hH ?_;refine tL ?_;refine tB 14 hH ?_;refine tL ?_;refine tB 15 hH ?_;refine tL ?_;refine tB 16 hH ?_;refine tL ?_;refine tB 17 hH ?_;refine tL ?_;refine tB 18 hH ?_;refine tL ?_;refine tB 19 hH ?_;refine tL ?_;refine tB 20 hH ?_;refine tL ?_;refine tB 21 hH ?_
   refine tL ?_;refine tB 22 hH ?_;exact agt
 ·have Ea:((y1:Int)==(x1:Int))=false:=by rw[mh];omega
  have hd:¬At (y1,y2) (x1,x2):=by unfold At;simp only;omega
  simp only[aq hd,gy hd];clear hd;have zX:Below w.heap.size w (w.alloc (.cells #[ab y1,ab y2] 313)).drew:=(IY w _).drew;have z0:(w.alloc (.cells #[ab y1,ab y2] 313)).drew.heap[w.heap.size]?=some (.cells #[ab y1,ab y2] 313 (0,0)):=bg w _;have b1:=(A0 (j:=0) z0).trans rfl;have b2:=(A0 (j:=1) z0).trans rfl;have c1:=(zX.cell (p:=(af g o)) Ef).trans h1;have c2:=(zX.cell (p:=(af g (o+1))) Ef).trans h2;have g1:=(zX.frozen (p:=(af g o)) Ef).trans (hf o);have g2:=(zX.frozen (p:=(af g (o+1))) Ef).trans (hf (o+1));have Jv:=hid zX;clear zX z0 h1 h2 hf
  go_enter Tryz.func191,Tryz.ntmps191
  go_upto_region 1 with fail
  refine dy (S:=λw'=>w'.cell? (af w.heap.size 0)=some (ab y1)/\w'.cell? (af w.heap.size 1)=some (ab y2)/\w'.cell? (af g o)=some (ab x1)/\w'.cell? (af g (o+1))=some (ab x2)) yM ⟨b1,b2,c1,c2⟩ (λhH=>?_);refine tB 0 hH ?_;refine tL ?_;refine tB 1 hH ?_;refine tL ?_;refine tB 2 hH ?_;refine tL ?_;refine tB 3 hH ?_;refine tL ?_;refine tB 4 hH ?_;refine tL ?_;refine tB 5 hH ?_;refine tL ?_;refine tB 6 hH ?_;refine tL ?_;refine tB 7 hH ?_;refine tL ?_;refine tB 8 hH ?_;refine tL ?_;refine tB 9 hH ?_;refine tL ?_;refine tB 10 hH ?_;refine tL ?_;refine tB 11 hH ?_;refine tL ?_;refine tB 12 hH ?_;refine tL ?_;refine tB 13 hH ?_;refine tL ?_;refine tB 14 hH ?_;refine tL ?_;refine tB 15 hH ?_;refine tL ?_;refine lq (i:=16) (v:=undef) rfl yM yM yM (λ_ _ _ h=>h) (Or.inr ⟨by rfl,rfl⟩) hH ?_;refine tL ?_;refine lq (i:=17) (v:=undef) rfl yM yM yM (λ_ _ _ h=>h) (Or.inr ⟨by rfl,rfl⟩) hH ?_
  refine tL ?_;refine lq (i:=18) (v:=undef) rfl yM yM yM (λ_ _ _ h=>h) (Or.inr ⟨by rfl,rfl⟩) hH ?_;refine tL ?_;refine lq (i:=19) (v:=undef) rfl yM yM yM (λ_ _ _ h=>h) (Or.inr ⟨by rfl,rfl⟩) hH ?_;refine tL ?_;refine lq (i:=20) (v:=undef) rfl yM yM yM (λ_ _ _ h=>h) (Or.inr ⟨by rfl,rfl⟩) hH ?_;refine tL ?_;refine lq (i:=21) (v:=undef) rfl yM yM yM (λ_ _ _ h=>h) (Or.inr ⟨by rfl,rfl⟩) hH ?_;refine tL ?_;refine lq (i:=22) (v:=undef) rfl yM yM yM (λ_ _ _ h=>h) (Or.inr ⟨by rfl,rfl⟩) hH ?_;exact agt
theorem NA (w:World) (wb gd nd cd i j a b:Nat) (h2:w.cell? (af wb 2)=some (ae gd nd cd)) (hi:i<nd) (hj:j<nd) (_:nd<=1000)
  (ha:w.cell? (af gd i)=some (ab a)) (hb:w.cell? (af gd j)=some (ab b)) (hab:a<=b) (zU:b<=4611686018427387904):
  Calls Tryz.prog 194 #[ac wb,ab i,ab j] w λe w'=>e=.returned (ab ((b - a:Nat):Int))/\Below w.heap.size w w':=by
 have hwr:IntKind.i64.wrap ((b:Int) - (a:Int))=((b - a:Nat):Int):=by rw[Db];omega
 have hW:Hid (Below w.heap.size w w.drew):=hid (ah _ _).drew
 go_enter Tryz.func194,Tryz.ntmps194
 go_upto_region 1 with fail
 refine dy (S:=λw'=>w'.cell? (af wb 2)=some (ae gd nd cd)/\w'.cell? (af gd i)=some (ab a)/\w'.cell? (af gd j)=some (ab b)) yM ⟨h2,ha,hb⟩ (λhH=>?_);refine tB 0 hH ?_;refine tB 1 hH ?_;refine tB 2 hH ?_;refine tB 3 hH ?_;refine tB 4 hH ?_;refine tB 5 hH ?_;refine tB 6 hH ?_;refine tB 7 hH ?_;refine tB 8 hH ?_;refine tB 9 hH ?_;refine tB 10 hH ?_;refine tB 11 hH ?_;refine tB 12 hH ?_;refine tB 13 hH ?_;refine tB 14 hH ?_;refine tB 15 hH ?_;refine tL ?_;refine bq yM ?_ _;clear hH;go_wp2;go_ret;exact⟨by first |rfl |rw[hwr],hW.out⟩
theorem bV {w:World}{n₀:Nat}{zy:List ByteArray}{pg:List Nm}{yZ:Option Addr}{yT gN yQ:Nat} (hP:Cz w n₀ N zy pg yZ yT gN yQ) (h0:n₀<=w.heap.size) (t u:Nat) (ht:t<N.nT) (hu:u<N.nT):
  Calls Tryz.prog 236 #[.agg #[.slice yZ N.nT yT,ae gN N.nN yQ],ab t,ab u] w λe w'=>e=.returned (.tuple #[ab (N.swp t u),.bool (decide (0<N.swp t u))])/\Below w.heap.size w w':=by
 have Bi:=hP.Ch;obtain⟨gT,gs,cs,rfl,Je,_,c1,Ka,hcs,c2⟩:=hP.Zb t ht;have c3:=c2 u hu;have Je:gT<w.heap.size:=lL Je h0;have Ka:gs<w.heap.size:=lL Ka h0;obtain⟨nN,hn1⟩:=qF (N.nN);obtain⟨nT,hn2⟩:=qF (N.nT);obtain⟨s,hs⟩:=qF (N.swp t u);rw[<-hs]at c3 ⊢;rw[<-hn2]at Bi ht hu c1 hcs ⊢;rw[<-hn1];clear hP hn1 hn2 hs h0 c2;have HB:Hid (Below w.heap.size w (w.alloc (.cells #[ae gT nT yT,ae gN nN yQ] 135))):=hid (IY w _)
 go_enter Tryz.func236,Tryz.ntmps236
 go_wp2
 go_ret2
 exact⟨rfl,HB.out⟩
def SN {α:Type} (L:List (List α)) (k:Nat):List (Nat × α):=(L.zipIdx k).flatMap λx=>x.1.map λps=>(x.2,ps)
def RD {α:Type} (L:List (List α)) (n:Nat):Nat:=((L.take n).map List.length).sum
theorem UV {α:Type} (rs:List α) (L:List (List α)) (k:Nat):SN (rs::L) k=rs.map (λps=>(k,ps))++SN L (k+1):=by
 unfold SN;rw[xg,ij]
theorem dB {α:Type}:∀(L:List (List α)) (k n r:Nat) (rs:List α) (ps:α),L[n]?=some rs->rs[r]?=some ps->(SN L k)[RD L n+r]?=some (k+n,ps)
 | [],_,_,_,_,_,h,_=>by simp at h
 |qs::L,k,0,r,rs,ps,h,h2=>by
  simp only[List.getElem?_cons_zero,uf]at h;subst h;have hr:=(zM.1 h2).1;rw[UV,show RD (qs::L) 0+r=r by simp[RD],aL (by simpa using hr),gM,h2];rfl
 |qs::L,k,n+1,r,rs,ps,h,h2=>by
  have h:=dB L (k+1) n r rs ps Lx h2;have e:RD (qs::L) (n+1)+r=qs.length+(RD L n+r):=by simp[RD];omega
  rw[UV,e,Bc (by simp),lM,show qs.length+(RD L n+r) - qs.length=RD L n+r by omega,h]
  congr 2
  omega
def RE (N:NG) (n:Nat) (ps:List Pt) (t:Nat):Bool:=E5 (zN (BU N false)) (col (J7 N (zN (BU N false))) t) t ps||(FN (zN (BU N false)) ps&&col (OU N (J7 N (zN (BU N false))) (zN (BU N false))) t n)
theorem sF {k:List Fa} (h1:Bh k=zN (BU N false)) (h2:∀n t,(AQ k n).testBit t=col (J7 N (zN (BU N false))) t n) (h3:∀n t,(BC k n).testBit t=col (OU N (J7 N (zN (BU N false))) (zN (BU N false))) t n) (n:Nat) (ps:List Pt) (t:Nat):
  (E7 k ps (BC k n)).testBit t=RE N n ps t:=by
 rw[K2,h1,h3];have e:(λn=>(AQ k n).testBit t)=col (J7 N (zN (BU N false))) t:=by funext m;exact h2 m t
 rw[e];rfl
def sQ (N:NG) (L:List (List (List Pt))) (n:Nat):Prop:=∀(rs:List (List Pt)) (r0 r:Nat) (p0 p:List Pt) (t:Nat),L[n]?=some rs->r0<r->rs[r0]?=some p0->rs[r]?=some p->t<=N.nT->¬(RE N n p0 t=true/\RE N n p t=true)
structure xW (N:NG) (L:List (List (List Pt))) (n r0 r t:Nat):Prop where
 ex:∃(rs:List (List Pt)) (p0 p:List Pt),L[n]?=some rs/\r0<r/\rs[r0]?=some p0/\rs[r]?=some p/\t<=N.nT/\RE N n p0 t=true/\RE N n p t=true
 no:∀m,m<n->sQ N L m
section
def JD (S:Nat->Nat) (r:Nat) (R:Nat->Int) (t:Nat):Prop:=(R t= -1/\∀q,q<r->(S q).testBit t=false)\/(∃q:Nat,q<r/\R t=q/\(S q).testBit t=true/\∀q',q'<r->q'≠q->(S q').testBit t=false)
def UH (S:Nat->Nat) (r:Nat) (pre:List Nat) (R:Nat->Int) (t:Nat):Prop:=(t∈pre/\R t=r/\(S r).testBit t=true/\∀q,q<r->(S q).testBit t=false)\/(t∉pre/\JD S r R t)
theorem tE  (h:R t= -1):JD S 0 R t:=.inl ⟨h,λq hq=>by omega⟩
theorem pF  (h:JD S r R t):UH S r [] R t:=.inr ⟨by simp,h⟩
theorem sD {pre:List Nat} (h:∀t,t<21->UH S r pre R t) (hx:x<21) (hb:(S r).testBit x=true) (hR:R x= -1):∀t,t<21->UH S r (pre++ [x]) (λu=>if u=x then(r:Int)else R u) t:=λt ht=>by
 by_cases e:t=x
 ·subst e
  refine .inl ⟨by simp,by simp,hb,?_⟩
  rcases h t hx with⟨_,h1,_⟩ | ⟨_,h1 | ⟨q,_,h2,_⟩⟩
  ·omega
  ·exact h1.2
  ·omega
 ·rcases h t ht with⟨h1,h2,h3,h4⟩ | ⟨h1,h2⟩
  ·exact .inl ⟨by simp[h1],by simp[e,h2],h3,h4⟩
  ·refine .inr ⟨by simp[h1,e],?_⟩
   unfold JD;simp only[aq e];exact h2
theorem uZ  (ht:t<21) (h:x.testBit t=true):t∈BG x:=by
 unfold BG;exact ni.2 ⟨jc.2 ht,h⟩
theorem SE  (h:t∈BG x):t<21/\x.testBit t=true:=by
 unfold BG at h;exact⟨jc.1 (ni.1 h).1,(ni.1 h).2⟩
theorem jP (x:Nat):(BG x).Nodup:=List.Pairwise.filter _ List.nodup_range
theorem sL  (ht:t<21) (h:UH S r (BG (S r)) R t):JD S (r+1) R t:=by
 rcases h with⟨_,h2,h3,h4⟩ | ⟨h1,h2⟩
 ·exact .inr ⟨r,by omega,h2,h3,λq' hq hne=>h4 q' (by omega)⟩
 ·have hz:(S r).testBit t=false:=by
   cases hb:(S r).testBit t with
   |false=>rfl
   |true=>exact absurd (uZ ht hb) h1
  rcases h2 with⟨h2,h3⟩ | ⟨q,h2,h3,h4,h5⟩
  ·refine .inl ⟨h2,λq hq=>?_⟩
   by_cases e:q=r
   ·subst e;exact hz
   ·exact h3 q (by omega)
  ·refine .inr ⟨q,by omega,h3,h4,λq' hq hne=>?_⟩
   by_cases e:q'=r
   ·subst e;exact hz
   ·exact h5 q' (by omega) hne
theorem mJ {pre:List Nat} (h:UH S r pre R x) (hx:x∉pre) (hR:R x≠ -1):∃q:Nat,q<r/\R x=q/\(S q).testBit x=true:=by
 rcases h with⟨h1,_⟩ | ⟨_,⟨h1,_⟩ | ⟨q,h1,h2,h3,_⟩⟩
 ·exact absurd h1 hx
 ·exact absurd h1 hR
 ·exact⟨q,h1,h2,h3⟩
theorem rQ  (h:JD S r R t) {q q':Nat} (hq:q<q') (hr:q'<r):¬((S q).testBit t=true/\(S q').testBit t=true):=by
 rintro⟨h1,h2⟩
 rcases h with⟨_,h3⟩ | ⟨p,_,_,_,h3⟩
 ·rw[h3 q (by omega)]at h1;cases h1
 ·by_cases e:q=p
  ·rw[h3 q' hr (by omega)]at h2;cases h2
  ·rw[h3 q (by omega) e]at h1;cases h1
def WV {α:Type} (R:Nat->α) (n:Nat) (f:α):Nat->α:=λm=>if m=n then f else R m
def Au (w:World) (tb:Nat) (yZ:Option Addr) (nT yT gN nN yQ kb:Nat) (R:Nat->Nat->Int) (E:Nat->Nat):Prop:=
 ∃cs,w.heap[tb]?=some (.cells cs 166 (0,0))/\cs.size=443/\cs[0]?=some (.slice yZ nT yT)/\cs[1]?=some (ae gN nN yQ)/\cs[2]?=some (ae kb nN nN)/\
  (∀n t,n<20->t<21->cs[3+n*21+t]?=some (ab (R n t)))/\∀m,m<20->cs[423+m]?=some (ab (E m))
section
variable {w w':World}{tb:Nat}{yZ:Option Addr}{nT yT gN nN yQ kb:Nat}{R:Nat->Nat->Int}{E:Nat->Nat}
theorem Au.lt (h:Au w tb yZ nT yT gN nN yQ kb R E):tb<w.heap.size:=by
 obtain⟨cs,h1,_⟩:=h;exact ak h1
theorem Au.free (h:Au w tb yZ nT yT gN nN yQ kb R E) (j:Nat):w.frozen? (af tb j)=false:=by
 obtain⟨cs,h1,_⟩:=h;exact A7 h1
theorem Au.kind (h:Au w tb yZ nT yT gN nN yQ kb R E):∃c e f,w.heap[tb]?=some (.cells c e f):=by
 obtain⟨cs,h1,_⟩:=h;exact⟨_,_,_,h1⟩
theorem Au.Cq (h:Au w tb yZ nT yT gN nN yQ kb R E):w.cell? (af tb 0)=some (.slice yZ nT yT)/\w.cell? (af tb 1)=some (ae gN nN yQ)/\w.cell? (af tb 2)=some (ae kb nN nN):=by
 obtain⟨cs,h1,_,h2,h3,h4,_⟩:=h;exact⟨(A0 h1).trans h2,(A0 h1).trans h3,(A0 h1).trans h4⟩
theorem Au.row (h:Au w tb yZ nT yT gN nN yQ kb R E)  (hn:n<20) (ht:t<21):w.cell? (af tb (3+n*21+t))=some (ab (R n t)):=by
 obtain⟨cs,h1,_,_,_,_,h2,_⟩:=h;exact(A0 h1).trans (h2 n t hn ht)
theorem Au.empty (h:Au w tb yZ nT yT gN nN yQ kb R E) {m:Nat} (hm:m<20):w.cell? (af tb (423+m))=some (ab (E m)):=by
 obtain⟨cs,h1,_,_,_,_,_,h2⟩:=h;exact(A0 h1).trans (h2 m hm)
theorem Au.block (h:Au w tb yZ nT yT gN nN yQ kb R E) (hb:w'.heap[tb]?=w.heap[tb]?):Au w' tb yZ nT yT gN nN yQ kb R E:=by
 obtain⟨cs,h1,h2⟩:=h;exact⟨cs,hb.trans h1,h2⟩
theorem Au.keeps {S:List Nat} (h:Au w tb yZ nT yT gN nN yQ kb R E) (hk:A5 w w' S) (hS:tb∉S):Au w' tb yZ nT yT gN nN yQ kb R E:=h.block (hk.block tb h.lt hS)
theorem Au.put (h:Au w tb yZ nT yT gN nN yQ kb R E)  (hn:n<20) (ht:t<21) (x:Int):Au (w.setCell (af tb (3+n*21+t)) (ab x)) tb yZ nT yT gN nN yQ kb (WV R n (λu=>if u=t then x else R n u)) E:=by
 obtain⟨cs,h1,hs,h2,h3,h4,h5,h6⟩:=h;refine⟨_,AA h1 _,by simpa using hs,?_,?_,?_,λn' t' hn' ht'=>?_,λm hm=>?_⟩
 ·rw[eu (by omega)];exact h2
 ·rw[eu (by omega)];exact h3
 ·rw[eu (by omega)];exact h4
 ·unfold WV
  by_cases e:n'=n
  ·subst e
   by_cases e2:t'=t
   ·subst e2
    rw[ym (by omega)];simp
   ·rw[eu (by omega),h5 n' t' hn' ht']
    simp[e2]
  ·rw[eu (by omega),h5 n' t' hn' ht']
   simp[e]
 ·rw[eu (by omega)];exact h6 m hm
theorem Au.ai1 (h:Au w tb yZ nT yT gN nN yQ kb R E)  (hn:n<20) (x:Nat):Au (w.setCell (af tb (423+n)) (ab (x:Int))) tb yZ nT yT gN nN yQ kb R (λm=>if m=n then x else E m):=by
 obtain⟨cs,h1,hs,h2,h3,h4,h5,h6⟩:=h;refine⟨_,AA h1 _,by simpa using hs,?_,?_,?_,λn' t' hn' ht'=>?_,λm hm=>?_⟩
 ·rw[eu (by omega)];exact h2
 ·rw[eu (by omega)];exact h3
 ·rw[eu (by omega)];exact h4
 ·rw[eu (by omega)];exact h5 n' t' hn' ht'
 ·by_cases e:m=n
  ·subst e
   rw[ym (by omega)];simp
  ·rw[eu (by omega),h6 m hm]
   simp[e]
end
theorem Aw.tab {W0 W:World}{n₀ tb kb:Nat}{zy:List ByteArray}{pg:List Nm}{yZ:Option Addr}{yT gN yQ:Nat}{k:List Fa}{R:Nat->Nat->Int}{E:Nat->Nat}{S:List Nat} (h:Aw W0 n₀ tb kb N zy pg yZ yT gN yQ k) (hS:∀q∈S,n₀<=q/\q≠kb) (hk:A5 W0 W S) (hv:Au W tb yZ N.nT yT gN N.nN yQ kb R E):Aw W n₀ tb kb N zy pg yZ yT gN yQ k where
 gr:=h.gr.below (hk.below h.ln (λq hq=>(hS q hq).1))
 n0:=h.n0
 ne:=h.ne
 lf:=hv.lt
 f0:=hv.Cq.1
 f1:=hv.Cq.2.1
 f2:=hv.Cq.2.2
 kn:=h.kn.keeps hk (λhm=>(hS kb hm).2 rfl)
end
end Go.Proofs.YtjjggdcnpndgjaaGreatDoor
