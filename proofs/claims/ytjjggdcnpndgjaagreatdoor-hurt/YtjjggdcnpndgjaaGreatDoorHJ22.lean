import Derived.Test.YtjjggdcnpndgjaaGreatDoorHJ21
import Derived.Test.YtjjggdcnpndgjaaGreatDoorHJ17
import Derived.Deep.DeepCutAuto
import Derived.Test.YtjjggdcnpndgjaaGreatDoorHJ20
set_option linter.unusedSimpArgs false
set_option maxHeartbeats 4000000
set_option maxRecDepth 100000
namespace Go.Proofs.YtjjggdcnpndgjaaGreatDoor
abbrev dz:=@Array.getElem?_setIfInBounds_ne
abbrev xy:=@Array.getElem?_setIfInBounds_self_of_lt
open Go.RowKit Go.Shelf
variable {N:NG}{R:Nat->Int}{S:Nat->Nat}{n r t x:Nat}
def Bz (a:Wt):Value:=.agg #[ab (a.1:Int),ab (a.2:Int)]
theorem mK (w:World) (A:Array Value) (B C:Obj) (t:Nat) (f:Nat × Nat):(((w.alloc (.cells A t f)).alloc B).alloc C).drew.heap[w.heap.size]?=some (.cells A t f):=by
 have z0:(w.alloc (.cells A t f)).heap[w.heap.size]?=some (.cells A t f):=ay w _;have z1:=(dm _ B _ (ak z0)).trans z0;exact(dm _ C _ (ak z1)).trans z1
theorem oW (w:World) (A:Obj) (B:Array Value) (C:Obj) (t:Nat) (f:Nat × Nat):(((w.alloc A).alloc (.cells B t f)).alloc C).drew.heap[w.heap.size+1]?=some (.cells B t f):=by
 have z0:((w.alloc A).alloc (.cells B t f)).heap[w.heap.size+1]?=some (.cells B t f):=by
  have h:=ay (w.alloc A) (.cells B t f)
  rwa [bg]at h
 exact(dm _ C _ (ak z0)).trans z0
theorem P3 (w:World) (A:Obj) (B:Array Value) (t:Nat) (f:Nat × Nat):((w.alloc A).alloc (.cells B t f)).heap[w.heap.size+1]?=some (.cells B t f):=by
 have h:=ay (w.alloc A) (.cells B t f)
 rwa [bg]at h
theorem vW (w:World) (A B:Obj) (C:Array Value) (t:Nat) (f:Nat × Nat):(((w.alloc A).alloc B).alloc (.cells C t f)).drew.heap[w.heap.size+1+1]?=some (.cells C t f):=by
 have h:=ay ((w.alloc A).alloc B) (.cells C t f)
 rwa [bg,bg]at h
theorem RB (a1 a2 b1 b2:Nat) (h1:a1+b1<=4611686018427387904) (ha:a2<=939524097) (hb:b2<=939524097) (w:World):
  Calls Tryz.prog 193 #[.agg #[ab a1,ab a2],.agg #[ab b1,ab b2]] w λe w'=>e=.returned (Bz (GD (a1,a2) (b1,b2)))/\Below w.heap.size w w':=by
 have CA:Hid (∀W,Calls Tryz.prog 184 #[ab a2,ab b2] W λe w'=>e=.returned (ab (DJ a2 b2))/\W=w'):=hid λW=>MV a2 b2 ha hb W
 have hw:IntKind.i64.wrap ((a1:Int)+(b1:Int))=(a1:Int)+(b1:Int):=by rw[Cy];omega
 go_enter Tryz.func193,Tryz.ntmps193
 go_upto_region 1 with fail
 refine AE (λw'=>w'.cell? (af w.heap.size 0)=some (ab a1)/\w'.cell? (af w.heap.size 1)=some (ab a2)/\w'.cell? (af (w.heap.size+1) 0)=some (ab b1)/\w'.cell? (af (w.heap.size+1) 1)=some (ab b2)) yg yg ?_ (λhH=>?_)
 ·exact⟨(A0 (mK w _ _ _ _ _)).trans rfl,(A0 (mK w _ _ _ _ _)).trans rfl,(A0 (oW w _ _ _ _ _)).trans rfl,(A0 (oW w _ _ _ _ _)).trans rfl⟩
 simp only[AB,BM,AO];refine tB 0 hH ?_;refine tL ?_;refine tB 1 hH ?_;refine tL ?_;refine tB 2 hH ?_;refine tL ?_;refine tB 3 hH ?_;refine tL ?_;refine tB 4 hH ?_;refine tL ?_;refine tB 5 hH ?_;refine tL ?_;refine tB 6 hH ?_;refine tL ?_;refine tB 7 hH ?_;refine tL ?_;refine tB 8 hH ?_;refine tL ?_;refine tS 9 λK hK=>?_
 refine tM ?_
 go_simp;refine(CA.out _).mono ?_;rintro e w' ⟨rfl,rfl⟩;try dsimp only
 refine hK.out _ _ ?_ λhH=>?_
 ·exact hH
 clear hK K;refine tL ?_;refine tB 10 hH ?_;refine tL ?_;refine tB 11 hH ?_;refine tL ?_;refine bk yg ?_ _;clear hH;show wpList _ _ _ _ _ _;go_wp2;refine⟨rfl,_,FW (p:=4) (ty:=313) rfl _ _ (w.heap.size+1+1) _ _ _ _ rfl (vW w _ _ _ _ _) Tryz.underlying313 rfl yg,?_⟩;exact⟨by unfold Bz GD DJ FZ;simp,(((ah w.heap.size w).alloc (yF _) _).alloc Hw _ |>.alloc (by rw[bg,bg];omega) _).drew⟩
theorem VC (a1 a2:Nat) (h1:a1<=4611686018427387904) (ha:a2<=939524097) (w:World):
  Calls Tryz.prog 222 #[.agg #[ab a1,ab a2]] w λe w'=>e=.returned (Bz (named (a1,a2)))/\Below w.heap.size w w':=by
 have CP:Hid (∀W,Calls Tryz.prog 193 #[.agg #[ab a1,ab a2],.agg #[ab 0,ab 1]] W λe w'=>e=.returned (Bz (GD (a1,a2) (0,1)))/\Below W.heap.size W w'):=hid λW=>RB a1 a2 0 1 (by omega) ha (by omega) W
 go_enter Tryz.func222,Tryz.ntmps222
 go_wp2_with (go_at_call 193;refine(CP.out _).mono ?_;rintro e w2 ⟨rfl,hb2⟩;have HB:Hid (Below w.heap.size w w2):=hid (((zl (ah w.heap.size w)).alloc Hw _).trans (hb2.mono (by rw[bg,bg];omega)));have zz:=(hb2.block (w.heap.size+1) (ak (P3 w _ _ _ _))).trans (P3 w _ _ _ _);have HZ:=hid zz;have c0:=(A0 (j:=0) zz).trans rfl;have c1:=(A0 (j:=1) zz).trans rfl;have f0:=A3 (j:=0) zz;have f1:=A3 (j:=1) zz;clear hb2 zz;unfold Bz)
 refine⟨rfl,_,FW (p:=2) (ty:=313) rfl _ _ (w.heap.size+1) _ _ _ _ rfl (A6 (j:=1) (A6 (j:=0) HZ.out _) _) Tryz.underlying313 rfl yg,?_⟩;exact⟨rfl,(HB.out.setCell Tf _).setCell Tf _⟩
def zG (a b:Wt):Prop:=a.1<b.1\/a.1=b.1/\a.2<b.2
instance (a b:Wt):Decidable (zG a b):=by unfold zG;infer_instance
theorem IF (w:World) (o:Obj):Below w.heap.size w (w.alloc o):=(ah _ _).alloc (yF _) _
theorem afP {P:Prop} (h:P:=by
  refine tL ?_;refine tB 23 hH ?_;refine tL ?_;refine tB 24 hH ?_;refine tL ?_;refine tB 25 hH ?_;refine tL ?_;refine bk yg ?_ _;clear hH;obtain⟨W,hW⟩:=qE ((w.alloc (.cells #[ab y1,ab y2] 313)).drew);rw[hW]at b1 b2 c1 c2 g1 g2 Hp ⊢;clear hW;go_wp2;go_ret;exact⟨rfl,Hp.out⟩):P:=h
theorem afQ {P:Prop} (h:P:=by
  refine tL ?_;refine tB 24 hH ?_;refine tL ?_;refine tB 25 hH ?_;refine tL ?_;refine bk yg ?_ _;clear hH;obtain⟨W,hW⟩:=qE ((w.alloc (.cells #[ab y1,ab y2] 313)).drew);rw[hW]at b1 b2 c1 c2 g1 g2 Hp ⊢;clear hW;go_wp2;go_ret;exact⟨rfl,_,Hp.out,rfl⟩):P:=h
theorem QL (g o x1 x2 y1 y2:Nat) (w:World) (h1:w.cell? (af g o)=some (ab x1)) (h2:w.cell? (af g (o+1))=some (ab x2)) (hf:∀j,w.frozen? (af g j)=false):
  Calls Tryz.prog 191 #[.pointer (some (af g o)),.agg #[ab y1,ab y2]] w λe w'=>
   e=.returned (.bool (decide (zG (y1,y2) (x1,x2))))/\∃w1,Below w.heap.size w w1/\w'=if zG (y1,y2) (x1,x2)then(w1.setCell (af g o) (ab y1)).setCell (af g (o+1)) (ab y2)else w1:=by
 have hg:g<w.heap.size:=bq w _ h1
 by_cases hlt:y1<x1
 ·have hi:((y1:Int)< (x1:Int)):=by omega
  have hd:zG (y1,y2) (x1,x2):=.inl hlt;simp only[aq hd,ij hd];clear hd;have y6:Below w.heap.size w (w.alloc (.cells #[ab y1,ab y2] 313)).drew:=(IF w _).drew;have z0:(w.alloc (.cells #[ab y1,ab y2] 313)).drew.heap[w.heap.size]?=some (.cells #[ab y1,ab y2] 313 (0,0)):=ay w _;have b1:=(A0 (j:=0) z0).trans rfl;have b2:=(A0 (j:=1) z0).trans rfl;have c1:=(y6.cell (p:=(af g o)) Cx).trans h1;have c2:=(y6.cell (p:=(af g (o+1))) Cx).trans h2;have g1:=(y6.frozen (p:=(af g o)) Cx).trans (hf o);have g2:=(y6.frozen (p:=(af g (o+1))) Cx).trans (hf (o+1));have Hp:=hid y6;clear y6 z0 h1 h2 hf
  go_enter Tryz.func191,Tryz.ntmps191
  go_upto_region 1 with fail
  refine dn (S:=λw'=>w'.cell? (af w.heap.size 0)=some (ab y1)/\w'.cell? (af w.heap.size 1)=some (ab y2)/\w'.cell? (af g o)=some (ab x1)/\w'.cell? (af g (o+1))=some (ab x2)) yg ⟨b1,b2,c1,c2⟩ (λhH=>?_);refine tB 0 hH ?_;refine tL ?_;refine tB 1 hH ?_;refine tL ?_;refine tB 2 hH ?_;refine tL ?_;refine tB 3 hH ?_;refine tL ?_;refine tB 4 hH ?_;refine tL ?_;refine tB 5 hH ?_;refine tL ?_;refine tB 6 hH ?_;refine tL ?_;refine tB 7 hH ?_;refine tL ?_;refine kr (i:=8) (v:=undef) rfl yg yg yg (λ_ _ _ h=>h) (Or.inr ⟨by rfl,rfl⟩) hH ?_;refine tL ?_;refine kr (i:=9) (v:=undef) rfl yg yg yg (λ_ _ _ h=>h) (Or.inr ⟨by rfl,rfl⟩) hH ?_;refine tL ?_;refine kr (i:=10) (v:=undef) rfl yg yg yg (λ_ _ _ h=>h) (Or.inr ⟨by rfl,rfl⟩) hH ?_
  refine tL ?_;refine kr (i:=11) (v:=undef) rfl yg yg yg (λ_ _ _ h=>h) (Or.inr ⟨by rfl,rfl⟩) hH ?_;refine tL ?_;refine kr (i:=12) (v:=undef) rfl yg yg yg (λ_ _ _ h=>h) (Or.inr ⟨by rfl,rfl⟩) hH ?_;refine tL ?_;refine kr (i:=13) (v:=undef) rfl yg yg yg (λ_ _ _ h=>h) (Or.inr ⟨by rfl,rfl⟩) hH ?_;refine tL ?_;refine kr (i:=14) (v:=undef) rfl yg yg yg (λ_ _ _ h=>h) (Or.inr ⟨by rfl,rfl⟩) hH ?_;refine tL ?_;refine kr (i:=15) (v:=undef) rfl yg yg yg (λ_ _ _ h=>h) (Or.inr ⟨by rfl,rfl⟩) hH ?_;refine tL ?_;refine kr (i:=16) (v:=undef) rfl yg yg yg (λ_ _ _ h=>h) (Or.inr ⟨by rfl,rfl⟩) hH ?_;refine tL ?_
  refine kr (i:=17) (v:=undef) rfl yg yg yg (λ_ _ _ h=>h) (Or.inr ⟨by rfl,rfl⟩) hH ?_;refine tL ?_;refine kr (i:=18) (v:=undef) rfl yg yg yg (λ_ _ _ h=>h) (Or.inr ⟨by rfl,rfl⟩) hH ?_;refine tL ?_;refine kr (i:=19) (v:=undef) rfl yg yg yg (λ_ _ _ h=>h) (Or.inr ⟨by rfl,rfl⟩) hH ?_;refine tL ?_;refine kr (i:=20) (v:=undef) rfl yg yg yg (λ_ _ _ h=>h) (Or.inr ⟨by rfl,rfl⟩) hH ?_;refine tL ?_;refine kr (i:=21) (v:=undef) rfl yg yg yg (λ_ _ _ h=>h) (Or.inr ⟨by rfl,rfl⟩) hH ?_;refine tL ?_;refine kr (i:=22) (v:=undef) rfl yg yg yg (λ_ _ _ h=>h) (Or.inr ⟨by rfl,rfl⟩) hH ?_;refine tL ?_;refine kr (i:=23) (v:=undef) rfl yg yg yg (λ_ _ _ h=>h) (Or.inr ⟨by rfl,rfl⟩) hH ?_
  exact afQ
 have hi:¬((y1:Int)< (x1:Int)):=by omega
 by_cases he:y1=x1
 ·by_cases hl2:y2<x2
  ·have hi2:((y2:Int)< (x2:Int)):=by omega
   have Cs:((y1:Int)==(x1:Int))=true:=by rw[lq];omega
   have hd:zG (y1,y2) (x1,x2):=.inr ⟨he,hl2⟩;simp only[aq hd,ij hd];clear he;clear hd;have y6:Below w.heap.size w (w.alloc (.cells #[ab y1,ab y2] 313)).drew:=(IF w _).drew;have z0:(w.alloc (.cells #[ab y1,ab y2] 313)).drew.heap[w.heap.size]?=some (.cells #[ab y1,ab y2] 313 (0,0)):=ay w _;have b1:=(A0 (j:=0) z0).trans rfl;have b2:=(A0 (j:=1) z0).trans rfl;have c1:=(y6.cell (p:=(af g o)) Cx).trans h1;have c2:=(y6.cell (p:=(af g (o+1))) Cx).trans h2;have g1:=(y6.frozen (p:=(af g o)) Cx).trans (hf o);have g2:=(y6.frozen (p:=(af g (o+1))) Cx).trans (hf (o+1));have Hp:=hid y6;clear y6 z0 h1 h2 hf
   go_enter Tryz.func191,Tryz.ntmps191
   go_upto_region 1 with fail
   refine dn (S:=λw'=>w'.cell? (af w.heap.size 0)=some (ab y1)/\w'.cell? (af w.heap.size 1)=some (ab y2)/\w'.cell? (af g o)=some (ab x1)/\w'.cell? (af g (o+1))=some (ab x2)) yg ⟨b1,b2,c1,c2⟩ (λhH=>?_);refine tB 0 hH ?_;refine tL ?_;refine tB 1 hH ?_;refine tL ?_;refine tB 2 hH ?_;refine tL ?_;refine tB 3 hH ?_;refine tL ?_;refine tB 4 hH ?_;refine tL ?_;refine tB 5 hH ?_;refine tL ?_;refine tB 6 hH ?_;refine tL ?_;refine tB 7 hH ?_;refine tL ?_;refine tB 8 hH ?_;refine tL ?_;refine tB 9 hH ?_;refine tL ?_;refine tB 10 hH ?_;refine tL ?_;refine tB 11 hH ?_;refine tL ?_;refine tB 12 hH ?_;refine tL ?_;refine tB 13 hH ?_;refine tL ?_;refine tB 14 hH ?_;refine tL ?_;refine tB 15 hH ?_;refine tL ?_;refine tB 16 hH ?_;refine tL ?_;refine tB 17 hH ?_;refine tL ?_;refine tB 18 hH ?_;refine tL ?_;refine tB 19 hH ?_;refine tL ?_;refine tB 20 hH ?_;refine tL ?_;refine tB 21 hH ?_
   refine tL ?_;refine tB 22 hH ?_;refine tL ?_;refine tB 23 hH ?_;exact afQ
  ·have hi2:¬((y2:Int)< (x2:Int)):=by omega
   have Cs:((y1:Int)==(x1:Int))=true:=by rw[lq];omega
   have hd:¬zG (y1,y2) (x1,x2):=by unfold zG;simp only;omega
   simp only[au hd,fq hd];clear he;clear hd;have y6:Below w.heap.size w (w.alloc (.cells #[ab y1,ab y2] 313)).drew:=(IF w _).drew;have z0:(w.alloc (.cells #[ab y1,ab y2] 313)).drew.heap[w.heap.size]?=some (.cells #[ab y1,ab y2] 313 (0,0)):=ay w _;have b1:=(A0 (j:=0) z0).trans rfl;have b2:=(A0 (j:=1) z0).trans rfl;have c1:=(y6.cell (p:=(af g o)) Cx).trans h1;have c2:=(y6.cell (p:=(af g (o+1))) Cx).trans h2;have g1:=(y6.frozen (p:=(af g o)) Cx).trans (hf o);have g2:=(y6.frozen (p:=(af g (o+1))) Cx).trans (hf (o+1));have Hp:=hid y6;clear y6 z0 h1 h2 hf
   go_enter Tryz.func191,Tryz.ntmps191
   go_upto_region 1 with fail
   refine dn (S:=λw'=>w'.cell? (af w.heap.size 0)=some (ab y1)/\w'.cell? (af w.heap.size 1)=some (ab y2)/\w'.cell? (af g o)=some (ab x1)/\w'.cell? (af g (o+1))=some (ab x2)) yg ⟨b1,b2,c1,c2⟩ (λhH=>?_);refine tB 0 hH ?_;refine tL ?_;refine tB 1 hH ?_;refine tL ?_;refine tB 2 hH ?_;refine tL ?_;refine tB 3 hH ?_;refine tL ?_;refine tB 4 hH ?_;refine tL ?_;refine tB 5 hH ?_;refine tL ?_;refine tB 6 hH ?_;refine tL ?_;refine tB 7 hH ?_;refine tL ?_;refine tB 8 hH ?_;refine tL ?_;refine tB 9 hH ?_;refine tL ?_;refine tB 10 hH ?_;refine tL ?_;refine tB 11 hH ?_;refine tL ?_;refine tB 12 hH ?_;refine tL ?_;refine tB 13 hH ?_;refine tL ?_;refine tB 14 hH ?_;refine tL ?_;refine tB 15 hH ?_;refine tL ?_;refine tB 16 hH ?_;refine tL ?_;refine tB 17 hH ?_;refine tL ?_;refine tB 18 hH ?_;refine tL ?_;refine tB 19 hH ?_;refine tL ?_;refine tB 20 hH ?_;refine tL ?_;refine tB 21 hH ?_
   refine tL ?_;refine tB 22 hH ?_;exact afP
 ·have Cs:((y1:Int)==(x1:Int))=false:=by rw[jz];omega
  have hd:¬zG (y1,y2) (x1,x2):=by unfold zG;simp only;omega
  simp only[au hd,fq hd];clear hd;have y6:Below w.heap.size w (w.alloc (.cells #[ab y1,ab y2] 313)).drew:=(IF w _).drew;have z0:(w.alloc (.cells #[ab y1,ab y2] 313)).drew.heap[w.heap.size]?=some (.cells #[ab y1,ab y2] 313 (0,0)):=ay w _;have b1:=(A0 (j:=0) z0).trans rfl;have b2:=(A0 (j:=1) z0).trans rfl;have c1:=(y6.cell (p:=(af g o)) Cx).trans h1;have c2:=(y6.cell (p:=(af g (o+1))) Cx).trans h2;have g1:=(y6.frozen (p:=(af g o)) Cx).trans (hf o);have g2:=(y6.frozen (p:=(af g (o+1))) Cx).trans (hf (o+1));have Hp:=hid y6;clear y6 z0 h1 h2 hf
  go_enter Tryz.func191,Tryz.ntmps191
  go_upto_region 1 with fail
  refine dn (S:=λw'=>w'.cell? (af w.heap.size 0)=some (ab y1)/\w'.cell? (af w.heap.size 1)=some (ab y2)/\w'.cell? (af g o)=some (ab x1)/\w'.cell? (af g (o+1))=some (ab x2)) yg ⟨b1,b2,c1,c2⟩ (λhH=>?_);refine tB 0 hH ?_;refine tL ?_;refine tB 1 hH ?_;refine tL ?_;refine tB 2 hH ?_;refine tL ?_;refine tB 3 hH ?_;refine tL ?_;refine tB 4 hH ?_;refine tL ?_;refine tB 5 hH ?_;refine tL ?_;refine tB 6 hH ?_;refine tL ?_;refine tB 7 hH ?_;refine tL ?_;refine tB 8 hH ?_;refine tL ?_;refine tB 9 hH ?_;refine tL ?_;refine tB 10 hH ?_;refine tL ?_;refine tB 11 hH ?_;refine tL ?_;refine tB 12 hH ?_;refine tL ?_;refine tB 13 hH ?_;refine tL ?_;refine tB 14 hH ?_;refine tL ?_;refine tB 15 hH ?_;refine tL ?_;refine kr (i:=16) (v:=undef) rfl yg yg yg (λ_ _ _ h=>h) (Or.inr ⟨by rfl,rfl⟩) hH ?_;refine tL ?_;refine kr (i:=17) (v:=undef) rfl yg yg yg (λ_ _ _ h=>h) (Or.inr ⟨by rfl,rfl⟩) hH ?_
  refine tL ?_;refine kr (i:=18) (v:=undef) rfl yg yg yg (λ_ _ _ h=>h) (Or.inr ⟨by rfl,rfl⟩) hH ?_;refine tL ?_;refine kr (i:=19) (v:=undef) rfl yg yg yg (λ_ _ _ h=>h) (Or.inr ⟨by rfl,rfl⟩) hH ?_;refine tL ?_;refine kr (i:=20) (v:=undef) rfl yg yg yg (λ_ _ _ h=>h) (Or.inr ⟨by rfl,rfl⟩) hH ?_;refine tL ?_;refine kr (i:=21) (v:=undef) rfl yg yg yg (λ_ _ _ h=>h) (Or.inr ⟨by rfl,rfl⟩) hH ?_;refine tL ?_;refine kr (i:=22) (v:=undef) rfl yg yg yg (λ_ _ _ h=>h) (Or.inr ⟨by rfl,rfl⟩) hH ?_;exact afP
theorem N4 (w:World) (wb gd nd cd i j a b:Nat) (h2:w.cell? (af wb 2)=some (ae gd nd cd)) (hi:i<nd) (hj:j<nd) (_:nd<=1000)
  (ha:w.cell? (af gd i)=some (ab a)) (hb:w.cell? (af gd j)=some (ab b)) (hab:a<=b) (yZ:b<=4611686018427387904):
  Calls Tryz.prog 194 #[ac wb,ab i,ab j] w λe w'=>e=.returned (ab ((b - a:Nat):Int))/\Below w.heap.size w w':=by
 have hwr:IntKind.i64.wrap ((b:Int) - (a:Int))=((b - a:Nat):Int):=by rw[Cy];omega
 have hW:Hid (Below w.heap.size w w.drew):=hid (ah _ _).drew
 go_enter Tryz.func194,Tryz.ntmps194
 go_upto_region 1 with fail
 refine dn (S:=λw'=>w'.cell? (af wb 2)=some (ae gd nd cd)/\w'.cell? (af gd i)=some (ab a)/\w'.cell? (af gd j)=some (ab b)) yg ⟨h2,ha,hb⟩ (λhH=>?_);refine tB 0 hH ?_;refine tB 1 hH ?_;refine tB 2 hH ?_;refine tB 3 hH ?_;refine tB 4 hH ?_;refine tB 5 hH ?_;refine tB 6 hH ?_;refine tB 7 hH ?_;refine tB 8 hH ?_;refine tB 9 hH ?_;refine tB 10 hH ?_;refine tB 11 hH ?_;refine tB 12 hH ?_;refine tB 13 hH ?_;refine tB 14 hH ?_;refine tB 15 hH ?_;refine tL ?_;refine bk yg ?_ _;clear hH;go_wp2;go_ret;exact⟨by first |rfl |rw[hwr],hW.out⟩
theorem ZO {w:World}{n₀:Nat}{yL:List ByteArray}{pg:List Nm}{yu:Option Addr}{yl gN xY:Nat} (hP:Ba w n₀ N yL pg yu yl gN xY) (h0:n₀<=w.heap.size) (t u:Nat) (ht:t<N.nT) (hu:u<N.nT):
  Calls Tryz.prog 236 #[.agg #[.slice yu N.nT yl,ae gN N.nN xY],ab t,ab u] w λe w'=>e=.returned (.tuple #[ab (N.swp t u),.bool (decide (0<N.swp t u))])/\Below w.heap.size w w':=by
 have zU:=hP.Aj;obtain⟨gT,gs,cs,rfl,Gm,_,c1,Hs,hcs,c2⟩:=hP.Wc t ht;have c3:=c2 u hu;have Gm:gT<w.heap.size:=lL Gm h0;have Hs:gs<w.heap.size:=lL Hs h0;obtain⟨nN,hn1⟩:=qF (N.nN);obtain⟨nT,hn2⟩:=qF (N.nT);obtain⟨s,hs⟩:=qF (N.swp t u);rw[<-hs]at c3 ⊢;rw[<-hn2]at zU ht hu c1 hcs ⊢;rw[<-hn1];clear hP hn1 hn2 hs h0 c2;have HB:Hid (Below w.heap.size w (w.alloc (.cells #[ae gT nT yl,ae gN nN xY] 135))):=hid (IF w _)
 go_enter Tryz.func236,Tryz.ntmps236
 go_wp2
 go_ret2
 exact⟨rfl,HB.out⟩
def RY {α:Type} (L:List (List α)) (k:Nat):List (Nat × α):=(L.zipIdx k).flatMap λx=>x.1.map λps=>(x.2,ps)
def QI {α:Type} (L:List (List α)) (n:Nat):Nat:=((L.take n).map List.length).sum
theorem UO {α:Type} (rs:List α) (L:List (List α)) (k:Nat):RY (rs::L) k=rs.map (λps=>(k,ps))++RY L (k+1):=by
 unfold RY;rw[vw,gy]
theorem bR {α:Type}:∀(L:List (List α)) (k n r:Nat) (rs:List α) (ps:α),L[n]?=some rs->rs[r]?=some ps->(RY L k)[QI L n+r]?=some (k+n,ps)
 | [],_,_,_,_,_,h,_=>by simp at h
 |qs::L,k,0,r,rs,ps,h,h2=>by
  simp only[List.getElem?_cons_zero,sj]at h;subst h;have hr:=(yS.1 h2).1;rw[UO,show QI (qs::L) 0+r=r by simp[QI],aL (by simpa using hr),gM,h2];rfl
 |qs::L,k,n+1,r,rs,ps,h,h2=>by
  have h:=bR L (k+1) n r rs ps Kb h2;have e:QI (qs::L) (n+1)+r=qs.length+(QI L n+r):=by simp[QI];omega
  rw[UO,e,zQ (by simp),lM,show qs.length+(QI L n+r) - qs.length=QI L n+r by omega,h]
  congr 2
  omega
def RA (N:NG) (n:Nat) (ps:List Pt) (t:Nat):Bool:=DQ (yU (BN N false)) (col (IQ N (yU (BN N false))) t) t ps||(FE (yU (BN N false)) ps&&col (OL N (IQ N (yU (BN N false))) (yU (BN N false))) t n)
theorem qU {k:List Fa} (h1:zT k=yU (BN N false)) (h2:∀n t,(AL k n).testBit t=col (IQ N (yU (BN N false))) t n) (h3:∀n t,(B1 k n).testBit t=col (OL N (IQ N (yU (BN N false))) (yU (BN N false))) t n) (n:Nat) (ps:List Pt) (t:Nat):
  (DU k ps (B1 k n)).testBit t=RA N n ps t:=by
 rw[JR,h1,h3];have e:(λn=>(AL k n).testBit t)=col (IQ N (yU (BN N false))) t:=by funext m;exact h2 m t
 rw[e];rfl
def rI (N:NG) (L:List (List (List Pt))) (n:Nat):Prop:=∀(rs:List (List Pt)) (r0 r:Nat) (p0 p:List Pt) (t:Nat),L[n]?=some rs->r0<r->rs[r0]?=some p0->rs[r]?=some p->t<=N.nT->¬(RA N n p0 t=true/\RA N n p t=true)
structure xG (N:NG) (L:List (List (List Pt))) (n r0 r t:Nat):Prop where
 ex:∃(rs:List (List Pt)) (p0 p:List Pt),L[n]?=some rs/\r0<r/\rs[r0]?=some p0/\rs[r]?=some p/\t<=N.nT/\RA N n p0 t=true/\RA N n p t=true
 no:∀m,m<n->rI N L m
section
def IZ (S:Nat->Nat) (r:Nat) (R:Nat->Int) (t:Nat):Prop:=(R t= -1/\∀q,q<r->(S q).testBit t=false)\/(∃q:Nat,q<r/\R t=q/\(S q).testBit t=true/\∀q',q'<r->q'≠q->(S q').testBit t=false)
def TU (S:Nat->Nat) (r:Nat) (pre:List Nat) (R:Nat->Int) (t:Nat):Prop:=(t∈pre/\R t=r/\(S r).testBit t=true/\∀q,q<r->(S q).testBit t=false)\/(t∉pre/\IZ S r R t)
theorem sG  (h:R t= -1):IZ S 0 R t:=.inl ⟨h,λq hq=>by omega⟩
theorem oI  (h:IZ S r R t):TU S r [] R t:=.inr ⟨by simp,h⟩
theorem sH {pre:List Nat} (h:∀t,t<21->TU S r pre R t) (hx:x<21) (hb:(S r).testBit x=true) (hR:R x= -1):∀t,t<21->TU S r (pre++ [x]) (λu=>if u=x then(r:Int)else R u) t:=λt ht=>by
 by_cases e:t=x
 ·subst e
  refine .inl ⟨by simp,by simp,hb,?_⟩
  rcases h t hx with⟨_,h1,_⟩ | ⟨_,h1 | ⟨q,_,h2,_⟩⟩
  ·omega
  ·exact h1.2
  ·omega
 ·rcases h t ht with⟨h1,h2,h3,h4⟩ | ⟨h1,h2⟩
  ·exact .inl ⟨by simp[h1],by simp[e,h2],h3,h4⟩
  ·refine .inr ⟨by simp[h1,e],?_⟩
   unfold IZ;simp only[au e];exact h2
theorem tG  (ht:t<21) (h:x.testBit t=true):t∈BA x:=by
 unfold BA;exact mo.2 ⟨ir.2 ht,h⟩
theorem RU  (h:t∈BA x):t<21/\x.testBit t=true:=by
 unfold BA at h;exact⟨ir.1 (mo.1 h).1,(mo.1 h).2⟩
theorem jY (x:Nat):(BA x).Nodup:=List.Pairwise.filter _ List.nodup_range
theorem sM  (ht:t<21) (h:TU S r (BA (S r)) R t):IZ S (r+1) R t:=by
 rcases h with⟨_,h2,h3,h4⟩ | ⟨h1,h2⟩
 ·exact .inr ⟨r,by omega,h2,h3,λq' hq hne=>h4 q' (by omega)⟩
 ·have hz:(S r).testBit t=false:=by
   cases hb:(S r).testBit t with
   |false=>rfl
   |true=>exact absurd (tG ht hb) h1
  rcases h2 with⟨h2,h3⟩ | ⟨q,h2,h3,h4,h5⟩
  ·refine .inl ⟨h2,λq hq=>?_⟩
   by_cases e:q=r
   ·subst e;exact hz
   ·exact h3 q (by omega)
  ·refine .inr ⟨q,by omega,h3,h4,λq' hq hne=>?_⟩
   by_cases e:q'=r
   ·subst e;exact hz
   ·exact h5 q' (by omega) hne
theorem oZ {pre:List Nat} (h:TU S r pre R x) (hx:x∉pre) (hR:R x≠ -1):∃q:Nat,q<r/\R x=q/\(S q).testBit x=true:=by
 rcases h with⟨h1,_⟩ | ⟨_,⟨h1,_⟩ | ⟨q,h1,h2,h3,_⟩⟩
 ·exact absurd h1 hx
 ·exact absurd h1 hR
 ·exact⟨q,h1,h2,h3⟩
theorem rN  (h:IZ S r R t) {q q':Nat} (hq:q<q') (hr:q'<r):¬((S q).testBit t=true/\(S q').testBit t=true):=by
 rintro⟨h1,h2⟩
 rcases h with⟨_,h3⟩ | ⟨p,_,_,_,h3⟩
 ·rw[h3 q (by omega)]at h1;cases h1
 ·by_cases e:q=p
  ·rw[h3 q' hr (by omega)]at h2;cases h2
  ·rw[h3 q (by omega) e]at h1;cases h1
def VU {α:Type} (R:Nat->α) (n:Nat) (f:α):Nat->α:=λm=>if m=n then f else R m
def zH (w:World) (tb:Nat) (yu:Option Addr) (nT yl gN nN xY kb:Nat) (R:Nat->Nat->Int) (E:Nat->Nat):Prop:=
 ∃cs,w.heap[tb]?=some (.cells cs 166 (0,0))/\cs.size=443/\cs[0]?=some (.slice yu nT yl)/\cs[1]?=some (ae gN nN xY)/\cs[2]?=some (ae kb nN nN)/\
  (∀n t,n<20->t<21->cs[3+n*21+t]?=some (ab (R n t)))/\∀m,m<20->cs[423+m]?=some (ab (E m))
section
variable {w w':World}{tb:Nat}{yu:Option Addr}{nT yl gN nN xY kb:Nat}{R:Nat->Nat->Int}{E:Nat->Nat}
theorem zH.lt (h:zH w tb yu nT yl gN nN xY kb R E):tb<w.heap.size:=by
 obtain⟨cs,h1,_⟩:=h;exact ak h1
theorem zH.free (h:zH w tb yu nT yl gN nN xY kb R E) (j:Nat):w.frozen? (af tb j)=false:=by
 obtain⟨cs,h1,_⟩:=h;exact A3 h1
theorem zH.kind (h:zH w tb yu nT yl gN nN xY kb R E):∃c e f,w.heap[tb]?=some (.cells c e f):=by
 obtain⟨cs,h1,_⟩:=h;exact⟨_,_,_,h1⟩
theorem zH.Ar (h:zH w tb yu nT yl gN nN xY kb R E):w.cell? (af tb 0)=some (.slice yu nT yl)/\w.cell? (af tb 1)=some (ae gN nN xY)/\w.cell? (af tb 2)=some (ae kb nN nN):=by
 obtain⟨cs,h1,_,h2,h3,h4,_⟩:=h;exact⟨(A0 h1).trans h2,(A0 h1).trans h3,(A0 h1).trans h4⟩
theorem zH.row (h:zH w tb yu nT yl gN nN xY kb R E)  (hn:n<20) (ht:t<21):w.cell? (af tb (3+n*21+t))=some (ab (R n t)):=by
 obtain⟨cs,h1,_,_,_,_,h2,_⟩:=h;exact(A0 h1).trans (h2 n t hn ht)
theorem zH.empty (h:zH w tb yu nT yl gN nN xY kb R E) {m:Nat} (hm:m<20):w.cell? (af tb (423+m))=some (ab (E m)):=by
 obtain⟨cs,h1,_,_,_,_,_,h2⟩:=h;exact(A0 h1).trans (h2 m hm)
theorem zH.block (h:zH w tb yu nT yl gN nN xY kb R E) (hb:w'.heap[tb]?=w.heap[tb]?):zH w' tb yu nT yl gN nN xY kb R E:=by
 obtain⟨cs,h1,h2⟩:=h;exact⟨cs,hb.trans h1,h2⟩
theorem zH.keeps {S:List Nat} (h:zH w tb yu nT yl gN nN xY kb R E) (hk:A1 w w' S) (hS:tb∉S):zH w' tb yu nT yl gN nN xY kb R E:=h.block (hk.block tb h.lt hS)
theorem zH.put (h:zH w tb yu nT yl gN nN xY kb R E)  (hn:n<20) (ht:t<21) (x:Int):zH (w.setCell (af tb (3+n*21+t)) (ab x)) tb yu nT yl gN nN xY kb (VU R n (λu=>if u=t then x else R n u)) E:=by
 obtain⟨cs,h1,hs,h2,h3,h4,h5,h6⟩:=h;refine⟨_,A6 h1 _,by simpa using hs,?_,?_,?_,λn' t' hn' ht'=>?_,λm hm=>?_⟩
 ·rw[dz (by omega)];exact h2
 ·rw[dz (by omega)];exact h3
 ·rw[dz (by omega)];exact h4
 ·unfold VU
  by_cases e:n'=n
  ·subst e
   by_cases e2:t'=t
   ·subst e2
    rw[xy (by omega)];simp
   ·rw[dz (by omega),h5 n' t' hn' ht']
    simp[e2]
  ·rw[dz (by omega),h5 n' t' hn' ht']
   simp[e]
 ·rw[dz (by omega)];exact h6 m hm
theorem zH.air (h:zH w tb yu nT yl gN nN xY kb R E)  (hn:n<20) (x:Nat):zH (w.setCell (af tb (423+n)) (ab (x:Int))) tb yu nT yl gN nN xY kb R (λm=>if m=n then x else E m):=by
 obtain⟨cs,h1,hs,h2,h3,h4,h5,h6⟩:=h;refine⟨_,A6 h1 _,by simpa using hs,?_,?_,?_,λn' t' hn' ht'=>?_,λm hm=>?_⟩
 ·rw[dz (by omega)];exact h2
 ·rw[dz (by omega)];exact h3
 ·rw[dz (by omega)];exact h4
 ·rw[dz (by omega)];exact h5 n' t' hn' ht'
 ·by_cases e:m=n
  ·subst e
   rw[xy (by omega)];simp
  ·rw[dz (by omega),h6 m hm]
   simp[e]
end
theorem zK.tab {W0 W:World}{n₀ tb kb:Nat}{yL:List ByteArray}{pg:List Nm}{yu:Option Addr}{yl gN xY:Nat}{k:List Fa}{R:Nat->Nat->Int}{E:Nat->Nat}{S:List Nat} (h:zK W0 n₀ tb kb N yL pg yu yl gN xY k) (hS:∀q∈S,n₀<=q/\q≠kb) (hk:A1 W0 W S) (hv:zH W tb yu N.nT yl gN N.nN xY kb R E):zK W n₀ tb kb N yL pg yu yl gN xY k where
 gr:=h.gr.below (hk.below h.ln (λq hq=>(hS q hq).1))
 n0:=h.n0
 ne:=h.ne
 lf:=hv.lt
 f0:=hv.Ar.1
 f1:=hv.Ar.2.1
 f2:=hv.Ar.2.2
 kn:=h.kn.keeps hk (λhm=>(hS kb hm).2 rfl)
end
end Go.Proofs.YtjjggdcnpndgjaaGreatDoor
