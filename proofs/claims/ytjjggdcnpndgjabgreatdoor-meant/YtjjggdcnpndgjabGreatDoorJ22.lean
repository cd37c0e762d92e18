import Derived.Test.YtjjggdcnpndgjabGreatDoorJ21
import Derived.Test.YtjjggdcnpndgjabGreatDoorJ17
import Derived.Deep.DeepCutAuto
set_option linter.unusedSimpArgs false
set_option maxHeartbeats 4000000
set_option maxRecDepth 100000
namespace Go.Proofs.YtjjggdcnpndgjabGreatDoor
open Go.RowKit Go.Shelf
variable {N:NG}{R:Nat->Int}{S:Nat->Nat}{n r t x:Nat}
def wtV (a:Wt):Value:=.agg #[ab (a.1:Int),ab (a.2:Int)]
theorem o4 (w:World) (A:Array Value) (B C:Obj) (t:Nat) (f:Nat × Nat):(((w.alloc (.cells A t f)).alloc B).alloc C).drew.heap[w.heap.size]?=some (.cells A t f):=by
 have z0:(w.alloc (.cells A t f)).heap[w.heap.size]?=some (.cells A t f):=World.alloc_heap_new w _;have z1:=(Below.heap_alloc _ B _ (lt_of_block z0)).trans z0;exact(Below.heap_alloc _ C _ (lt_of_block z1)).trans z1
theorem oH (w:World) (A:Obj) (B:Array Value) (C:Obj) (t:Nat) (f:Nat × Nat):(((w.alloc A).alloc (.cells B t f)).alloc C).drew.heap[w.heap.size+1]?=some (.cells B t f):=by
 have z0:((w.alloc A).alloc (.cells B t f)).heap[w.heap.size+1]?=some (.cells B t f):=by
  have h:=World.alloc_heap_new (w.alloc A) (.cells B t f)
  rwa [World.size_alloc]at h
 exact(Below.heap_alloc _ C _ (lt_of_block z0)).trans z0
theorem P2 (w:World) (A:Obj) (B:Array Value) (t:Nat) (f:Nat × Nat):((w.alloc A).alloc (.cells B t f)).heap[w.heap.size+1]?=some (.cells B t f):=by
 have h:=World.alloc_heap_new (w.alloc A) (.cells B t f)
 rwa [World.size_alloc]at h
theorem wF (w:World) (A B:Obj) (C:Array Value) (t:Nat) (f:Nat × Nat):(((w.alloc A).alloc B).alloc (.cells C t f)).drew.heap[w.heap.size+1+1]?=some (.cells C t f):=by
 have h:=World.alloc_heap_new ((w.alloc A).alloc B) (.cells C t f)
 rwa [World.size_alloc,World.size_alloc]at h
theorem QI (a1 a2 b1 b2:Nat) (h1:a1+b1<=4611686018427387904) (ha:a2<=939524097) (hb:b2<=939524097) (w:World):
  Calls Tryz.prog 83 #[.agg #[ab a1,ab a2],.agg #[ab b1,ab b2]] w fun e w'=>e=.returned (wtV (GE (a1,a2) (b1,b2)))/\Below w.heap.size w w':=by
 have CA:Hid (∀W,Calls Tryz.prog 77 #[ab a2,ab b2] W fun e w'=>e=.returned (ab (DJ a2 b2))/\W=w'):=hid fun W=>N7 a2 b2 ha hb W
 have hw:IntKind.i64.wrap ((a1:Int)+(b1:Int))=(a1:Int)+(b1:Int):=by rw[w64];omega
 go_enter Tryz.func83,Tryz.ntmps83
 go_upto_region 1 with fail
 refine AE (fun w'=>w'.cell? (af w.heap.size 0)=some (ab a1)/\w'.cell? (af w.heap.size 1)=some (ab a2)/\w'.cell? (af (w.heap.size+1) 0)=some (ab b1)/\w'.cell? (af (w.heap.size+1) 1)=some (ab b2)) y1Z y1Z ?_ (fun hH=>?_)
 ·exact⟨(A0 (o4 w _ _ _ _ _)).trans rfl,(A0 (o4 w _ _ _ _ _)).trans rfl,(A0 (oH w _ _ _ _ _)).trans rfl,(A0 (oH w _ _ _ _ _)).trans rfl⟩
 simp only[AC,BM,AO];refine tB 0 hH ?_;refine tL ?_;refine tB 1 hH ?_;refine tL ?_;refine tB 2 hH ?_;refine tL ?_;refine tB 3 hH ?_;refine tL ?_;refine tB 4 hH ?_;refine tL ?_;refine tB 5 hH ?_;refine tL ?_;refine tB 6 hH ?_;refine tL ?_;refine tB 7 hH ?_;refine tL ?_;refine tB 8 hH ?_;refine tL ?_;refine tS 9 fun K hK=>?_
 refine tM ?_
 go_simp;refine(CA.out _).mono ?_;rintro e w' ⟨rfl,rfl⟩;try dsimp only
 refine hK.out _ _ ?_ fun hH=>?_
 ·exact hH
 clear hK K;refine tL ?_;refine tB 10 hH ?_;refine tL ?_;refine tB 11 hH ?_;refine tL ?_;refine wpAnyH_done y1Z ?_ _;clear hH;show wpList _ _ _ _ _ _;go_wp2;refine⟨rfl,_,FV (p:=4) (ty:=175) rfl _ _ (w.heap.size+1+1) _ _ _ _ rfl (wF w _ _ _ _ _) Tryz.underlying175 rfl y1Z,?_⟩;exact⟨by unfold wtV GE DJ FZ;simp,(((Below.refl w.heap.size w).alloc (lR_ _) _).alloc y5Z _ |>.alloc (by rw[World.size_alloc,World.size_alloc];omega) _).drew⟩
theorem UL (a1 a2:Nat) (h1:a1<=4611686018427387904) (ha:a2<=939524097) (w:World):
  Calls Tryz.prog 112 #[.agg #[ab a1,ab a2]] w fun e w'=>e=.returned (wtV (named (a1,a2)))/\Below w.heap.size w w':=by
 have CP:Hid (∀W,Calls Tryz.prog 83 #[.agg #[ab a1,ab a2],.agg #[ab 0,ab 1]] W fun e w'=>e=.returned (wtV (GE (a1,a2) (0,1)))/\Below W.heap.size W w'):=hid fun W=>QI a1 a2 0 1 (by omega) ha (by omega) W
 go_enter Tryz.func112,Tryz.ntmps112
 go_wp2_with (go_at_call 83;refine(CP.out _).mono ?_;rintro e w2 ⟨rfl,hb2⟩;have HB:Hid (Below w.heap.size w w2):=hid (((bal (Below.refl w.heap.size w)).alloc y5Z _).trans (hb2.mono (by rw[World.size_alloc,World.size_alloc];omega)));have zz:=(hb2.block (w.heap.size+1) (lt_of_block (P2 w _ _ _ _))).trans (P2 w _ _ _ _);have HZ:=hid zz;have c0:=(A0 (j:=0) zz).trans rfl;have c1:=(A0 (j:=1) zz).trans rfl;have f0:=A3 (j:=0) zz;have f1:=A3 (j:=1) zz;clear hb2 zz;unfold wtV)
 refine⟨rfl,_,FV (p:=2) (ty:=175) rfl _ _ (w.heap.size+1) _ _ _ _ rfl (A5 (j:=1) (A5 (j:=0) HZ.out _) _) Tryz.underlying175 rfl y1Z,?_⟩;exact⟨rfl,(HB.out.setCell y11Z _).setCell y11Z _⟩
def wlt (a b:Wt):Prop:=a.1<b.1\/a.1=b.1/\a.2<b.2
instance (a b:Wt):Decidable (wlt a b):=by unfold wlt;infer_instance
theorem IE (w:World) (o:Obj):Below w.heap.size w (w.alloc o):=(Below.refl _ _).alloc (lR_ _) _
theorem Mz26 {P:Prop} (h:P:=by
  refine tL ?_;refine tB 23 hH ?_;refine tL ?_;refine tB 24 hH ?_;refine tL ?_;refine tB 25 hH ?_;refine tL ?_;refine wpAnyH_done y1Z ?_ _;clear hH;obtain⟨W,hW⟩:=qE ((w.alloc (.cells #[ab y1,ab y2] 175)).drew);rw[hW]at b1 b2 c1 c2 g1 g2 HBW ⊢;clear hW;go_wp2;go_ret;exact⟨rfl,HBW.out⟩):P:=h
theorem Mz27 {P:Prop} (h:P:=by
  refine tL ?_;refine tB 24 hH ?_;refine tL ?_;refine tB 25 hH ?_;refine tL ?_;refine wpAnyH_done y1Z ?_ _;clear hH;obtain⟨W,hW⟩:=qE ((w.alloc (.cells #[ab y1,ab y2] 175)).drew);rw[hW]at b1 b2 c1 c2 g1 g2 HBW ⊢;clear hW;go_wp2;go_ret;exact⟨rfl,_,HBW.out,rfl⟩):P:=h
theorem RL (g o x1 x2 y1 y2:Nat) (w:World) (h1:w.cell? (af g o)=some (ab x1)) (h2:w.cell? (af g (o+1))=some (ab x2)) (hf:∀j,w.frozen? (af g j)=false):
  Calls Tryz.prog 81 #[.pointer (some (af g o)),.agg #[ab y1,ab y2]] w fun e w'=>
   e=.returned (.bool (decide (wlt (y1,y2) (x1,x2))))/\∃w1,Below w.heap.size w w1/\w'=if wlt (y1,y2) (x1,x2)then(w1.setCell (af g o) (ab y1)).setCell (af g (o+1)) (ab y2)else w1:=by
 have hg:g<w.heap.size:=World.block_lt_of_cell? w _ h1
 by_cases hlt:y1<x1
 ·have hi:((y1:Int)< (x1:Int)):=by omega
  have hd:wlt (y1,y2) (x1,x2):=.inl hlt;simp only[if_pos hd,decide_eq_true hd];clear hd;have hbw:Below w.heap.size w (w.alloc (.cells #[ab y1,ab y2] 175)).drew:=(IE w _).drew;have z0:(w.alloc (.cells #[ab y1,ab y2] 175)).drew.heap[w.heap.size]?=some (.cells #[ab y1,ab y2] 175 (0,0)):=World.alloc_heap_new w _;have b1:=(A0 (j:=0) z0).trans rfl;have b2:=(A0 (j:=1) z0).trans rfl;have c1:=(hbw.cell (p:=(af g o)) y12Z).trans h1;have c2:=(hbw.cell (p:=(af g (o+1))) y12Z).trans h2;have g1:=(hbw.frozen (p:=(af g o)) y12Z).trans (hf o);have g2:=(hbw.frozen (p:=(af g (o+1))) y12Z).trans (hf (o+1));have HBW:=hid hbw;clear hbw z0 h1 h2 hf
  go_enter Tryz.func81,Tryz.ntmps81
  go_upto_region 1 with fail
  refine wp_region_held_drew (S:=fun w'=>w'.cell? (af w.heap.size 0)=some (ab y1)/\w'.cell? (af w.heap.size 1)=some (ab y2)/\w'.cell? (af g o)=some (ab x1)/\w'.cell? (af g (o+1))=some (ab x2)) y1Z ⟨b1,b2,c1,c2⟩ (fun hH=>?_);refine tB 0 hH ?_;refine tL ?_;refine tB 1 hH ?_;refine tL ?_;refine tB 2 hH ?_;refine tL ?_;refine tB 3 hH ?_;refine tL ?_;refine tB 4 hH ?_;refine tL ?_;refine tB 5 hH ?_;refine tL ?_;refine tB 6 hH ?_;refine tL ?_;refine tB 7 hH ?_;refine tL ?_;refine wpAnyH_take (i:=8) (v:=undef) rfl y1Z y1Z y1Z (fun _ _ _ h=>h) (Or.inr ⟨by rfl,rfl⟩) hH ?_;refine tL ?_;refine wpAnyH_take (i:=9) (v:=undef) rfl y1Z y1Z y1Z (fun _ _ _ h=>h) (Or.inr ⟨by rfl,rfl⟩) hH ?_;refine tL ?_;refine wpAnyH_take (i:=10) (v:=undef) rfl y1Z y1Z y1Z (fun _ _ _ h=>h) (Or.inr ⟨by rfl,rfl⟩) hH ?_
  refine tL ?_;refine wpAnyH_take (i:=11) (v:=undef) rfl y1Z y1Z y1Z (fun _ _ _ h=>h) (Or.inr ⟨by rfl,rfl⟩) hH ?_;refine tL ?_;refine wpAnyH_take (i:=12) (v:=undef) rfl y1Z y1Z y1Z (fun _ _ _ h=>h) (Or.inr ⟨by rfl,rfl⟩) hH ?_;refine tL ?_;refine wpAnyH_take (i:=13) (v:=undef) rfl y1Z y1Z y1Z (fun _ _ _ h=>h) (Or.inr ⟨by rfl,rfl⟩) hH ?_;refine tL ?_;refine wpAnyH_take (i:=14) (v:=undef) rfl y1Z y1Z y1Z (fun _ _ _ h=>h) (Or.inr ⟨by rfl,rfl⟩) hH ?_;refine tL ?_;refine wpAnyH_take (i:=15) (v:=undef) rfl y1Z y1Z y1Z (fun _ _ _ h=>h) (Or.inr ⟨by rfl,rfl⟩) hH ?_;refine tL ?_;refine wpAnyH_take (i:=16) (v:=undef) rfl y1Z y1Z y1Z (fun _ _ _ h=>h) (Or.inr ⟨by rfl,rfl⟩) hH ?_;refine tL ?_
  refine wpAnyH_take (i:=17) (v:=undef) rfl y1Z y1Z y1Z (fun _ _ _ h=>h) (Or.inr ⟨by rfl,rfl⟩) hH ?_;refine tL ?_;refine wpAnyH_take (i:=18) (v:=undef) rfl y1Z y1Z y1Z (fun _ _ _ h=>h) (Or.inr ⟨by rfl,rfl⟩) hH ?_;refine tL ?_;refine wpAnyH_take (i:=19) (v:=undef) rfl y1Z y1Z y1Z (fun _ _ _ h=>h) (Or.inr ⟨by rfl,rfl⟩) hH ?_;refine tL ?_;refine wpAnyH_take (i:=20) (v:=undef) rfl y1Z y1Z y1Z (fun _ _ _ h=>h) (Or.inr ⟨by rfl,rfl⟩) hH ?_;refine tL ?_;refine wpAnyH_take (i:=21) (v:=undef) rfl y1Z y1Z y1Z (fun _ _ _ h=>h) (Or.inr ⟨by rfl,rfl⟩) hH ?_;refine tL ?_;refine wpAnyH_take (i:=22) (v:=undef) rfl y1Z y1Z y1Z (fun _ _ _ h=>h) (Or.inr ⟨by rfl,rfl⟩) hH ?_;refine tL ?_;refine wpAnyH_take (i:=23) (v:=undef) rfl y1Z y1Z y1Z (fun _ _ _ h=>h) (Or.inr ⟨by rfl,rfl⟩) hH ?_
  exact Mz27
 have hi:¬((y1:Int)< (x1:Int)):=by omega
 by_cases he:y1=x1
 ·by_cases hl2:y2<x2
  ·have hi2:((y2:Int)< (x2:Int)):=by omega
   have hi3:((y1:Int)==(x1:Int))=true:=by rw[beq_iff_eq];omega
   have hd:wlt (y1,y2) (x1,x2):=.inr ⟨he,hl2⟩;simp only[if_pos hd,decide_eq_true hd];clear he;clear hd;have hbw:Below w.heap.size w (w.alloc (.cells #[ab y1,ab y2] 175)).drew:=(IE w _).drew;have z0:(w.alloc (.cells #[ab y1,ab y2] 175)).drew.heap[w.heap.size]?=some (.cells #[ab y1,ab y2] 175 (0,0)):=World.alloc_heap_new w _;have b1:=(A0 (j:=0) z0).trans rfl;have b2:=(A0 (j:=1) z0).trans rfl;have c1:=(hbw.cell (p:=(af g o)) y12Z).trans h1;have c2:=(hbw.cell (p:=(af g (o+1))) y12Z).trans h2;have g1:=(hbw.frozen (p:=(af g o)) y12Z).trans (hf o);have g2:=(hbw.frozen (p:=(af g (o+1))) y12Z).trans (hf (o+1));have HBW:=hid hbw;clear hbw z0 h1 h2 hf
   go_enter Tryz.func81,Tryz.ntmps81
   go_upto_region 1 with fail
   refine wp_region_held_drew (S:=fun w'=>w'.cell? (af w.heap.size 0)=some (ab y1)/\w'.cell? (af w.heap.size 1)=some (ab y2)/\w'.cell? (af g o)=some (ab x1)/\w'.cell? (af g (o+1))=some (ab x2)) y1Z ⟨b1,b2,c1,c2⟩ (fun hH=>?_);refine tB 0 hH ?_;refine tL ?_;refine tB 1 hH ?_;refine tL ?_;refine tB 2 hH ?_;refine tL ?_;refine tB 3 hH ?_;refine tL ?_;refine tB 4 hH ?_;refine tL ?_;refine tB 5 hH ?_;refine tL ?_;refine tB 6 hH ?_;refine tL ?_;refine tB 7 hH ?_;refine tL ?_;refine tB 8 hH ?_;refine tL ?_;refine tB 9 hH ?_;refine tL ?_;refine tB 10 hH ?_;refine tL ?_;refine tB 11 hH ?_;refine tL ?_;refine tB 12 hH ?_;refine tL ?_;refine tB 13 hH ?_;refine tL ?_;refine tB 14 hH ?_;refine tL ?_;refine tB 15 hH ?_;refine tL ?_;refine tB 16 hH ?_;refine tL ?_;refine tB 17 hH ?_;refine tL ?_;refine tB 18 hH ?_;refine tL ?_;refine tB 19 hH ?_;refine tL ?_;refine tB 20 hH ?_;refine tL ?_;refine tB 21 hH ?_
   refine tL ?_;refine tB 22 hH ?_;refine tL ?_;refine tB 23 hH ?_;exact Mz27
  ·have hi2:¬((y2:Int)< (x2:Int)):=by omega
   have hi3:((y1:Int)==(x1:Int))=true:=by rw[beq_iff_eq];omega
   have hd:¬wlt (y1,y2) (x1,x2):=by unfold wlt;simp only;omega
   simp only[if_neg hd,decide_eq_false hd];clear he;clear hd;have hbw:Below w.heap.size w (w.alloc (.cells #[ab y1,ab y2] 175)).drew:=(IE w _).drew;have z0:(w.alloc (.cells #[ab y1,ab y2] 175)).drew.heap[w.heap.size]?=some (.cells #[ab y1,ab y2] 175 (0,0)):=World.alloc_heap_new w _;have b1:=(A0 (j:=0) z0).trans rfl;have b2:=(A0 (j:=1) z0).trans rfl;have c1:=(hbw.cell (p:=(af g o)) y12Z).trans h1;have c2:=(hbw.cell (p:=(af g (o+1))) y12Z).trans h2;have g1:=(hbw.frozen (p:=(af g o)) y12Z).trans (hf o);have g2:=(hbw.frozen (p:=(af g (o+1))) y12Z).trans (hf (o+1));have HBW:=hid hbw;clear hbw z0 h1 h2 hf
   go_enter Tryz.func81,Tryz.ntmps81
   go_upto_region 1 with fail
   refine wp_region_held_drew (S:=fun w'=>w'.cell? (af w.heap.size 0)=some (ab y1)/\w'.cell? (af w.heap.size 1)=some (ab y2)/\w'.cell? (af g o)=some (ab x1)/\w'.cell? (af g (o+1))=some (ab x2)) y1Z ⟨b1,b2,c1,c2⟩ (fun hH=>?_);refine tB 0 hH ?_;refine tL ?_;refine tB 1 hH ?_;refine tL ?_;refine tB 2 hH ?_;refine tL ?_;refine tB 3 hH ?_;refine tL ?_;refine tB 4 hH ?_;refine tL ?_;refine tB 5 hH ?_;refine tL ?_;refine tB 6 hH ?_;refine tL ?_;refine tB 7 hH ?_;refine tL ?_;refine tB 8 hH ?_;refine tL ?_;refine tB 9 hH ?_;refine tL ?_;refine tB 10 hH ?_;refine tL ?_;refine tB 11 hH ?_;refine tL ?_;refine tB 12 hH ?_;refine tL ?_;refine tB 13 hH ?_;refine tL ?_;refine tB 14 hH ?_;refine tL ?_;refine tB 15 hH ?_;refine tL ?_;refine tB 16 hH ?_;refine tL ?_;refine tB 17 hH ?_;refine tL ?_;refine tB 18 hH ?_;refine tL ?_;refine tB 19 hH ?_;refine tL ?_;refine tB 20 hH ?_;refine tL ?_;refine tB 21 hH ?_
   refine tL ?_;refine tB 22 hH ?_;exact Mz26
 ·have hi3:((y1:Int)==(x1:Int))=false:=by rw[beq_eq_false_iff_ne];omega
  have hd:¬wlt (y1,y2) (x1,x2):=by unfold wlt;simp only;omega
  simp only[if_neg hd,decide_eq_false hd];clear hd;have hbw:Below w.heap.size w (w.alloc (.cells #[ab y1,ab y2] 175)).drew:=(IE w _).drew;have z0:(w.alloc (.cells #[ab y1,ab y2] 175)).drew.heap[w.heap.size]?=some (.cells #[ab y1,ab y2] 175 (0,0)):=World.alloc_heap_new w _;have b1:=(A0 (j:=0) z0).trans rfl;have b2:=(A0 (j:=1) z0).trans rfl;have c1:=(hbw.cell (p:=(af g o)) y12Z).trans h1;have c2:=(hbw.cell (p:=(af g (o+1))) y12Z).trans h2;have g1:=(hbw.frozen (p:=(af g o)) y12Z).trans (hf o);have g2:=(hbw.frozen (p:=(af g (o+1))) y12Z).trans (hf (o+1));have HBW:=hid hbw;clear hbw z0 h1 h2 hf
  go_enter Tryz.func81,Tryz.ntmps81
  go_upto_region 1 with fail
  refine wp_region_held_drew (S:=fun w'=>w'.cell? (af w.heap.size 0)=some (ab y1)/\w'.cell? (af w.heap.size 1)=some (ab y2)/\w'.cell? (af g o)=some (ab x1)/\w'.cell? (af g (o+1))=some (ab x2)) y1Z ⟨b1,b2,c1,c2⟩ (fun hH=>?_);refine tB 0 hH ?_;refine tL ?_;refine tB 1 hH ?_;refine tL ?_;refine tB 2 hH ?_;refine tL ?_;refine tB 3 hH ?_;refine tL ?_;refine tB 4 hH ?_;refine tL ?_;refine tB 5 hH ?_;refine tL ?_;refine tB 6 hH ?_;refine tL ?_;refine tB 7 hH ?_;refine tL ?_;refine tB 8 hH ?_;refine tL ?_;refine tB 9 hH ?_;refine tL ?_;refine tB 10 hH ?_;refine tL ?_;refine tB 11 hH ?_;refine tL ?_;refine tB 12 hH ?_;refine tL ?_;refine tB 13 hH ?_;refine tL ?_;refine tB 14 hH ?_;refine tL ?_;refine tB 15 hH ?_;refine tL ?_;refine wpAnyH_take (i:=16) (v:=undef) rfl y1Z y1Z y1Z (fun _ _ _ h=>h) (Or.inr ⟨by rfl,rfl⟩) hH ?_;refine tL ?_;refine wpAnyH_take (i:=17) (v:=undef) rfl y1Z y1Z y1Z (fun _ _ _ h=>h) (Or.inr ⟨by rfl,rfl⟩) hH ?_
  refine tL ?_;refine wpAnyH_take (i:=18) (v:=undef) rfl y1Z y1Z y1Z (fun _ _ _ h=>h) (Or.inr ⟨by rfl,rfl⟩) hH ?_;refine tL ?_;refine wpAnyH_take (i:=19) (v:=undef) rfl y1Z y1Z y1Z (fun _ _ _ h=>h) (Or.inr ⟨by rfl,rfl⟩) hH ?_;refine tL ?_;refine wpAnyH_take (i:=20) (v:=undef) rfl y1Z y1Z y1Z (fun _ _ _ h=>h) (Or.inr ⟨by rfl,rfl⟩) hH ?_;refine tL ?_;refine wpAnyH_take (i:=21) (v:=undef) rfl y1Z y1Z y1Z (fun _ _ _ h=>h) (Or.inr ⟨by rfl,rfl⟩) hH ?_;refine tL ?_;refine wpAnyH_take (i:=22) (v:=undef) rfl y1Z y1Z y1Z (fun _ _ _ h=>h) (Or.inr ⟨by rfl,rfl⟩) hH ?_;exact Mz26
theorem MU (w:World) (wb gd nd cd i j a b:Nat) (h2:w.cell? (af wb 2)=some (ae gd nd cd)) (hi:i<nd) (hj:j<nd) (_:nd<=1000)
  (ha:w.cell? (af gd i)=some (ab a)) (hb:w.cell? (af gd j)=some (ab b)) (hab:a<=b) (hb6:b<=4611686018427387904):
  Calls Tryz.prog 84 #[ac wb,ab i,ab j] w fun e w'=>e=.returned (ab ((b - a:Nat):Int))/\Below w.heap.size w w':=by
 have hwr:IntKind.i64.wrap ((b:Int) - (a:Int))=((b - a:Nat):Int):=by rw[w64];omega
 have hW:Hid (Below w.heap.size w w.drew):=hid (Below.refl _ _).drew
 go_enter Tryz.func84,Tryz.ntmps84
 go_upto_region 1 with fail
 refine wp_region_held_drew (S:=fun w'=>w'.cell? (af wb 2)=some (ae gd nd cd)/\w'.cell? (af gd i)=some (ab a)/\w'.cell? (af gd j)=some (ab b)) y1Z ⟨h2,ha,hb⟩ (fun hH=>?_);refine tB 0 hH ?_;refine tB 1 hH ?_;refine tB 2 hH ?_;refine tB 3 hH ?_;refine tB 4 hH ?_;refine tB 5 hH ?_;refine tB 6 hH ?_;refine tB 7 hH ?_;refine tB 8 hH ?_;refine tB 9 hH ?_;refine tB 10 hH ?_;refine tB 11 hH ?_;refine tB 12 hH ?_;refine tB 13 hH ?_;refine tB 14 hH ?_;refine tB 15 hH ?_;refine tL ?_;refine wpAnyH_done y1Z ?_ _;clear hH;go_wp2;go_ret;exact⟨by first |rfl |rw[hwr],hW.out⟩
theorem ZZ {w:World}{n₀:Nat}{tws:List ByteArray}{pg:List Nm}{adT:Option Addr}{capT gN capN:Nat} (hP:PGr w n₀ N tws pg adT capT gN capN) (h0:n₀<=w.heap.size) (t u:Nat) (ht:t<N.nT) (hu:u<N.nT):
  Calls Tryz.prog 128 #[.agg #[.slice adT N.nT capT,ae gN N.nN capN],ab t,ab u] w fun e w'=>e=.returned (.tuple #[ab (N.swp t u),.bool (decide (0<N.swp t u))])/\Below w.heap.size w w':=by
 have hn20:=hP.leT;obtain⟨gT,gs,cs,rfl,hgT,_,c1,hgs,hcs,c2⟩:=hP.toks2 t ht;have c3:=c2 u hu;have hgT:gT<w.heap.size:=lL hgT h0;have hgs:gs<w.heap.size:=lL hgs h0;obtain⟨nN,hn1⟩:=qF (N.nN);obtain⟨nT,hn2⟩:=qF (N.nT);obtain⟨s,hs⟩:=qF (N.swp t u);rw[<-hs]at c3 ⊢;rw[<-hn2]at hn20 ht hu c1 hcs ⊢;rw[<-hn1];clear hP hn1 hn2 hs h0 c2;have HB:Hid (Below w.heap.size w (w.alloc (.cells #[ae gT nT capT,ae gN nN capN] 69))):=hid (IE w _)
 go_enter Tryz.func128,Tryz.ntmps128
 go_wp2
 go_ret2
 exact⟨rfl,HB.out⟩
def SA {α:Type} (L:List (List α)) (k:Nat):List (Nat × α):=(L.zipIdx k).flatMap fun x=>x.1.map fun ps=>(x.2,ps)
def RK {α:Type} (L:List (List α)) (n:Nat):Nat:=((L.take n).map List.length).sum
theorem UQ {α:Type} (rs:List α) (L:List (List α)) (k:Nat):SA (rs::L) k=rs.map (fun ps=>(k,ps))++SA L (k+1):=by
 unfold SA;rw[List.zipIdx_cons,List.flatMap_cons]
theorem aO {α:Type}:∀(L:List (List α)) (k n r:Nat) (rs:List α) (ps:α),L[n]?=some rs->rs[r]?=some ps->(SA L k)[RK L n+r]?=some (k+n,ps)
 | [],_,_,_,_,_,h,_=>by simp at h
 |qs::L,k,0,r,rs,ps,h,h2=>by
  simp only[List.getElem?_cons_zero,Option.some.injEq]at h;subst h;have hr:=(gS_.1 h2).1;rw[UQ,show RK (qs::L) 0+r=r by simp[RK],aL (by simpa using hr),gM,h2];rfl
 |qs::L,k,n+1,r,rs,ps,h,h2=>by
  have h:=aO L (k+1) n r rs ps y20Z h2;have e:RK (qs::L) (n+1)+r=qs.length+(RK L n+r):=by simp[RK];omega
  rw[UQ,e,aR_ (by simp),lM,show qs.length+(RK L n+r) - qs.length=RK L n+r by omega,h]
  congr 2
  omega
def QR (N:NG) (n:Nat) (ps:List Pt) (t:Nat):Bool:=DT (bAt (BN N false)) (col (IU N (bAt (BN N false))) t) t ps||(FA (bAt (BN N false)) ps&&col (OG N (IU N (bAt (BN N false))) (bAt (BN N false))) t n)
theorem qH {k:List Fa} (h1:emP k=bAt (BN N false)) (h2:∀n t,(AL k n).testBit t=col (IU N (bAt (BN N false))) t n) (h3:∀n t,(B2 k n).testBit t=col (OG N (IU N (bAt (BN N false))) (bAt (BN N false))) t n) (n:Nat) (ps:List Pt) (t:Nat):
  (DU k ps (B2 k n)).testBit t=QR N n ps t:=by
 rw[JP,h1,h3];have e:(fun n=>(AL k n).testBit t)=col (IU N (bAt (BN N false))) t:=by funext m;exact h2 m t
 rw[e];rfl
def qP (N:NG) (L:List (List (List Pt))) (n:Nat):Prop:=∀(rs:List (List Pt)) (r0 r:Nat) (p0 p:List Pt) (t:Nat),L[n]?=some rs->r0<r->rs[r0]?=some p0->rs[r]?=some p->t<=N.nT->¬(QR N n p0 t=true/\QR N n p t=true)
structure wW (N:NG) (L:List (List (List Pt))) (n r0 r t:Nat):Prop where
 ex:∃(rs:List (List Pt)) (p0 p:List Pt),L[n]?=some rs/\r0<r/\rs[r0]?=some p0/\rs[r]?=some p/\t<=N.nT/\QR N n p0 t=true/\QR N n p t=true
 no:∀m,m<n->qP N L m
section
def IY (S:Nat->Nat) (r:Nat) (R:Nat->Int) (t:Nat):Prop:=(R t= -1/\∀q,q<r->(S q).testBit t=false)\/(∃q:Nat,q<r/\R t=q/\(S q).testBit t=true/\∀q',q'<r->q'≠q->(S q').testBit t=false)
def T8 (S:Nat->Nat) (r:Nat) (pre:List Nat) (R:Nat->Int) (t:Nat):Prop:=(t∈pre/\R t=r/\(S r).testBit t=true/\∀q,q<r->(S q).testBit t=false)\/(t∉pre/\IY S r R t)
theorem pZ  (h:R t= -1):IY S 0 R t:=.inl ⟨h,fun q hq=>by omega⟩
theorem nC  (h:IY S r R t):T8 S r [] R t:=.inr ⟨by simp,h⟩
theorem rC {pre:List Nat} (h:∀t,t<21->T8 S r pre R t) (hx:x<21) (hb:(S r).testBit x=true) (hR:R x= -1):∀t,t<21->T8 S r (pre++ [x]) (fun u=>if u=x then(r:Int)else R u) t:=fun t ht=>by
 by_cases e:t=x
 ·subst e
  refine .inl ⟨by simp,by simp,hb,?_⟩
  rcases h t hx with⟨_,h1,_⟩ | ⟨_,h1 | ⟨q,_,h2,_⟩⟩
  ·omega
  ·exact h1.2
  ·omega
 ·rcases h t ht with⟨h1,h2,h3,h4⟩ | ⟨h1,h2⟩
  ·exact .inl ⟨by simp[h1],by simp[e,h2],h3,h4⟩
  ·refine .inr ⟨by simp[h1,e],?_⟩
   unfold IY;simp only[if_neg e];exact h2
theorem tU  (ht:t<21) (h:x.testBit t=true):t∈B1 x:=by
 unfold B1;exact List.mem_filter.2 ⟨List.mem_range.2 ht,h⟩
theorem S0  (h:t∈B1 x):t<21/\x.testBit t=true:=by
 unfold B1 at h;exact⟨List.mem_range.1 (List.mem_filter.1 h).1,(List.mem_filter.1 h).2⟩
theorem iZ (x:Nat):(B1 x).Nodup:=List.Pairwise.filter _ List.nodup_range
theorem p9  (ht:t<21) (h:T8 S r (B1 (S r)) R t):IY S (r+1) R t:=by
 rcases h with⟨_,h2,h3,h4⟩ | ⟨h1,h2⟩
 ·exact .inr ⟨r,by omega,h2,h3,fun q' hq hne=>h4 q' (by omega)⟩
 ·have hz:(S r).testBit t=false:=by
   cases hb:(S r).testBit t with
   |false=>rfl
   |true=>exact absurd (tU ht hb) h1
  rcases h2 with⟨h2,h3⟩ | ⟨q,h2,h3,h4,h5⟩
  ·refine .inl ⟨h2,fun q hq=>?_⟩
   by_cases e:q=r
   ·subst e;exact hz
   ·exact h3 q (by omega)
  ·refine .inr ⟨q,by omega,h3,h4,fun q' hq hne=>?_⟩
   by_cases e:q'=r
   ·subst e;exact hz
   ·exact h5 q' (by omega) hne
theorem o2 {pre:List Nat} (h:T8 S r pre R x) (hx:x∉pre) (hR:R x≠ -1):∃q:Nat,q<r/\R x=q/\(S q).testBit x=true:=by
 rcases h with⟨h1,_⟩ | ⟨_,⟨h1,_⟩ | ⟨q,h1,h2,h3,_⟩⟩
 ·exact absurd h1 hx
 ·exact absurd h1 hR
 ·exact⟨q,h1,h2,h3⟩
theorem oY  (h:IY S r R t) {q q':Nat} (hq:q<q') (hr:q'<r):¬((S q).testBit t=true/\(S q').testBit t=true):=by
 rintro⟨h1,h2⟩
 rcases h with⟨_,h3⟩ | ⟨p,_,_,_,h3⟩
 ·rw[h3 q (by omega)]at h1;cases h1
 ·by_cases e:q=p
  ·rw[h3 q' hr (by omega)]at h2;cases h2
  ·rw[h3 q (by omega) e]at h1;cases h1
def VY {α:Type} (R:Nat->α) (n:Nat) (f:α):Nat->α:=fun m=>if m=n then f else R m
def TbV (w:World) (tb:Nat) (adT:Option Addr) (nT capT gN nN capN kb:Nat) (R:Nat->Nat->Int) (E:Nat->Nat):Prop:=
 ∃cs,w.heap[tb]?=some (.cells cs 79 (0,0))/\cs.size=443/\cs[0]?=some (.slice adT nT capT)/\cs[1]?=some (ae gN nN capN)/\cs[2]?=some (ae kb nN nN)/\
  (∀n t,n<20->t<21->cs[3+n*21+t]?=some (ab (R n t)))/\∀m,m<20->cs[423+m]?=some (ab (E m))
section
variable {w w':World}{tb:Nat}{adT:Option Addr}{nT capT gN nN capN kb:Nat}{R:Nat->Nat->Int}{E:Nat->Nat}
theorem TbV.lt (h:TbV w tb adT nT capT gN nN capN kb R E):tb<w.heap.size:=by
 obtain⟨cs,h1,_⟩:=h;exact lt_of_block h1
theorem TbV.free (h:TbV w tb adT nT capT gN nN capN kb R E) (j:Nat):w.frozen? (af tb j)=false:=by
 obtain⟨cs,h1,_⟩:=h;exact A3 h1
theorem TbV.kind (h:TbV w tb adT nT capT gN nN capN kb R E):∃c e f,w.heap[tb]?=some (.cells c e f):=by
 obtain⟨cs,h1,_⟩:=h;exact⟨_,_,_,h1⟩
theorem TbV.heads (h:TbV w tb adT nT capT gN nN capN kb R E):w.cell? (af tb 0)=some (.slice adT nT capT)/\w.cell? (af tb 1)=some (ae gN nN capN)/\w.cell? (af tb 2)=some (ae kb nN nN):=by
 obtain⟨cs,h1,_,h2,h3,h4,_⟩:=h;exact⟨(A0 h1).trans h2,(A0 h1).trans h3,(A0 h1).trans h4⟩
theorem TbV.row (h:TbV w tb adT nT capT gN nN capN kb R E)  (hn:n<20) (ht:t<21):w.cell? (af tb (3+n*21+t))=some (ab (R n t)):=by
 obtain⟨cs,h1,_,_,_,_,h2,_⟩:=h;exact(A0 h1).trans (h2 n t hn ht)
theorem TbV.empty (h:TbV w tb adT nT capT gN nN capN kb R E) {m:Nat} (hm:m<20):w.cell? (af tb (423+m))=some (ab (E m)):=by
 obtain⟨cs,h1,_,_,_,_,_,h2⟩:=h;exact(A0 h1).trans (h2 m hm)
theorem TbV.block (h:TbV w tb adT nT capT gN nN capN kb R E) (hb:w'.heap[tb]?=w.heap[tb]?):TbV w' tb adT nT capT gN nN capN kb R E:=by
 obtain⟨cs,h1,h2⟩:=h;exact⟨cs,hb.trans h1,h2⟩
theorem TbV.keeps {S:List Nat} (h:TbV w tb adT nT capT gN nN capN kb R E) (hk:A1 w w' S) (hS:tb∉S):TbV w' tb adT nT capT gN nN capN kb R E:=h.block (hk.block tb h.lt hS)
theorem TbV.put (h:TbV w tb adT nT capT gN nN capN kb R E)  (hn:n<20) (ht:t<21) (x:Int):TbV (w.setCell (af tb (3+n*21+t)) (ab x)) tb adT nT capT gN nN capN kb (VY R n (fun u=>if u=t then x else R n u)) E:=by
 obtain⟨cs,h1,hs,h2,h3,h4,h5,h6⟩:=h;refine⟨_,A5 h1 _,by simpa using hs,?_,?_,?_,fun n' t' hn' ht'=>?_,fun m hm=>?_⟩
 ·rw[Array.getElem?_setIfInBounds_ne (by omega)];exact h2
 ·rw[Array.getElem?_setIfInBounds_ne (by omega)];exact h3
 ·rw[Array.getElem?_setIfInBounds_ne (by omega)];exact h4
 ·unfold VY
  by_cases e:n'=n
  ·subst e
   by_cases e2:t'=t
   ·subst e2
    rw[Array.getElem?_setIfInBounds_self_of_lt (by omega)];simp
   ·rw[Array.getElem?_setIfInBounds_ne (by omega),h5 n' t' hn' ht']
    simp[e2]
  ·rw[Array.getElem?_setIfInBounds_ne (by omega),h5 n' t' hn' ht']
   simp[e]
 ·rw[Array.getElem?_setIfInBounds_ne (by omega)];exact h6 m hm
theorem TbV.putE (h:TbV w tb adT nT capT gN nN capN kb R E)  (hn:n<20) (x:Nat):TbV (w.setCell (af tb (423+n)) (ab (x:Int))) tb adT nT capT gN nN capN kb R (fun m=>if m=n then x else E m):=by
 obtain⟨cs,h1,hs,h2,h3,h4,h5,h6⟩:=h;refine⟨_,A5 h1 _,by simpa using hs,?_,?_,?_,fun n' t' hn' ht'=>?_,fun m hm=>?_⟩
 ·rw[Array.getElem?_setIfInBounds_ne (by omega)];exact h2
 ·rw[Array.getElem?_setIfInBounds_ne (by omega)];exact h3
 ·rw[Array.getElem?_setIfInBounds_ne (by omega)];exact h4
 ·rw[Array.getElem?_setIfInBounds_ne (by omega)];exact h5 n' t' hn' ht'
 ·by_cases e:m=n
  ·subst e
   rw[Array.getElem?_setIfInBounds_self_of_lt (by omega)];simp
  ·rw[Array.getElem?_setIfInBounds_ne (by omega),h6 m hm]
   simp[e]
end
theorem FcM.tab {W0 W:World}{n₀ tb kb:Nat}{tws:List ByteArray}{pg:List Nm}{adT:Option Addr}{capT gN capN:Nat}{k:List Fa}{R:Nat->Nat->Int}{E:Nat->Nat}{S:List Nat} (h:FcM W0 n₀ tb kb N tws pg adT capT gN capN k) (hS:∀q∈S,n₀<=q/\q≠kb) (hk:A1 W0 W S) (hv:TbV W tb adT N.nT capT gN N.nN capN kb R E):FcM W n₀ tb kb N tws pg adT capT gN capN k where
 gr:=h.gr.below (hk.below h.ln (fun q hq=>(hS q hq).1))
 n0:=h.n0
 ne:=h.ne
 lf:=hv.lt
 f0:=hv.heads.1
 f1:=hv.heads.2.1
 f2:=hv.heads.2.2
 kn:=h.kn.keeps hk (fun hm=>(hS kb hm).2 rfl)
end
end Go.Proofs.YtjjggdcnpndgjabGreatDoor
