import Derived.Test.YtjjggdcnpndgjabGreatDoorJ14
import Derived.Laws.EntriesVeiled
set_option linter.unusedSimpArgs false
set_option maxHeartbeats 2000000
set_option maxRecDepth 100000
namespace Go.Proofs.YtjjggdcnpndgjabGreatDoor
open Go.RowKit Go.Shelf
def nmW (pg:List Nm) (i:Int):ByteArray:=(pg.getD i.toNat (ByteArray.empty,[])).1
def fp1 (a:Fa):Bool:=(a.least:Int)==202
def fp2 (a:Fa):Bool:= !a.reached
def fp3 (a:Fa):Bool:=(a.least:Int)==201
def FG (pg:List Nm) (k:List Fa):ByteArray × Int:=
 if 0<=DB fp1 k then(nmW pg (DB fp1 k),6)else if 0<=DB fp2 k then(nmW pg (DB fp2 k),7)else if 0<=DB fp3 k then(nmW pg (DB fp3 k),8)else(ByteArray.empty,0)
theorem WL {p:Fa->Bool}{k:List Fa} (h:0<=DB p k):∃i:Nat,DB p k=i/\i<k.length:=by
 unfold DB at h ⊢;cases hk:k.findIdx? p with
 |none=>rw[hk]at h;simp at h
 |some i=>
  rw[List.findIdx?_eq_some_iff_getElem]at hk;exact⟨i,rfl,hk.1⟩
theorem TK {p:Fa->Bool}{k:List Fa} (h:¬0<=DB p k):DB p k= -1:=by
 unfold DB at h ⊢;cases hk:k.findIdx? p with
 |none=>rfl
 |some i=>rw[hk]at h;simp at h
theorem Mz14 {P:Prop} (h:P:=by
  exact⟨(hb3.cell y61Z).trans hH.1,(hb3.cell y61Z).trans hH.2.1,(hb3.cell (by exact hf2)).trans hH.2.2.1,(hb3.cell (by exact hf2)).trans hH.2.2.2.1,hH.2.2.2.2.trans hb3⟩):P:=h
theorem Mz15 {P:Prop} (h:P:=by
  clear hnm hi hik;go_wp2
  go_quiet (fail)
  go_wp2
  go_ret2
  exact⟨by rw[HR.out];rfl,by repeat (first |exact HBw3.out |refine bdr ?_ |exact HBw3.out.trans ((Bzx _ _).mono HBw3.out.size))⟩):P:=h
theorem YF (w:World) (n₀ fb kb:Nat) (N:NG) (tws:List ByteArray) (pg:List Nm) (adT:Option Addr) (capT gN capN:Nat) (k:List Fa) (h:FcM w n₀ fb kb N tws pg adT capT gN capN k):
  Calls Tryz.prog 38 #[ac fb] w fun e w'=>e=.returned (.tuple #[.string (FG pg k).1,ab (FG pg k).2])/\Below w.heap.size w w':=by
 have H:=hid h;have hfw:=h.lf;have hn20:=h.gr.leN;clear h;obtain⟨nN,hn1⟩:=qF (N.nN);rw[<-hn1]at hn20;have HN:Hid (nN=N.nN):=hid hn1;have e1:∀args W,(callFunc 65 args).run Tryz.prog W=.ok (.enter 65 args) W:=enters_of Tryz.func65 y1Z rfl;have e2:∀args W,(callFunc 66 args).run Tryz.prog W=.ok (.enter 66 args) W:=enters_of Tryz.func66 y1Z rfl;have e3:∀args W,(callFunc 67 args).run Tryz.prog W=.ok (.enter 67 args) W:=enters_of Tryz.func67 y1Z rfl;have HI1:Hid (∀W,KnV W kb nN k->Calls Tryz.prog 68 #[ae kb nN nN,.func (.func 65) #[] #[]] W fun e w'=>e=.returned (ab (DB fp1 k))/\Below W.heap.size W w'):=hid fun W hW=>PW W kb nN k hW hn20 _ fp1 e1 iA
 have HI2:Hid (∀W,KnV W kb nN k->Calls Tryz.prog 68 #[ae kb nN nN,.func (.func 66) #[] #[]] W fun e w'=>e=.returned (ab (DB fp2 k))/\Below W.heap.size W w'):=hid fun W hW=>PW W kb nN k hW hn20 _ fp2 e2 jN
 have HI3:Hid (∀W,KnV W kb nN k->Calls Tryz.prog 68 #[ae kb nN nN,.func (.func 67) #[] #[]] W fun e w'=>e=.returned (ab (DB fp3 k))/\Below W.heap.size W w'):=hid fun W hW=>PW W kb nN k hW hn20 _ fp3 e3 jH
 clear e1 e2 e3 hn1
 go_enter Tryz.func38,Tryz.ntmps38
 have hnk:∀W,Below w.heap.size w W->KnV W kb nN k:=fun W hW=>by have h1:=H.out.kn.keeps (A1.of_below hW []) (by simp);rw[<-HN.out]at h1;exact h1
 have HNK:=hid hnk;clear hnk;go_wp2;obtain⟨W1,hW1⟩:=qE (w.alloc (.cells #[ab 6,.func (.func 65) #[] #[],ab 7,.func (.func 66) #[] #[],ab 8,.func (.func 67) #[] #[]] 156));have hc:∀j,W1.cell? (af w.heap.size j)= #[ab 6,.func (.func 65) #[] #[],ab 7,.func (.func 66) #[] #[],ab 8,.func (.func 67) #[] #[]][j]?:=fun j=>by rw[<-hW1];exact BG w _ _ j
 have hWb:Below w.heap.size w W1:=by rw[<-hW1];exact bal (Below.refl _ _)
 have hWs:w.heap.size<W1.heap.size:=by rw[<-hW1,World.size_alloc];omega
 have HWB:=hid hWb;have HCC:=hid hc;rw[hW1];clear hW1 hWb hc
 go_loopw [12] (fun i wr=>∃j:Nat,j<=3/\i=ab j/\Hid ((1<=j->¬0<=DB fp1 k)/\(2<=j->¬0<=DB fp2 k)/\(3<=j->¬0<=DB fp3 k))/\Hid (Below W1.heap.size W1 wr)) (fun i _=>3 - (intOf i).toNat)
 case atStart=>exact⟨0,by omega,rfl,⟨fun h=>by omega,fun h=>by omega,fun h=>by omega⟩,Below.refl _ _⟩
 case round=>
  obtain⟨j,hj,rfl,hE,hB⟩:=hrel;have hszr:=hB.out.size;have HBw:Hid (Below w.heap.size w wr):=hid (HWB.out.trans (hB.out.mono (by omega)));have HKr:Hid (FcM wr n₀ fb kb N tws pg adT capT gN capN k):=hid (H.out.below HBw.out);have f1:=HKr.out.f1;have f2:=HKr.out.f2;rw[<-HN.out]at f1 f2;have hfr:fb<wr.heap.size:=by omega
  by_cases hlt:j<3
  ·have hj3:j=0\/j=1\/j=2:=by omega
   rcases hj3 with rfl |rfl |rfl
   ·have d0:wr.cell? (af w.heap.size 0)=some (ab 6):=(hB.out.cell (p:=(af w.heap.size 0)) y81Z).trans (HCC.out 0)
    have d1:wr.cell? (af w.heap.size 1)=some (.func (.func 65) #[] #[]):=(hB.out.cell (p:=(af w.heap.size 1)) y81Z).trans (HCC.out 1);go_wp2;have g0:=BG wr #[ab 6,.func (.func 65) #[] #[]] 156 0;have g1:=BG wr #[ab 6,.func (.func 65) #[] #[]] 156 1;have g2:=A2 (.cells #[ab 6,.func (.func 65) #[] #[]] 156) f2;have g3:=A2 (.cells #[ab 6,.func (.func 65) #[] #[]] 156) f1;have HB2:Hid (Below wr.heap.size wr (wr.alloc (.cells #[ab 6,.func (.func 65) #[] #[]] 156))):=hid (bal (Below.refl _ _));have hs2:wr.heap.size< (wr.alloc (.cells #[ab 6,.func (.func 65) #[] #[]] 156)).heap.size:=by rw[World.size_alloc];omega
    obtain⟨W2,hW2⟩:=qE (wr.alloc (.cells #[ab 6,.func (.func 65) #[] #[]] 156));rw[hW2]at g0 g1 g2 g3 HB2 hs2 ⊢;clear hW2 d0 d1 f1 f2;have g0:W2.cell? (af wr.heap.size 0)=some (ab 6):=g0;have g1:W2.cell? (af wr.heap.size 1)=some (.func (.func 65) #[] #[]):=g1;have HBW2:Hid (Below w.heap.size w W2):=hid (HBw.out.trans (HB2.out.mono HBw.out.size));have CI:=HI1.out W2.drew (HNK.out W2.drew (bdr HBW2.out));obtain⟨x,hx⟩:=qE (DB fp1 k);rw[hx]at CI;have HCI:=hid CI;have HX:Hid (DB fp1 k=x):=hid hx;have hf2:fb<W2.heap.size:=by omega
    clear CI hx;refine wp_region_held_drew (S:=fun w'=>w'.cell? (af wr.heap.size 0)=some (ab 6)/\w'.cell? (af wr.heap.size 1)=some (.func (.func 65) #[] #[])/\w'.cell? (af fb 2)=some (ae kb nN nN)/\w'.cell? (af fb 1)=some (ae gN nN capN)/\Below W2.heap.size W2 w') y1Z ⟨g0,g1,g2,g3,bdr (Below.refl _ _)⟩ (fun hH=>?_);refine tB 0 hH ?_;refine tB 1 hH ?_;refine tB 2 hH ?_;refine tB 3 hH ?_;refine tB 4 hH ?_;refine tB 5 hH ?_;refine tL ?_;refine tS 6 fun K hK=>?_
    refine tM ?_;rw[if_pos (by rfl)];go_simp;refine HCI.out.mono ?_;rintro e w3 ⟨rfl,hb3⟩;refine hK.out _ _ ?_ fun hH=>?_
    ·exact Mz14
    clear hK K;refine tB 7 hH ?_;refine tL ?_;refine wpAnyH_done y1Z ?_ _;obtain⟨z0,z1,z2,z3,zb⟩:=hH;have hgN:=H.out.gr.hgN;have hln:=H.out.ln;have HB3:Hid (Below W1.heap.size W1 w3):=hid ((hB.out.trans (HB2.out.mono hB.out.size)).trans (zb.mono (by omega)));have HBw3:Hid (Below w.heap.size w w3):=hid (HBW2.out.trans (zb.mono HBW2.out.size));have hs3:wr.heap.size<w3.heap.size:=by have:=zb.size;omega
    have hf3:fb<w3.heap.size:=by have:=zb.size;omega
    have hg3:gN<w3.heap.size:=by have:=zb.size;omega
    clear g0 g1 g2 g3 hb3 zb z1 z2
    by_cases hx0:0<=x
    ·obtain⟨i,hi,hik⟩:=WL (p:=fp1) (k:=k) y38Z
     have hxi:x=(i:Int):=HX.out.symm.trans hi;subst hxi;have hiN:i<nN:=by rw[HN.out,<-H.out.kn.1];exact hik
     obtain⟨nm,hnm⟩:∃nm,pg[i]?=some nm:=⟨_,gE y58Z⟩;have cn:=(HBw3.out.cell (p:=(af gN (i*2))) y39Z).trans (H.out.gr.names i nm hnm).1;have HR:Hid (FG pg k=(nm.1,6)):=hid (by
      unfold FG;rw[if_pos (by rw[hi];omega),hi];unfold nmW;rw[Int.toNat_natCast,gD_,hnm];rfl)
     exact Mz15
    ·have hxn:x= -1:=HX.out.symm.trans (TK y38Z)
     have HE2:Hid ((1<=1->¬0<=DB fp1 k)/\(2<=1->¬0<=DB fp2 k)/\(3<=1->¬0<=DB fp3 k)):=hid (by
      have h1:=hE.out;have h2:=HX.out;refine⟨fun q=>?_,fun q=>?_,fun q=>?_⟩ <;> first |omega | (rw[h2];exact hx0) |exact h1.1 (by omega) |exact h1.2.1 (by omega))
     subst hxn;clear hx0;go_wp2
     go_roundw
     case rel=>exact⟨1,by omega,by go_num,HE2,HB3⟩
     case measure=>simp[intOf]
   ·have d0:wr.cell? (af w.heap.size 2)=some (ab 7):=(hB.out.cell (p:=(af w.heap.size 2)) y81Z).trans (HCC.out 2)
    have d1:wr.cell? (af w.heap.size 3)=some (.func (.func 66) #[] #[]):=(hB.out.cell (p:=(af w.heap.size 3)) y81Z).trans (HCC.out 3);go_wp2;have g0:=BG wr #[ab 7,.func (.func 66) #[] #[]] 156 0;have g1:=BG wr #[ab 7,.func (.func 66) #[] #[]] 156 1;have g2:=A2 (.cells #[ab 7,.func (.func 66) #[] #[]] 156) f2;have g3:=A2 (.cells #[ab 7,.func (.func 66) #[] #[]] 156) f1;have HB2:Hid (Below wr.heap.size wr (wr.alloc (.cells #[ab 7,.func (.func 66) #[] #[]] 156))):=hid (bal (Below.refl _ _));have hs2:wr.heap.size< (wr.alloc (.cells #[ab 7,.func (.func 66) #[] #[]] 156)).heap.size:=by rw[World.size_alloc];omega
    obtain⟨W2,hW2⟩:=qE (wr.alloc (.cells #[ab 7,.func (.func 66) #[] #[]] 156));rw[hW2]at g0 g1 g2 g3 HB2 hs2 ⊢;clear hW2 d0 d1 f1 f2;have g0:W2.cell? (af wr.heap.size 0)=some (ab 7):=g0;have g1:W2.cell? (af wr.heap.size 1)=some (.func (.func 66) #[] #[]):=g1;have HBW2:Hid (Below w.heap.size w W2):=hid (HBw.out.trans (HB2.out.mono HBw.out.size));have CI:=HI2.out W2.drew (HNK.out W2.drew (bdr HBW2.out));obtain⟨x,hx⟩:=qE (DB fp2 k);rw[hx]at CI;have HCI:=hid CI;have HX:Hid (DB fp2 k=x):=hid hx;have hf2:fb<W2.heap.size:=by omega
    clear CI hx;refine wp_region_held_drew (S:=fun w'=>w'.cell? (af wr.heap.size 0)=some (ab 7)/\w'.cell? (af wr.heap.size 1)=some (.func (.func 66) #[] #[])/\w'.cell? (af fb 2)=some (ae kb nN nN)/\w'.cell? (af fb 1)=some (ae gN nN capN)/\Below W2.heap.size W2 w') y1Z ⟨g0,g1,g2,g3,bdr (Below.refl _ _)⟩ (fun hH=>?_);refine tB 0 hH ?_;refine tB 1 hH ?_;refine tB 2 hH ?_;refine tB 3 hH ?_;refine tB 4 hH ?_;refine tB 5 hH ?_;refine tL ?_;refine tS 6 fun K hK=>?_
    refine tM ?_;rw[if_pos (by rfl)];go_simp;refine HCI.out.mono ?_;rintro e w3 ⟨rfl,hb3⟩;refine hK.out _ _ ?_ fun hH=>?_
    ·exact Mz14
    clear hK K;refine tB 7 hH ?_;refine tL ?_;refine wpAnyH_done y1Z ?_ _;obtain⟨z0,z1,z2,z3,zb⟩:=hH;have hgN:=H.out.gr.hgN;have hln:=H.out.ln;have HB3:Hid (Below W1.heap.size W1 w3):=hid ((hB.out.trans (HB2.out.mono hB.out.size)).trans (zb.mono (by omega)));have HBw3:Hid (Below w.heap.size w w3):=hid (HBW2.out.trans (zb.mono HBW2.out.size));have hs3:wr.heap.size<w3.heap.size:=by have:=zb.size;omega
    have hf3:fb<w3.heap.size:=by have:=zb.size;omega
    have hg3:gN<w3.heap.size:=by have:=zb.size;omega
    clear g0 g1 g2 g3 hb3 zb z1 z2
    by_cases hx0:0<=x
    ·obtain⟨i,hi,hik⟩:=WL (p:=fp2) (k:=k) y38Z
     have hxi:x=(i:Int):=HX.out.symm.trans hi;subst hxi;have hiN:i<nN:=by rw[HN.out,<-H.out.kn.1];exact hik
     obtain⟨nm,hnm⟩:∃nm,pg[i]?=some nm:=⟨_,gE y58Z⟩;have cn:=(HBw3.out.cell (p:=(af gN (i*2))) y39Z).trans (H.out.gr.names i nm hnm).1;have HR:Hid (FG pg k=(nm.1,7)):=hid (by
      unfold FG;rw[if_neg (by have:=hE.out.1 (by omega);omega)];rw[if_pos (by rw[hi];omega),hi];unfold nmW;rw[Int.toNat_natCast,gD_,hnm];rfl)
     exact Mz15
    ·have hxn:x= -1:=HX.out.symm.trans (TK y38Z)
     have HE2:Hid ((1<=2->¬0<=DB fp1 k)/\(2<=2->¬0<=DB fp2 k)/\(3<=2->¬0<=DB fp3 k)):=hid (by
      have h1:=hE.out;have h2:=HX.out;refine⟨fun q=>?_,fun q=>?_,fun q=>?_⟩ <;> first |omega | (rw[h2];exact hx0) |exact h1.1 (by omega) |exact h1.2.1 (by omega))
     subst hxn;clear hx0;go_wp2
     go_roundw
     case rel=>exact⟨2,by omega,by go_num,HE2,HB3⟩
     case measure=>simp[intOf]
   ·have d0:wr.cell? (af w.heap.size 4)=some (ab 8):=(hB.out.cell (p:=(af w.heap.size 4)) y81Z).trans (HCC.out 4)
    have d1:wr.cell? (af w.heap.size 5)=some (.func (.func 67) #[] #[]):=(hB.out.cell (p:=(af w.heap.size 5)) y81Z).trans (HCC.out 5);go_wp2;have g0:=BG wr #[ab 8,.func (.func 67) #[] #[]] 156 0;have g1:=BG wr #[ab 8,.func (.func 67) #[] #[]] 156 1;have g2:=A2 (.cells #[ab 8,.func (.func 67) #[] #[]] 156) f2;have g3:=A2 (.cells #[ab 8,.func (.func 67) #[] #[]] 156) f1;have HB2:Hid (Below wr.heap.size wr (wr.alloc (.cells #[ab 8,.func (.func 67) #[] #[]] 156))):=hid (bal (Below.refl _ _));have hs2:wr.heap.size< (wr.alloc (.cells #[ab 8,.func (.func 67) #[] #[]] 156)).heap.size:=by rw[World.size_alloc];omega
    obtain⟨W2,hW2⟩:=qE (wr.alloc (.cells #[ab 8,.func (.func 67) #[] #[]] 156));rw[hW2]at g0 g1 g2 g3 HB2 hs2 ⊢;clear hW2 d0 d1 f1 f2;have g0:W2.cell? (af wr.heap.size 0)=some (ab 8):=g0;have g1:W2.cell? (af wr.heap.size 1)=some (.func (.func 67) #[] #[]):=g1;have HBW2:Hid (Below w.heap.size w W2):=hid (HBw.out.trans (HB2.out.mono HBw.out.size));have CI:=HI3.out W2.drew (HNK.out W2.drew (bdr HBW2.out));obtain⟨x,hx⟩:=qE (DB fp3 k);rw[hx]at CI;have HCI:=hid CI;have HX:Hid (DB fp3 k=x):=hid hx;have hf2:fb<W2.heap.size:=by omega
    clear CI hx;refine wp_region_held_drew (S:=fun w'=>w'.cell? (af wr.heap.size 0)=some (ab 8)/\w'.cell? (af wr.heap.size 1)=some (.func (.func 67) #[] #[])/\w'.cell? (af fb 2)=some (ae kb nN nN)/\w'.cell? (af fb 1)=some (ae gN nN capN)/\Below W2.heap.size W2 w') y1Z ⟨g0,g1,g2,g3,bdr (Below.refl _ _)⟩ (fun hH=>?_);refine tB 0 hH ?_;refine tB 1 hH ?_;refine tB 2 hH ?_;refine tB 3 hH ?_;refine tB 4 hH ?_;refine tB 5 hH ?_;refine tL ?_;refine tS 6 fun K hK=>?_
    refine tM ?_;rw[if_pos (by rfl)];go_simp;refine HCI.out.mono ?_;rintro e w3 ⟨rfl,hb3⟩;refine hK.out _ _ ?_ fun hH=>?_
    ·exact Mz14
    clear hK K;refine tB 7 hH ?_;refine tL ?_;refine wpAnyH_done y1Z ?_ _;obtain⟨z0,z1,z2,z3,zb⟩:=hH;have hgN:=H.out.gr.hgN;have hln:=H.out.ln;have HB3:Hid (Below W1.heap.size W1 w3):=hid ((hB.out.trans (HB2.out.mono hB.out.size)).trans (zb.mono (by omega)));have HBw3:Hid (Below w.heap.size w w3):=hid (HBW2.out.trans (zb.mono HBW2.out.size));have hs3:wr.heap.size<w3.heap.size:=by have:=zb.size;omega
    have hf3:fb<w3.heap.size:=by have:=zb.size;omega
    have hg3:gN<w3.heap.size:=by have:=zb.size;omega
    clear g0 g1 g2 g3 hb3 zb z1 z2
    by_cases hx0:0<=x
    ·obtain⟨i,hi,hik⟩:=WL (p:=fp3) (k:=k) y38Z
     have hxi:x=(i:Int):=HX.out.symm.trans hi;subst hxi;have hiN:i<nN:=by rw[HN.out,<-H.out.kn.1];exact hik
     obtain⟨nm,hnm⟩:∃nm,pg[i]?=some nm:=⟨_,gE y58Z⟩;have cn:=(HBw3.out.cell (p:=(af gN (i*2))) y39Z).trans (H.out.gr.names i nm hnm).1;have HR:Hid (FG pg k=(nm.1,8)):=hid (by
      unfold FG;rw[if_neg (by have:=hE.out.1 (by omega);omega),if_neg (by have:=hE.out.2.1 (by omega);omega)];rw[if_pos (by rw[hi];omega),hi];unfold nmW;rw[Int.toNat_natCast,gD_,hnm];rfl)
     exact Mz15
    ·have hxn:x= -1:=HX.out.symm.trans (TK y38Z)
     have HE2:Hid ((1<=3->¬0<=DB fp1 k)/\(2<=3->¬0<=DB fp2 k)/\(3<=3->¬0<=DB fp3 k)):=hid (by
      have h1:=hE.out;have h2:=HX.out;refine⟨fun q=>?_,fun q=>?_,fun q=>?_⟩ <;> first |omega | (rw[h2];exact hx0) |exact h1.1 (by omega) |exact h1.2.1 (by omega))
     subst hxn;clear hx0;go_wp2
     go_roundw
     case rel=>exact⟨3,by omega,by go_num,HE2,HB3⟩
     case measure=>simp[intOf]
  ·have HR:Hid (FG pg k=(ByteArray.empty,0)):=hid (by
    unfold FG;rw[if_neg (hE.out.1 (by omega)),if_neg (hE.out.2.1 (by omega)),if_neg (hE.out.2.2 (by omega))])
   go_wp2
   go_ret2
   exact⟨by rw[HR.out];rfl,HBw.out⟩
theorem wQ {α:Type} (m:Nat) (f:α->List Value) (hf:∀a,(f a).length=m):∀(l:List α) (i:Nat) (a:α) (j:Nat),l[i]?=some a->j<m->(l.flatMap f)[i*m+j]?=(f a)[j]?:=by
 intro l
 induction l with
 |nil=>intro i a j h;simp at h
 |cons x r ih=>
  intro i a j h hj;rw[List.flatMap_cons]
  match i with
  |0=>
   simp at h;subst h;rw[aL y78Z]
   congr 1;omega
  |i+1=>
   simp at h;rw[aR_ (by rw[hf,Nat.succ_mul];omega),hf];rw[<-ih i a j h hj]
   congr 1;rw[Nat.succ_mul];omega
theorem oS {α:Type} (m:Nat) (f:α->List Value) (hf:∀a,(f a).length=m) (l:List α):(l.flatMap f).length=l.length*m:=by
 induction l with
 |nil=>simp
 |cons x r ih=>rw[List.flatMap_cons,lA,ih,hf,lC,Nat.succ_mul];omega
theorem NF {α:Type} (m:Nat) (hm:0<m) (f:α->List Value) (hf:∀a,(f a).length=m) (a:α) (n:Nat):(madeCells (f a).toArray (n*m)).toList=(List.replicate n a).flatMap f:=by
 apply List.ext_getElem?;intro q
 by_cases hq:q<n*m
 ·have hd:q / m<n:=by rw[Nat.div_lt_iff_lt_mul hm];exact hq
  have hr:q % m<m:=Nat.mod_lt _ hm;have h1:=wQ m f hf (List.replicate n a) (q / m) a (q % m) (by simp[hd]) hr;rw[show q / m*m+q % m=q from by rw[Nat.mul_comm];exact Nat.div_add_mod q m]at h1;rw[h1];unfold madeCells;rw[Array.toList_map,gM];rw[show(Array.range (n*m)).toList[q]?=some q from by simp[hq]];simp only[Option.map_some,List.size_toArray,hf];rw[gE (by rw[hf];exact hr)];simp[hf,hr]
 ·rw[List.getElem?_eq_none (by rw[Array.length_toList,size_madeCells];omega),List.getElem?_eq_none (by rw[oS m f hf];simp;omega)]
theorem PG (w:World) (cur:Array Value) (n size e base:Nat) (hb:base<=w.heap.size) (hm:n<=maxLen) (hs:cur.size=n*size):
  (w.alloc (.cells cur e)).ownsRow base e size (ae w.heap.size n n) n cur.toList:=
 ⟨by rw[Array.length_toList];exact hs,.inr ⟨w.heap.size,n,cur,rfl,hb,heap_alloc_new w _,lR_ _,hm,hs,List.take_of_length_le (by rw[Array.length_toList,hs];exact lR_ _)⟩⟩
structure S9 (N:NG) (k1 k2:List Fa):Prop where
 i1:I2 N k1
 s1:∀r∈N.rules,EA N k1 r=k1
 i2:KA N k1 k2
 s2:∀r∈N.rules,GG k2 r=k2
def wE (N:NG) (tws:List ByteArray) (pg:List Nm) (w:World) (e:Ending) (w':World):Prop:=
 Below w.heap.size w w'/\∃k1 k2,S9 N k1 k2/\
  (((FG pg k2).2≠0/\e=.returned (.tuple #[.agg #[.slice none 0 0,.slice none 0 0,.slice none 0 0],.string (FG pg k2).1,ab (FG pg k2).2]))\/
   ((FG pg k2).2=0/\∃k3 k4 n₀ kb adT capT gN capN,I4 N k2 k3/\(∀r∈N.rules,EE k3 r=k3)/\F9 N k3 k4/\(∀r∈N.rules,EK k4 r=k4)/\e=.returned (.tuple #[.agg #[.slice adT N.nT capT,ae gN N.nN capN,ae kb N.nN N.nN],.string ByteArray.empty,ab 0])/\n₀<=kb/\PGr w' n₀ N tws pg adT capT gN capN/\KnV w' kb N.nN k4/\w.heap.size<=n₀))
theorem gC (w:World) (n:Nat) (hn:n<=20):KnV (w.alloc (.cells (madeCells #[ab 0,.bool false,.int .u32 0,.int .u32 0] (n*4)) 151)) w.heap.size n (GL n 0):=by
 refine⟨KC _ _,?_⟩;have h1:=PG w (madeCells #[ab 0,.bool false,.int .u32 0,.int .u32 0] (n*4)) n 4 151 w.heap.size (lR_ _) y3Z (size_madeCells _ _);have h2:=NF 4 (by omega) (fun a:Fa=>[ab a.least,.bool a.reached,.int .u32 a.first,.int .u32 a.follow]) (fun _=>rfl) ⟨0,false,0,0⟩ n;have h3:GL n 0=List.replicate n ⟨0,false,0,0⟩:=by
  apply List.ext_getElem?;intro i
  by_cases hi:i<n
  ·rw[MT hi,List.getElem?_replicate,if_pos hi];rfl
  ·rw[List.getElem?_eq_none (by rw[KC];omega),List.getElem?_eq_none y2Z]
 unfold DN;rw[h3,<-h2];exact h1
theorem G7 {P:Program} (w:World) {o:Oper}{a:Act}{K:Act->World->Prop}{Q:Exit->Act->World->Prop}
  (l c:Operand) (t:TypeId) (hop:o.op=Op.makeSlice t l c)
  (e:TypeId) (i:TypeInfo) (z:Value) (h1:P.underlying t=some (.slice e)) (h2:P.info? e=some i) (h3:i.zero=some z)
  (n:Nat) (hl:a.eval l=ab (n:Int)) (hc:a.eval c=ab (n:Int)) (b2:(i.bytes:Int)*(n:Int)<=281474976710656) (b3:(n:Int)<=9223372036854775807)
  (hK:K (a.put o.dst (ae w.heap.size n n)) (w.alloc (.cells (madeCells z.cells (n*i.size)) e))):
  Oper.wp P o a w K Q:=by
 have hrun:=run_make (P:=P) w t e i z h1 h2 h3 .i64 .i64 n n (by omega) (Int.le_refl _) b2 b3;simp only[Int.toNat_natCast]at hrun;unfold Oper.wp;simp[execOp,hop,hl,hc,hrun,Result.andThen];exact hK
end Go.Proofs.YtjjggdcnpndgjabGreatDoor
