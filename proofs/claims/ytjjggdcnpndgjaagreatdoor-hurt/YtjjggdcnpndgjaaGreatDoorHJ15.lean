import Derived.Test.YtjjggdcnpndgjaaGreatDoorHJ14
import Derived.Laws.EntriesVeiled
set_option linter.unusedSimpArgs false
set_option maxHeartbeats 2000000
set_option maxRecDepth 100000
namespace Go.Proofs.YtjjggdcnpndgjaaGreatDoor
abbrev vu:=@Go.size_madeCells
abbrev yy:=@Array.length_toList
open Go.RowKit Go.Shelf
def Rv (pg:List Nm) (i:Int):ByteArray:=(pg.getD i.toNat (ByteArray.empty,[])).1
def Kn (a:Fa):Bool:=(a.least:Int)==202
def Lz (a:Fa):Bool:= !a.reached
def Ko (a:Fa):Bool:=(a.least:Int)==201
def FI (pg:List Nm) (k:List Fa):ByteArray × Int:=
 if 0<=DE Kn k then(Rv pg (DE Kn k),6)else if 0<=DE Lz k then(Rv pg (DE Lz k),7)else if 0<=DE Ko k then(Rv pg (DE Ko k),8)else(ByteArray.empty,0)
theorem WU {p:Fa->Bool}{k:List Fa} (h:0<=DE p k):∃i:Nat,DE p k=i/\i<k.length:=by
 unfold DE at h ⊢;cases hk:k.findIdx? p with
 |none=>rw[hk]at h;simp at h
 |some i=>
  rw[oo]at hk;exact⟨i,rfl,hk.1⟩
theorem TK {p:Fa->Bool}{k:List Fa} (h:¬0<=DE p k):DE p k= -1:=by
 unfold DE at h ⊢;cases hk:k.findIdx? p with
 |none=>rfl
 |some i=>rw[hk]at h;simp at h
theorem adf {P:Prop} (h:P:=by
  exact⟨(hb3.cell Th).trans hH.1,(hb3.cell Th).trans hH.2.1,(hb3.cell (by exact hf2)).trans hH.2.2.1,(hb3.cell (by exact hf2)).trans hH.2.2.2.1,hH.2.2.2.2.trans hb3⟩):P:=h
theorem adg {P:Prop} (h:P:=by
  clear hnm hi hik;go_wp2
  go_quiet (fail)
  go_wp2
  go_ret2
  exact⟨by rw[HR.out];rfl,by repeat (first |exact Ts.out |refine Af ?_ |exact Ts.out.trans ((FU _ _).mono Ts.out.size))⟩):P:=h
theorem YF (w:World) (n₀ fb kb:Nat) (N:NG) (yL:List ByteArray) (pg:List Nm) (yu:Option Addr) (yl gN xY:Nat) (k:List Fa) (h:zK w n₀ fb kb N yL pg yu yl gN xY k):
  Calls Tryz.prog 108 #[ac fb] w λe w'=>e=.returned (.tuple #[.string (FI pg k).1,ab (FI pg k).2])/\Below w.heap.size w w':=by
 have H:=hid h;have hfw:=h.lf;have zU:=h.gr.Bt;clear h;obtain⟨nN,hn1⟩:=qF (N.nN);rw[<-hn1]at zU;have HN:Hid (nN=N.nN):=hid hn1;have e1:∀args W,(callFunc 157 args).run Tryz.prog W=.ok (.enter 157 args) W:=qo Tryz.func157 yg rfl;have e2:∀args W,(callFunc 158 args).run Tryz.prog W=.ok (.enter 158 args) W:=qo Tryz.func158 yg rfl;have e3:∀args W,(callFunc 159 args).run Tryz.prog W=.ok (.enter 159 args) W:=qo Tryz.func159 yg rfl;have HI1:Hid (∀W,y8 W kb nN k->Calls Tryz.prog 160 #[ae kb nN nN,.func (.func 157) #[] #[]] W λe w'=>e=.returned (ab (DE Kn k))/\Below W.heap.size W w'):=hid λW hW=>PU W kb nN k hW zU _ Kn e1 iB
 have HI2:Hid (∀W,y8 W kb nN k->Calls Tryz.prog 160 #[ae kb nN nN,.func (.func 158) #[] #[]] W λe w'=>e=.returned (ab (DE Lz k))/\Below W.heap.size W w'):=hid λW hW=>PU W kb nN k hW zU _ Lz e2 kB
 have Ma:Hid (∀W,y8 W kb nN k->Calls Tryz.prog 160 #[ae kb nN nN,.func (.func 159) #[] #[]] W λe w'=>e=.returned (ab (DE Ko k))/\Below W.heap.size W w'):=hid λW hW=>PU W kb nN k hW zU _ Ko e3 iC
 clear e1 e2 e3 hn1
 go_enter Tryz.func108,Tryz.ntmps108
 have hnk:∀W,Below w.heap.size w W->y8 W kb nN k:=λW hW=>by have h1:=H.out.kn.keeps (A1.yX hW []) (by simp);rw[<-HN.out]at h1;exact h1
 have HNK:=hid hnk;clear hnk;go_wp2;obtain⟨W1,hW1⟩:=qE (w.alloc (.cells #[ab 6,.func (.func 157) #[] #[],ab 7,.func (.func 158) #[] #[],ab 8,.func (.func 159) #[] #[]] 282));have hc:∀j,W1.cell? (af w.heap.size j)= #[ab 6,.func (.func 157) #[] #[],ab 7,.func (.func 158) #[] #[],ab 8,.func (.func 159) #[] #[]][j]?:=λj=>by rw[<-hW1];exact BF w _ _ j
 have hWb:Below w.heap.size w W1:=by rw[<-hW1];exact zl (ah _ _)
 have hWs:w.heap.size<W1.heap.size:=by rw[<-hW1,bg];omega
 have Vv:=hid hWb;have Jd:=hid hc;rw[hW1];clear hW1 hWb hc
 go_loopw [12] (λi wr=>∃j:Nat,j<=3/\i=ab j/\Hid ((1<=j->¬0<=DE Kn k)/\(2<=j->¬0<=DE Lz k)/\(3<=j->¬0<=DE Ko k))/\Hid (Below W1.heap.size W1 wr)) (λi _=>3 - (intOf i).toNat)
 case atStart=>exact⟨0,by omega,rfl,⟨λh=>by omega,λh=>by omega,λh=>by omega⟩,ah _ _⟩
 case round=>
  obtain⟨j,hj,rfl,hE,hB⟩:=hrel;have Tt:=hB.out.size;have Pr:Hid (Below w.heap.size w wr):=hid (Vv.out.trans (hB.out.mono (by omega)));have Lx:Hid (zK wr n₀ fb kb N yL pg yu yl gN xY k):=hid (H.out.below Pr.out);have f1:=Lx.out.f1;have f2:=Lx.out.f2;rw[<-HN.out]at f1 f2;have hfr:fb<wr.heap.size:=by omega
  by_cases hlt:j<3
  ·have hj3:j=0\/j=1\/j=2:=by omega
   rcases hj3 with rfl |rfl |rfl
   ·have d0:wr.cell? (af w.heap.size 0)=some (ab 6):=(hB.out.cell (p:=(af w.heap.size 0)) aac).trans (Jd.out 0)
    have d1:wr.cell? (af w.heap.size 1)=some (.func (.func 157) #[] #[]):=(hB.out.cell (p:=(af w.heap.size 1)) aac).trans (Jd.out 1);go_wp2;have g0:=BF wr #[ab 6,.func (.func 157) #[] #[]] 282 0;have g1:=BF wr #[ab 6,.func (.func 157) #[] #[]] 282 1;have g2:=A2 (.cells #[ab 6,.func (.func 157) #[] #[]] 282) f2;have g3:=A2 (.cells #[ab 6,.func (.func 157) #[] #[]] 282) f1;have yV:Hid (Below wr.heap.size wr (wr.alloc (.cells #[ab 6,.func (.func 157) #[] #[]] 282))):=hid (zl (ah _ _));have hs2:wr.heap.size< (wr.alloc (.cells #[ab 6,.func (.func 157) #[] #[]] 282)).heap.size:=by rw[bg];omega
    obtain⟨W2,hW2⟩:=qE (wr.alloc (.cells #[ab 6,.func (.func 157) #[] #[]] 282));rw[hW2]at g0 g1 g2 g3 yV hs2 ⊢;clear hW2 d0 d1 f1 f2;have g0:W2.cell? (af wr.heap.size 0)=some (ab 6):=g0;have g1:W2.cell? (af wr.heap.size 1)=some (.func (.func 157) #[] #[]):=g1;have Jj:Hid (Below w.heap.size w W2):=hid (Pr.out.trans (yV.out.mono Pr.out.size));have CI:=HI1.out W2.drew (HNK.out W2.drew (Af Jj.out));obtain⟨x,hx⟩:=qE (DE Kn k);rw[hx]at CI;have HCI:=hid CI;have HX:Hid (DE Kn k=x):=hid hx;have hf2:fb<W2.heap.size:=by omega
    clear CI hx;refine dn (S:=λw'=>w'.cell? (af wr.heap.size 0)=some (ab 6)/\w'.cell? (af wr.heap.size 1)=some (.func (.func 157) #[] #[])/\w'.cell? (af fb 2)=some (ae kb nN nN)/\w'.cell? (af fb 1)=some (ae gN nN xY)/\Below W2.heap.size W2 w') yg ⟨g0,g1,g2,g3,Af (ah _ _)⟩ (λhH=>?_);refine tB 0 hH ?_;refine tB 1 hH ?_;refine tB 2 hH ?_;refine tB 3 hH ?_;refine tB 4 hH ?_;refine tB 5 hH ?_;refine tL ?_;refine tS 6 λK hK=>?_
    refine tM ?_;rw[aq (by rfl)];go_simp;refine HCI.out.mono ?_;rintro e w3 ⟨rfl,hb3⟩;refine hK.out _ _ ?_ λhH=>?_
    ·exact adf
    clear hK K;refine tB 7 hH ?_;refine tL ?_;refine bk yg ?_ _;obtain⟨z0,z1,z2,z3,zb⟩:=hH;have hgN:=H.out.gr.hgN;have Dn:=H.out.ln;have zy:Hid (Below W1.heap.size W1 w3):=hid ((hB.out.trans (yV.out.mono hB.out.size)).trans (zb.mono (by omega)));have Ts:Hid (Below w.heap.size w w3):=hid (Jj.out.trans (zb.mono Jj.out.size));have hs3:wr.heap.size<w3.heap.size:=by have:=zb.size;omega
    have hf3:fb<w3.heap.size:=by have:=zb.size;omega
    have hg3:gN<w3.heap.size:=by have:=zb.size;omega
    clear g0 g1 g2 g3 hb3 zb z1 z2
    by_cases hx0:0<=x
    ·obtain⟨i,hi,hik⟩:=WU (p:=Kn) (k:=k) Zu
     have hxi:x=(i:Int):=HX.out.symm.trans hi;subst hxi;have Hx:i<nN:=by rw[HN.out,<-H.out.kn.1];exact hik
     obtain⟨nm,hnm⟩:∃nm,pg[i]?=some nm:=⟨_,gE acW⟩;have cn:=(Ts.out.cell (p:=(af gN (i*2))) aaz).trans (H.out.gr.names i nm hnm).1;have HR:Hid (FI pg k=(nm.1,6)):=hid (by
      unfold FI;rw[aq (by rw[hi];omega),hi];unfold Rv;rw[sr,zh,hnm];rfl)
     exact adg
    ·have hxn:x= -1:=HX.out.symm.trans (TK Zu)
     have zN:Hid ((1<=1->¬0<=DE Kn k)/\(2<=1->¬0<=DE Lz k)/\(3<=1->¬0<=DE Ko k)):=hid (by
      have h1:=hE.out;have h2:=HX.out;refine⟨λq=>?_,λq=>?_,λq=>?_⟩ <;> first |omega | (rw[h2];exact hx0) |exact h1.1 (by omega) |exact h1.2.1 (by omega))
     subst hxn;clear hx0;go_wp2
     go_roundw
     case rel=>exact⟨1,by omega,by go_num,zN,zy⟩
     case measure=>simp[intOf]
   ·have d0:wr.cell? (af w.heap.size 2)=some (ab 7):=(hB.out.cell (p:=(af w.heap.size 2)) aac).trans (Jd.out 2)
    have d1:wr.cell? (af w.heap.size 3)=some (.func (.func 158) #[] #[]):=(hB.out.cell (p:=(af w.heap.size 3)) aac).trans (Jd.out 3);go_wp2;have g0:=BF wr #[ab 7,.func (.func 158) #[] #[]] 282 0;have g1:=BF wr #[ab 7,.func (.func 158) #[] #[]] 282 1;have g2:=A2 (.cells #[ab 7,.func (.func 158) #[] #[]] 282) f2;have g3:=A2 (.cells #[ab 7,.func (.func 158) #[] #[]] 282) f1;have yV:Hid (Below wr.heap.size wr (wr.alloc (.cells #[ab 7,.func (.func 158) #[] #[]] 282))):=hid (zl (ah _ _));have hs2:wr.heap.size< (wr.alloc (.cells #[ab 7,.func (.func 158) #[] #[]] 282)).heap.size:=by rw[bg];omega
    obtain⟨W2,hW2⟩:=qE (wr.alloc (.cells #[ab 7,.func (.func 158) #[] #[]] 282));rw[hW2]at g0 g1 g2 g3 yV hs2 ⊢;clear hW2 d0 d1 f1 f2;have g0:W2.cell? (af wr.heap.size 0)=some (ab 7):=g0;have g1:W2.cell? (af wr.heap.size 1)=some (.func (.func 158) #[] #[]):=g1;have Jj:Hid (Below w.heap.size w W2):=hid (Pr.out.trans (yV.out.mono Pr.out.size));have CI:=HI2.out W2.drew (HNK.out W2.drew (Af Jj.out));obtain⟨x,hx⟩:=qE (DE Lz k);rw[hx]at CI;have HCI:=hid CI;have HX:Hid (DE Lz k=x):=hid hx;have hf2:fb<W2.heap.size:=by omega
    clear CI hx;refine dn (S:=λw'=>w'.cell? (af wr.heap.size 0)=some (ab 7)/\w'.cell? (af wr.heap.size 1)=some (.func (.func 158) #[] #[])/\w'.cell? (af fb 2)=some (ae kb nN nN)/\w'.cell? (af fb 1)=some (ae gN nN xY)/\Below W2.heap.size W2 w') yg ⟨g0,g1,g2,g3,Af (ah _ _)⟩ (λhH=>?_);refine tB 0 hH ?_;refine tB 1 hH ?_;refine tB 2 hH ?_;refine tB 3 hH ?_;refine tB 4 hH ?_;refine tB 5 hH ?_;refine tL ?_;refine tS 6 λK hK=>?_
    refine tM ?_;rw[aq (by rfl)];go_simp;refine HCI.out.mono ?_;rintro e w3 ⟨rfl,hb3⟩;refine hK.out _ _ ?_ λhH=>?_
    ·exact adf
    clear hK K;refine tB 7 hH ?_;refine tL ?_;refine bk yg ?_ _;obtain⟨z0,z1,z2,z3,zb⟩:=hH;have hgN:=H.out.gr.hgN;have Dn:=H.out.ln;have zy:Hid (Below W1.heap.size W1 w3):=hid ((hB.out.trans (yV.out.mono hB.out.size)).trans (zb.mono (by omega)));have Ts:Hid (Below w.heap.size w w3):=hid (Jj.out.trans (zb.mono Jj.out.size));have hs3:wr.heap.size<w3.heap.size:=by have:=zb.size;omega
    have hf3:fb<w3.heap.size:=by have:=zb.size;omega
    have hg3:gN<w3.heap.size:=by have:=zb.size;omega
    clear g0 g1 g2 g3 hb3 zb z1 z2
    by_cases hx0:0<=x
    ·obtain⟨i,hi,hik⟩:=WU (p:=Lz) (k:=k) Zu
     have hxi:x=(i:Int):=HX.out.symm.trans hi;subst hxi;have Hx:i<nN:=by rw[HN.out,<-H.out.kn.1];exact hik
     obtain⟨nm,hnm⟩:∃nm,pg[i]?=some nm:=⟨_,gE acW⟩;have cn:=(Ts.out.cell (p:=(af gN (i*2))) aaz).trans (H.out.gr.names i nm hnm).1;have HR:Hid (FI pg k=(nm.1,7)):=hid (by
      unfold FI;rw[au (by have:=hE.out.1 (by omega);omega)];rw[aq (by rw[hi];omega),hi];unfold Rv;rw[sr,zh,hnm];rfl)
     exact adg
    ·have hxn:x= -1:=HX.out.symm.trans (TK Zu)
     have zN:Hid ((1<=2->¬0<=DE Kn k)/\(2<=2->¬0<=DE Lz k)/\(3<=2->¬0<=DE Ko k)):=hid (by
      have h1:=hE.out;have h2:=HX.out;refine⟨λq=>?_,λq=>?_,λq=>?_⟩ <;> first |omega | (rw[h2];exact hx0) |exact h1.1 (by omega) |exact h1.2.1 (by omega))
     subst hxn;clear hx0;go_wp2
     go_roundw
     case rel=>exact⟨2,by omega,by go_num,zN,zy⟩
     case measure=>simp[intOf]
   ·have d0:wr.cell? (af w.heap.size 4)=some (ab 8):=(hB.out.cell (p:=(af w.heap.size 4)) aac).trans (Jd.out 4)
    have d1:wr.cell? (af w.heap.size 5)=some (.func (.func 159) #[] #[]):=(hB.out.cell (p:=(af w.heap.size 5)) aac).trans (Jd.out 5);go_wp2;have g0:=BF wr #[ab 8,.func (.func 159) #[] #[]] 282 0;have g1:=BF wr #[ab 8,.func (.func 159) #[] #[]] 282 1;have g2:=A2 (.cells #[ab 8,.func (.func 159) #[] #[]] 282) f2;have g3:=A2 (.cells #[ab 8,.func (.func 159) #[] #[]] 282) f1;have yV:Hid (Below wr.heap.size wr (wr.alloc (.cells #[ab 8,.func (.func 159) #[] #[]] 282))):=hid (zl (ah _ _));have hs2:wr.heap.size< (wr.alloc (.cells #[ab 8,.func (.func 159) #[] #[]] 282)).heap.size:=by rw[bg];omega
    obtain⟨W2,hW2⟩:=qE (wr.alloc (.cells #[ab 8,.func (.func 159) #[] #[]] 282));rw[hW2]at g0 g1 g2 g3 yV hs2 ⊢;clear hW2 d0 d1 f1 f2;have g0:W2.cell? (af wr.heap.size 0)=some (ab 8):=g0;have g1:W2.cell? (af wr.heap.size 1)=some (.func (.func 159) #[] #[]):=g1;have Jj:Hid (Below w.heap.size w W2):=hid (Pr.out.trans (yV.out.mono Pr.out.size));have CI:=Ma.out W2.drew (HNK.out W2.drew (Af Jj.out));obtain⟨x,hx⟩:=qE (DE Ko k);rw[hx]at CI;have HCI:=hid CI;have HX:Hid (DE Ko k=x):=hid hx;have hf2:fb<W2.heap.size:=by omega
    clear CI hx;refine dn (S:=λw'=>w'.cell? (af wr.heap.size 0)=some (ab 8)/\w'.cell? (af wr.heap.size 1)=some (.func (.func 159) #[] #[])/\w'.cell? (af fb 2)=some (ae kb nN nN)/\w'.cell? (af fb 1)=some (ae gN nN xY)/\Below W2.heap.size W2 w') yg ⟨g0,g1,g2,g3,Af (ah _ _)⟩ (λhH=>?_);refine tB 0 hH ?_;refine tB 1 hH ?_;refine tB 2 hH ?_;refine tB 3 hH ?_;refine tB 4 hH ?_;refine tB 5 hH ?_;refine tL ?_;refine tS 6 λK hK=>?_
    refine tM ?_;rw[aq (by rfl)];go_simp;refine HCI.out.mono ?_;rintro e w3 ⟨rfl,hb3⟩;refine hK.out _ _ ?_ λhH=>?_
    ·exact adf
    clear hK K;refine tB 7 hH ?_;refine tL ?_;refine bk yg ?_ _;obtain⟨z0,z1,z2,z3,zb⟩:=hH;have hgN:=H.out.gr.hgN;have Dn:=H.out.ln;have zy:Hid (Below W1.heap.size W1 w3):=hid ((hB.out.trans (yV.out.mono hB.out.size)).trans (zb.mono (by omega)));have Ts:Hid (Below w.heap.size w w3):=hid (Jj.out.trans (zb.mono Jj.out.size));have hs3:wr.heap.size<w3.heap.size:=by have:=zb.size;omega
    have hf3:fb<w3.heap.size:=by have:=zb.size;omega
    have hg3:gN<w3.heap.size:=by have:=zb.size;omega
    clear g0 g1 g2 g3 hb3 zb z1 z2
    by_cases hx0:0<=x
    ·obtain⟨i,hi,hik⟩:=WU (p:=Ko) (k:=k) Zu
     have hxi:x=(i:Int):=HX.out.symm.trans hi;subst hxi;have Hx:i<nN:=by rw[HN.out,<-H.out.kn.1];exact hik
     obtain⟨nm,hnm⟩:∃nm,pg[i]?=some nm:=⟨_,gE acW⟩;have cn:=(Ts.out.cell (p:=(af gN (i*2))) aaz).trans (H.out.gr.names i nm hnm).1;have HR:Hid (FI pg k=(nm.1,8)):=hid (by
      unfold FI;rw[au (by have:=hE.out.1 (by omega);omega),au (by have:=hE.out.2.1 (by omega);omega)];rw[aq (by rw[hi];omega),hi];unfold Rv;rw[sr,zh,hnm];rfl)
     exact adg
    ·have hxn:x= -1:=HX.out.symm.trans (TK Zu)
     have zN:Hid ((1<=3->¬0<=DE Kn k)/\(2<=3->¬0<=DE Lz k)/\(3<=3->¬0<=DE Ko k)):=hid (by
      have h1:=hE.out;have h2:=HX.out;refine⟨λq=>?_,λq=>?_,λq=>?_⟩ <;> first |omega | (rw[h2];exact hx0) |exact h1.1 (by omega) |exact h1.2.1 (by omega))
     subst hxn;clear hx0;go_wp2
     go_roundw
     case rel=>exact⟨3,by omega,by go_num,zN,zy⟩
     case measure=>simp[intOf]
  ·have HR:Hid (FI pg k=(ByteArray.empty,0)):=hid (by
    unfold FI;rw[au (hE.out.1 (by omega)),au (hE.out.2.1 (by omega)),au (hE.out.2.2 (by omega))])
   go_wp2
   go_ret2
   exact⟨by rw[HR.out];rfl,Pr.out⟩
theorem x6 {α:Type} (m:Nat) (f:α->List Value) (hf:∀a,(f a).length=m):∀(l:List α) (i:Nat) (a:α) (j:Nat),l[i]?=some a->j<m->(l.flatMap f)[i*m+j]?=(f a)[j]?:=by
 intro l
 induction l with
 |nil=>intro i a j h;simp at h
 |cons x r ih=>
  intro i a j h hj;rw[gy]
  match i with
  |0=>
   simp at h;subst h;rw[aL aaE]
   congr 1;omega
  |i+1=>
   simp at h;rw[zQ (by rw[hf,uw];omega),hf];rw[<-ih i a j h hj]
   congr 1;rw[uw];omega
theorem mJ {α:Type} (m:Nat) (f:α->List Value) (hf:∀a,(f a).length=m) (l:List α):(l.flatMap f).length=l.length*m:=by
 induction l with
 |nil=>simp
 |cons x r ih=>rw[gy,lA,ih,hf,lC,uw];omega
theorem NA {α:Type} (m:Nat) (hm:0<m) (f:α->List Value) (hf:∀a,(f a).length=m) (a:α) (n:Nat):(madeCells (f a).toArray (n*m)).toList=(List.replicate n a).flatMap f:=by
 apply nu;intro q
 by_cases hq:q<n*m
 ·have hd:q / m<n:=by rw[Nat.div_lt_iff_lt_mul hm];exact hq
  have hr:q % m<m:=Nat.mod_lt _ hm;have h1:=x6 m f hf (List.replicate n a) (q / m) a (q % m) (by simp[hd]) hr;rw[show q / m*m+q % m=q from by rw[Nat.mul_comm];exact Nat.div_add_mod q m]at h1;rw[h1];unfold madeCells;rw[Array.toList_map,gM];rw[show(Array.range (n*m)).toList[q]?=some q from by simp[hq]];simp only[ko,iz,hf];rw[gE (by rw[hf];exact hr)];simp[hf,hr]
 ·rw[dy (by rw[yy,vu];omega),dy (by rw[mJ m f hf];simp;omega)]
theorem PL (w:World) (cur:Array Value) (n size e base:Nat) (hb:base<=w.heap.size) (hm:n<=maxLen) (hs:cur.size=n*size):
  (w.alloc (.cells cur e)).ownsRow base e size (ae w.heap.size n n) n cur.toList:=
 ⟨by rw[yy];exact hs,.inr ⟨w.heap.size,n,cur,rfl,hb,dw w _,yF _,hm,hs,jk (by rw[yy,hs];exact yF _)⟩⟩
structure SA (N:NG) (k1 k2:List Fa):Prop where
 i1:I2 N k1
 s1:∀r∈N.rules,ED N k1 r=k1
 i2:K6 N k1 k2
 s2:∀r∈N.rules,GF k2 r=k2
def vU (N:NG) (yL:List ByteArray) (pg:List Nm) (w:World) (e:Ending) (w':World):Prop:=
 Below w.heap.size w w'/\∃k1 k2,SA N k1 k2/\
  (((FI pg k2).2≠0/\e=.returned (.tuple #[.agg #[.slice none 0 0,.slice none 0 0,.slice none 0 0],.string (FI pg k2).1,ab (FI pg k2).2]))\/
   ((FI pg k2).2=0/\∃k3 k4 n₀ kb yu yl gN xY,IA N k2 k3/\(∀r∈N.rules,EE k3 r=k3)/\FD N k3 k4/\(∀r∈N.rules,EP k4 r=k4)/\e=.returned (.tuple #[.agg #[.slice yu N.nT yl,ae gN N.nN xY,ae kb N.nN N.nN],.string ByteArray.empty,ab 0])/\n₀<=kb/\Ba w' n₀ N yL pg yu yl gN xY/\y8 w' kb N.nN k4/\w.heap.size<=n₀))
theorem gJ (w:World) (n:Nat) (hn:n<=20):y8 (w.alloc (.cells (madeCells #[ab 0,.bool false,.int .u32 0,.int .u32 0] (n*4)) 216)) w.heap.size n (GN n 0):=by
 refine⟨KG _ _,?_⟩;have h1:=PL w (madeCells #[ab 0,.bool false,.int .u32 0,.int .u32 0] (n*4)) n 4 216 w.heap.size (yF _) zX (vu _ _);have h2:=NA 4 (by omega) (λa:Fa=>[ab a.least,.bool a.reached,.int .u32 a.first,.int .u32 a.follow]) (λ_=>rfl) ⟨0,false,0,0⟩ n;have h3:GN n 0=List.replicate n ⟨0,false,0,0⟩:=by
  apply nu;intro i
  by_cases hi:i<n
  ·rw[N1 hi,ny,aq hi];rfl
  ·rw[dy (by rw[KG];omega),dy yM]
 unfold DN;rw[h3,<-h2];exact h1
theorem G7 {P:Program} (w:World) {o:Oper}{a:Act}{K:Act->World->Prop}{Q:Exit->Act->World->Prop}
  (l c:Operand) (t:TypeId) (hop:o.op=Op.makeSlice t l c)
  (e:TypeId) (i:TypeInfo) (z:Value) (h1:P.underlying t=some (.slice e)) (h2:P.info? e=some i) (h3:i.zero=some z)
  (n:Nat) (hl:a.eval l=ab (n:Int)) (hc:a.eval c=ab (n:Int)) (b2:(i.bytes:Int)*(n:Int)<=281474976710656) (b3:(n:Int)<=9223372036854775807)
  (hK:K (a.put o.dst (ae w.heap.size n n)) (w.alloc (.cells (madeCells z.cells (n*i.size)) e))):
  Oper.wp P o a w K Q:=by
 have hrun:=run_make (P:=P) w t e i z h1 h2 h3 .i64 .i64 n n (by omega) (Int.le_refl _) b2 b3;simp only[sr]at hrun;unfold Oper.wp;simp[execOp,hop,hl,hc,hrun,Result.andThen];exact hK
end Go.Proofs.YtjjggdcnpndgjaaGreatDoor
