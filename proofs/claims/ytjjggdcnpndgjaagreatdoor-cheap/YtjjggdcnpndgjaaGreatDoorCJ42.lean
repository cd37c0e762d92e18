import Derived.Test.YtjjggdcnpndgjaaGreatDoorCJ41
set_option linter.unusedSimpArgs false
set_option maxHeartbeats 8000000
set_option maxRecDepth 100000
namespace Go.Proofs.YtjjggdcnpndgjaaGreatDoor
abbrev yg:=@ByteArray.size_append
open Go.RowKit Go.Shelf
variable {B gb left mb x:Nat}{NS:List Cw}{m:Mk}{raw rv:Value}{w:World}{ws:List ByteArray}
structure MkC (W:World) (n₀ b:Nat) (m:Mk) (gR cR gP cP gD cD gS cS:Nat):Prop where
 ltb:b<n₀
 ltS:gS<n₀
 c0:W.cell? (af b 0)=some (ae gR m.rules.length cR)
 c1:W.cell? (af b 1)=some (ae gP m.zJ.length cP)
 c2:W.cell? (af b 2)=some (ae gD m.zJ.length cD)
 c3:W.cell? (af b 3)=some (ae gS m.zJ.length cS)
 lR:m.rules.length<=cR
 lP:m.zJ.length<=cP
 lD:m.zJ.length<=cD
 lS:m.zJ.length<=cS
 zJ:∀t,t<m.zJ.length->W.cell? (af gP t)=some (ab (m.zJ.getD t 0:Nat))
 Ai:∀t,t<m.zJ.length->W.cell? (af gD t)=some (ab (m.Ai.getD t 0:Nat))
 swaps:∀i,i<m.zJ.length->∃gs cs,W.cell? (af gS i)=some (ae gs m.zJ.length cs)/\m.zJ.length<=cs/\gs<n₀/\∀j,j<m.zJ.length->W.cell? (af gs j)=some (ab (DA m i j:Nat))
 rules:∀n rs,m.rules[n]?=some rs->∃gn cn,W.cell? (af gR n)=some (ae gn rs.length cn)/\rs.length<=cn/\
  ∀k r,rs[k]?=some r->∃gr cr,W.cell? (af gn k)=some (ae gr r.length cr)/\r.length<=cr/\∀p a,r[p]?=some a->W.cell? (af gr p)=some (.string (EG a))
theorem WN {n₀ b:Nat} (h:Gf w n₀ b m):∃gR cR gP cP gD cD gS cS,∀W,Below n₀ w W->MkC W n₀ b m gR cR gP cP gD cD gS cS:=by
 obtain⟨vR,c0,gR,cR,rfl,lR,Nz,hR⟩:=h.rules;obtain⟨vP,c1,gP,cP,rfl,lP,hgP,hP⟩:=h.zJ;obtain⟨vD,c2,gD,cD,rfl,lD,hgD,hD⟩:=h.Ai;obtain⟨vS,c3,gS,cS,rfl,lS,hgS,hS⟩:=h.swaps;refine⟨gR,cR,gP,cP,gD,cD,gS,cS,λW hb=>⟨h.lt,hgS,(hb.cell Tq).trans c0,(hb.cell Tq).trans c1,(hb.cell Tq).trans c2,(hb.cell Tq).trans c3,lR,lP,lD,lS,?_,?_,?_,?_⟩⟩
 ·intro t ht
  obtain⟨x,h1,h2⟩:=hP t ht;rw[(hb.cell (by exact hgP)).trans h1,h2]
 ·intro t ht
  obtain⟨x,h1,h2⟩:=hD t ht;rw[(hb.cell (by exact hgD)).trans h1,h2]
 ·intro i hi
  obtain⟨x,h1,g,cap,h2,h3,h4,h5⟩:=hS i hi;subst h2;refine⟨g,cap,(hb.cell (by exact hgS)).trans h1,h3,h4,λj hj=>?_⟩;obtain⟨y,h6,h7⟩:=h5 j hj;rw[(hb.cell (by exact h4)).trans h6,h7]
 ·intro n rs hrs
  obtain⟨x,h1,rs',h2,g,cap,h3,h4,h5,h6⟩:=hR n (zM.1 hrs).1;rw[hrs]at h2;injection h2 with h2
  subst h2;subst h3;refine⟨g,cap,(hb.cell (by exact Nz)).trans h1,h4,λk r hr=>?_⟩;obtain⟨y,h7,r',h8,g2,cap2,h9,h10,h11,h12⟩:=h6 k (zM.1 hr).1;rw[hr]at h8;injection h8 with h8
  subst h8;subst h9;refine⟨g2,cap2,(hb.cell Lb).trans h7,h10,λp a ha=>?_⟩;obtain⟨z,h13,a',h14,h15⟩:=h12 p (zM.1 ha).1;rw[ha]at h14;injection h14 with h14
  subst h14;rw[(hb.cell (by exact h11)).trans h13,h15]
theorem fD (m:Mk) (k:Nat):(KY m k).length=12:=by simp[KY,wB]
theorem uY (m:Mk) (i j:Nat):(KA m i j).length<=11:=by unfold KA;split <;> simp[wB]
theorem SD (l:List UInt8):(ba l).size=l.length:=by simp[ba,ByteArray.size]
theorem rK (m:Mk) (hm:m.Good) (w:World) (b:Nat) (hM:Gf w w.heap.size b m):
  Calls Tryz.prog 29 #[ac b] w λe w'=>e=.returned (.string (DK m))/\Below w.heap.size w w':=by
 obtain⟨gR,cR,gP,cP,gD,cD,gS,cS,hC⟩:=WN hM;have hN4:=hm.n4;have Wq:=hm.t6;have HG:Hid m.Good:=hid hm;obtain⟨b0,hb0⟩:=qF (w.heap.size);have H0:Hid (b0=w.heap.size):=hid hb0;rw[<-hb0]at hC;rw[<-hb0];have HC:Hid (∀W,Below b0 w W->MkC W b0 b m gR cR gP cP gD cD gS cS):=hid hC;obtain⟨nN,hn1⟩:=qF (m.rules.length);obtain⟨nT,hn2⟩:=qF (m.zJ.length);rw[<-hn1]at hN4;rw[<-hn2]at Wq;have H1:Hid (nN=m.rules.length):=hid hn1;have H2:Hid (nT=m.zJ.length):=hid hn2;have Rp:Hid (Below b0 w w):=hid (ah _ _);have HW0:Hid (b0<=w.heap.size):=hid (yU hb0);clear hC hM hm hn1 hn2 hb0
 go_enter Tryz.func29,Tryz.ntmps29
 go_wp2
 go_loopw [3,4] (λs i wr=>∃(k:Nat) (x:ByteArray),k<=nT/\i=ab k/\s=.string x/\x.size<=80*k/\Hid (x=ba ((List.range k).flatMap (KE m)))/\Hid (Below b0 w wr)) (λ_ i _=>nT - (intOf i).toNat)
 case atStart=>exact⟨0,_,dh _,rfl,rfl,dh _,hid rfl,Rp⟩
 case round=>
  obtain⟨k,x,hk,rfl,rfl,hxs,hx,hbr⟩:=hrel;obtain⟨W,hW⟩:=qF (wr);subst hW;have hX:=HC.out _ hbr.out;have c1:=hX.c1;have lP:=hX.lP;rw[<-H2.out]at c1 lP
  by_cases hlt:k<nT
  ·have c2:=hX.c2
   have lD:=hX.lD;rw[<-H2.out]at c2 lD;have d1:=hX.zJ k aaG;have d2:=hX.Ai k aaG;have hp9:=(HG.out.Ph (t:=k) aaG).2;have hd9:=(JB HG.out.d1 (by rw[HG.out.dl,<-H2.out];exact hlt)).2;obtain⟨pu,Vo⟩:=qF (m.zJ.getD k 0);obtain⟨du,hdu⟩:=qF (m.Ai.getD k 0);have hd9:m.Ai.getD k 0<=9:=hd9;rw[<-Vo]at d1 hp9;rw[<-hdu]at d2 hd9;have HPU:Hid (pu=m.zJ.getD k 0):=hid Vo;have HDU:Hid (du=m.Ai.getD k 0):=hid hdu;have hbW:=hbr.out;have z6:¬9223372036854775807<x.size+6:=by omega
   have z7:¬9223372036854775807<x.size+6+1:=by omega
   have z8:¬9223372036854775807<x.size+6+1+1:=by omega
   have z9:¬9223372036854775807<x.size+6+1+1+1:=by omega
   have z10:¬9223372036854775807<x.size+6+1+1+1+1:=by omega
   have z11:¬9223372036854775807<x.size+6+1+1+1+1+1:=by omega
   have z12:¬9223372036854775807<x.size+6+1+1+1+1+1+1:=by omega
   have l1:(AB k).size=1:=rfl;have l2:(EL pu).size=1:=rfl;have l3:(EL du).size=1:=rfl;clear hX Vo hdu;go_wp2;have HS:Hid (∀W',Below b0 w W'->W'.cell? (af b 1)=some (ae gP nT cP)/\W'.cell? (af b 2)=some (ae gD nT cD)/\W'.cell? (af gP k)=some (ab pu)/\W'.cell? (af gD k)=some (ab du)/\Below b0 w W'):=hid λW' hb=>by
    have hX:=HC.out W' hb;have e1:=hX.c1;have e2:=hX.c2;rw[<-H2.out]at e1 e2;rw[HPU.out,HDU.out];exact⟨e1,e2,hX.zJ k aaG,hX.Ai k aaG,hb⟩
   refine dy (S:=λw'=>w'.cell? (af b 1)=some (ae gP nT cP)/\w'.cell? (af b 2)=some (ae gD nT cD)/\w'.cell? (af gP k)=some (ab pu)/\w'.cell? (af gD k)=some (ab du)/\Below b0 w w') yM (HS.out _ hbW.drew) (λhH=>?_);refine tB 0 hH ?_;refine tB 1 hH ?_;refine tB 2 hH ?_;refine tB 6 hH ?_;refine tB 7 hH ?_;refine tB 8 hH ?_;refine tB 9 hH ?_;refine tB 10 hH ?_;refine tB 11 hH ?_;refine tB 12 hH ?_;refine tB 16 hH ?_;refine tB 17 hH ?_;refine tB 18 hH ?_;refine tB 19 hH ?_;refine tB 20 hH ?_;refine tB 21 hH ?_;refine tB 22 hH ?_;refine tL ?_;refine tS 3 λK hK=>?_
   refine tM ?_
   go_simp;refine(ID k (by omega) _).mono ?_;rintro e w' ⟨rfl,rfl⟩;try dsimp only
   refine hK.out _ _ ?_ λhH=>?_
   ·exact hH
   clear hK K;refine tB 4 hH ?_;refine tB 5 hH ?_;refine tL ?_;refine tS 13 λK hK=>?_
   refine tM ?_
   go_simp;refine(QE pu (by omega) _).mono ?_;rintro e w5 ⟨rfl,zP⟩;try dsimp only
   refine hK.out _ _ ?_ λhH=>?_
   ·exact HS.out _ (hH.2.2.2.2.trans (zP.mono (zV HW0.out hH.2.2.2.2.size)))
   clear hK K;refine tB 14 hH ?_;refine tB 15 hH ?_;refine tL ?_;refine tS 23 λK hK=>?_
   refine tM ?_
   go_simp;refine(QE du (by omega) _).mono ?_;rintro e w6 ⟨rfl,zU⟩;try dsimp only
   refine hK.out _ _ ?_ λhH=>?_
   ·exact HS.out _ (hH.2.2.2.2.trans (zU.mono (zV HW0.out hH.2.2.2.2.size)))
   clear hK K;refine tB 24 hH ?_;refine tB 25 hH ?_;refine tB 26 hH ?_;refine tL ?_;refine bq yM ?_ _;have Rn:=hid hH.2.2.2.2;clear hH c1 c2 d1 d2 hbW z6 z7 z8 z9 z10 z11 z12 l1 l2 l3;go_wp2
   go_loopw [3,5] (λs i wr=>∃(j:Nat) (y:ByteArray),j<=nT/\i=ab j/\s=.string y/\y.size<=80*k+12+11*j/\Hid (y=ba ((List.range k).flatMap (KE m)++(KY m k++(List.range j).flatMap (KA m k))))/\Hid (Below b0 w wr)) (λ_ i _=>nT - (intOf i).toNat)
   case atStart=>
    have e:x++ {data:= #[116,111,107,101,110,32]}++AB k++ {data:= #[32]}++EL pu++ {data:= #[32]}++EL du++ {data:= #[10]}=ba ((List.range k).flatMap (KE m)++(KY m k++(List.range 0).flatMap (KA m k))):=by
     rw[hx.out,HPU.out,HDU.out];simp only[P0]
     congr 1
     simp[KY,AB,EL,wB]
    refine⟨0,_,dh _,rfl,rfl,?_,hid e,Rn⟩;have hxl:x.size=((List.range k).flatMap (KE m)).length:=by rw[hx.out,SD]
    rw[e,SD,lA,lA,fD,<-hxl];simp only[List.range_zero,List.flatMap_nil,jd];omega
   case round=>
    clear hxs hbr Rn;obtain⟨j,y,hj,rfl,rfl,hys,hy,hbr⟩:=hrel;obtain⟨W,hW⟩:=qF (wr);subst hW;have hX:=HC.out _ hbr.out;have c1:=hX.c1;have lP:=hX.lP;rw[<-H2.out]at c1 lP
    by_cases Pf:j<nT
    ·have c3:=hX.c3
     have lS:=hX.lS;have hlb:=hX.ltb;have hlS:=hX.ltS;obtain⟨gs,cs,d1,d2,Ka,d3⟩:=hX.swaps k aaG;have d3:=d3 j (by rw[<-H2.out];exact Pf);rw[<-H2.out]at c3 lS d1 d2;have Rq:=KL HG.out k j;obtain⟨c,hc⟩:=qF (DA m k j);rw[<-hc]at d3 Rq;have HCc:Hid (c=DA m k j):=hid hc;clear hX hc
     by_cases h0:0<c
     ·have hbW:=hbr.out
      have z6:¬9223372036854775807<y.size+5:=by omega
      have z7:¬9223372036854775807<y.size+5+1:=by omega
      have z8:¬9223372036854775807<y.size+5+1+1:=by omega
      have z9:¬9223372036854775807<y.size+5+1+1+1:=by omega
      have z10:¬9223372036854775807<y.size+5+1+1+1+1:=by omega
      have z11:¬9223372036854775807<y.size+5+1+1+1+1+1:=by omega
      have z12:¬9223372036854775807<y.size+5+1+1+1+1+1+1:=by omega
      have l1:(AB k).size=1:=rfl;have l2:(AB j).size=1:=rfl;have l3:(EL c).size=1:=rfl;have hci:(0:Int)<c:=by omega
      go_wp2;refine dy (S:=λw'=>w'.cell? (af b 3)=some (ae gS nT cS)/\w'.cell? (af gS k)=some (ae gs nT cs)/\w'.cell? (af gs j)=some (ab c)/\Below b0 w w') yM ⟨c3,d1,d3,hbW.drew⟩ (λhH=>?_);refine tB 0 hH ?_;refine tB 1 hH ?_;refine tB 2 hH ?_;refine tB 6 hH ?_;refine tB 10 hH ?_;refine tB 11 hH ?_;refine tB 12 hH ?_;refine tB 13 hH ?_;refine tB 14 hH ?_;refine tB 15 hH ?_;refine tB 16 hH ?_;refine tB 17 hH ?_;refine tB 18 hH ?_;refine tB 19 hH ?_;refine tL ?_;refine tS 3 λK hK=>?_
      refine tM ?_
      go_simp;refine(ID k (by omega) _).mono ?_;rintro e w' ⟨rfl,rfl⟩;try dsimp only
      refine hK.out _ _ ?_ λhH=>?_
      ·exact hH
      clear hK K;refine tB 4 hH ?_;refine tB 5 hH ?_;refine tL ?_;refine tS 7 λK hK=>?_
      refine tM ?_
      go_simp;refine(ID j (by omega) _).mono ?_;rintro e w' ⟨rfl,rfl⟩;try dsimp only
      refine hK.out _ _ ?_ λhH=>?_
      ·exact hH
      clear hK K;refine tB 8 hH ?_;refine tB 9 hH ?_;refine tL ?_;refine tS 20 λK hK=>?_
      refine tM ?_
      go_simp;refine(QE c (by omega) _).mono ?_;rintro e w5 ⟨rfl,zP⟩;try dsimp only
      refine hK.out _ _ ?_ λhH=>?_
      ·exact⟨(zP.cell (by exact lL hlb (zV HW0.out hH.2.2.2.size))).trans hH.1,(zP.cell (by exact lL hlS (zV HW0.out hH.2.2.2.size))).trans hH.2.1,(zP.cell (by exact lL Ka (zV HW0.out hH.2.2.2.size))).trans hH.2.2.1,hH.2.2.2.trans (zP.mono (zV HW0.out hH.2.2.2.size))⟩
      clear hK K;refine tB 21 hH ?_;refine tB 22 hH ?_;refine tB 23 hH ?_;refine tL ?_;refine bq yM ?_ _;have Rn:=hid hH.2.2.2;clear hH c1 c3 d1 d2 d3 hbW z6 z7 z8 z9 z10 z11 z12 l1 l2 l3;go_wp2
      go_roundw
      case rel=>
       have e:y++ {data:= #[115,119,97,112,32]}++AB k++ {data:= #[32]}++AB j++ {data:= #[32]}++EL c++ {data:= #[10]}=ba ((List.range k).flatMap (KE m)++(KY m k++(List.range (j+1)).flatMap (KA m k))):=by
        rw[hy.out,MO];simp only[P0]
        congr 1
        have e2:KA m k j=[115,119,97,112,32]++wB (.tok k)++ [32]++wB (.tok j)++ [32]++ [UInt8.ofNat (48+c)]++ [10]:=by
         unfold KA;rw[<-HCc.out,ay h0]
        rw[e2];simp[AB,EL,wB]
       refine⟨j+1,_,by omega,by go_num,rfl,?_,hid e,Rn⟩;have hyl:y.size=((List.range k).flatMap (KE m)++(KY m k++(List.range j).flatMap (KA m k))).length:=by rw[hy.out,SD]
       have h11:=uY m k j;rw[e,SD,MO];simp only[lA]at hyl ⊢;omega
      case measure=>simp[intOf];omega
     ·have hci:¬(0:Int)<c:=by omega
      go_wp2
      go_roundw
      case rel=>
       refine⟨j+1,y,by omega,by go_num,rfl,by omega,hid ?_,hbr⟩;rw[hy.out,MO];have e2:KA m k j=[]:=by
        unfold KA;rw[<-HCc.out,aq h0]
       rw[e2,fy]
      case measure=>simp[intOf];omega
    ·clear hX
     go_wp2
     go_roundw
     case rel=>
      refine⟨k+1,y,by omega,by go_num,rfl,by omega,hid ?_,hbr⟩;rw[hy.out,MO];have e:j=m.zJ.length:=by rw[<-H2.out];omega
      rw[e];rfl
     case measure=>simp[intOf];omega
  ·have e0:k=m.zJ.length:=by rw[<-H2.out];omega
   have HX0:Hid (x=ba ((List.range m.zJ.length).flatMap (KE m)++(m.rules.zipIdx.take 0).flatMap LZ)):=hid (by rw[hx.out,e0];simp);obtain⟨L0,Pc⟩:=qF ((List.range m.zJ.length).flatMap (KE m));rw[<-Pc]at HX0;have HL0:Hid (L0=(List.range m.zJ.length).flatMap (KE m)):=hid Pc;clear hX e0 Pc;go_wp2;clear hx c1 lP
   go_loopw [3,6] (λs i wr=>∃(n:Nat) (y:ByteArray),n<=nN/\i=ab n/\s=.string y/\y.size<=500+200*n/\Hid (y=ba (L0++(m.rules.zipIdx.take n).flatMap LZ))/\Hid (Below b0 w wr)) (λ_ i _=>nN - (intOf i).toNat)
   case atStart=>exact⟨0,x,dh _,rfl,rfl,by omega,HX0,hbr⟩
   case round=>
    clear hxs hbr HX0;obtain⟨n,y,hn,rfl,rfl,hys,hy,hbr⟩:=hrel;obtain⟨W,hW⟩:=qF (wr);subst hW;have hX:=HC.out _ hbr.out;have c0:=hX.c0;have lR:=hX.lR;rw[<-H1.out]at c0 lR
    by_cases hlt:n<nN
    ·obtain⟨rs,hrs⟩:∃rs,m.rules[n]?=some rs:=⟨_,gE (by rw[<-H1.out];exact hlt)⟩
     have Jl:=(HG.out.c1 rs (E6 hrs).2).2;rw[<-H2.out]at Jl;have Fm:Hid (m.rules[n]?=some rs):=hid hrs;obtain⟨nR,Ic⟩:=qF (rs.length);have Jd:Hid (nR=rs.length):=hid Ic;rw[<-Ic]at Jl;have z5:¬9223372036854775807<y.size+5:=by omega
     have z6:¬9223372036854775807<y.size+5+1:=by omega
     have z7:¬9223372036854775807<y.size+5+1+2:=by omega
     have l1:(BM n).size=1:=rfl;have CN:Hid (∀W,Calls Tryz.prog 33 #[ab n] W λe w'=>e=.returned (.string (BM n))/\W=w'):=hid λW=>RX n (by omega) W
     clear hX hrs Ic
     go_wp2_with (go_at_call 33;refine(CN.out _).mono ?_;rintro e w' ⟨rfl,rfl⟩)
     clear z5 z6 z7 c0 lR
     go_loopw [3,7] (λs i wr=>∃(q:Nat) (v:ByteArray),q<=nR/\i=ab q/\s=.string v/\v.size<=508+200*n+12*q/\Hid (v=ba (L0++(m.rules.zipIdx.take n).flatMap LZ++(LO n++(rs.zipIdx.take q).flatMap (λy=>M2 y.2++I8 y.1))))/\Hid (Below b0 w wr)) (λ_ i _=>nR - (intOf i).toNat)
     case atStart=>
      have e:y++ {data:= #[114,117,108,101,32]}++BM n++ {data:= #[32,61]}=ba (L0++(m.rules.zipIdx.take n).flatMap LZ++(LO n++(rs.zipIdx.take 0).flatMap (λy=>M2 y.2++I8 y.1))):=by
       rw[hy.out];simp only[P0]
       congr 1
       simp[LO,BM,wB]
      refine⟨0,_,dh _,rfl,rfl,?_,hid e,hbr⟩;simp only[yg,l1];have e5:(ByteArray.mk #[114,117,108,101,32]).size=5:=rfl;have e2:(ByteArray.mk #[32,61]).size=2:=rfl;rw[e5,e2];omega
     case round=>
      clear hys hy hbr l1;obtain⟨q,v,hq,rfl,rfl,hvs,hv,hbr⟩:=hrel;obtain⟨W,hW⟩:=qF (wr);subst hW;have hX:=HC.out _ hbr.out;have c0:=hX.c0;have lR:=hX.lR;rw[<-H1.out]at c0 lR;obtain⟨gn,cn,d0,Gp,Co⟩:=hX.rules n rs Fm.out;rw[<-Jd.out]at d0 Gp
      by_cases My:q<nR
      ·obtain⟨r,hr⟩:∃r,rs[q]?=some r:=⟨_,gE (by rw[<-Jd.out];exact My)⟩
       have HR:Hid (rs[q]?=some r):=hid hr;obtain⟨np,hnp⟩:=qF (r.length);have Zg:Hid (np=r.length):=hid hnp;have amJ:np<=5:=by rw[hnp];exact(HG.out.head rs (E6 Fm.out).2 q r hr).2
       obtain⟨u,hu⟩:∃u,u=(if 0<q then v++ {data:= #[32,124]}else v):=⟨_,rfl⟩;have Kq:u.size<=508+200*n+12*q+2:=by
        rw[hu];split
        ·rw[yg]
         have e2:(ByteArray.mk #[32,124]).size=2:=rfl;rw[e2];omega
        ·omega
       have HU:Hid (u=ba (L0++(m.rules.zipIdx.take n).flatMap LZ++(LO n++(rs.zipIdx.take q).flatMap (λy=>M2 y.2++I8 y.1))++M2 q)):=hid (by
        rw[hu,hv.out];unfold M2;split
        ·rw[P0]
        ·simp)
       have hu1:0<q->v++ {data:= #[32,124]}=u:=λh=>by rw[hu,ay h]
       have hu2:¬0<q->v=u:=λh=>by rw[hu,aq h]
       have z2:¬9223372036854775807<v.size+2:=by omega
       clear hX hr hnp Co hu
       rcases Classical.em (0<q)with Ud |Ud
       all_goals
        go_wp2;have HQ:=hid Ud;clear c0 d0 lR Gp z2 Ud
        go_loopw [3,8] (λs i wr=>∃(p:Nat) (t:ByteArray),p<=np/\i=ab p/\s=.string t/\t.size<=510+200*n+12*q+2*p/\Hid (t=ba (L0++(m.rules.zipIdx.take n).flatMap LZ++(LO n++(rs.zipIdx.take q).flatMap (λy=>M2 y.2++I8 y.1))++M2 q++I8 (r.take p)))/\Hid (Below b0 w wr)) (λ_ i _=>np - (intOf i).toNat)
        case atStart=>
         refine⟨0,u,dh _,rfl,?_,by omega,hid (by rw[HU.out];simp[I8]),hbr⟩
         first
          |rfl
          | (rw[hu2 HQ.out])
          | (rw[hu1 HQ.out])
        case round=>
         clear Kq hu1 hu2 hbr hvs hv;obtain⟨p,t,hp,rfl,rfl,hts,ht,hbr⟩:=hrel;obtain⟨W,hW⟩:=qF (wr);subst hW;have hX:=HC.out _ hbr.out;have c0:=hX.c0;have lR:=hX.lR;rw[<-H1.out]at c0 lR;obtain⟨gn,cn,d0,Gp,Co⟩:=hX.rules n rs Fm.out;obtain⟨gr,cr,d1,akT,hwd⟩:=Co q r HR.out;rw[<-Jd.out]at d0 Gp;rw[<-Zg.out]at d1 akT
         by_cases Ub:p<np
         ·obtain⟨a,ha⟩:∃a,r[p]?=some a:=⟨_,gE (by rw[<-Zg.out];exact Ub)⟩
          have d2:=hwd p a ha;have HA:Hid (r[p]?=some a):=hid ha;have l1:(EG a).size=1:=by cases a <;> rfl
          have z1:¬9223372036854775807<t.size+1:=by omega
          have z2:¬9223372036854775807<t.size+1+1:=by omega
          clear hX Co hwd ha;go_wp2
          go_roundw
          case rel=>
           refine⟨p+1,t++ {data:= #[32]}++EG a,by omega,by go_num,rfl,?_,hid ?_,hbr⟩
           ·simp only[yg,l1]
            have e1:(ByteArray.mk #[32]).size=1:=rfl;rw[e1];omega
           ·rw[ht.out]
            simp only[P0]
            congr 1
            have e2:I8 (r.take (p+1))=I8 (r.take p)++(32::wB a):=by
             unfold I8;rw[RV _ HA.out]
            have e3:(EG a).data.toList=wB a:=by cases a <;> rfl
            rw[e2,e3];simp
          case measure=>simp[intOf];omega
         ·clear hX Co hwd
          go_wp2
          go_roundw
          case rel=>
           refine⟨q+1,t,by omega,by go_num,rfl,by omega,hid ?_,hbr⟩;rw[ht.out]
           congr 1
           have e2:rs.zipIdx[q]?=some (r,q):=by rw[oz,HR.out];simp
           have e3:r.take p=r:=jk (by rw[<-Zg.out];omega);rw[RV _ e2,e3];simp
          case measure=>simp[intOf];omega
      ·have z1:¬9223372036854775807<v.size+1:=by omega
       clear hX Co;go_wp2
       go_roundw
       case rel=>
        refine⟨n+1,v++ {data:= #[10]},by omega,by go_num,rfl,?_,hid ?_,hbr⟩
        ·rw[yg]
         have e1:(ByteArray.mk #[10]).size=1:=rfl;rw[e1];omega
        ·rw[hv.out,P0]
         congr 1
         have e2:m.rules.zipIdx[n]?=some (rs,n):=by rw[oz,Fm.out];simp
         have e3:rs.zipIdx.take q=rs.zipIdx:=jk (by rw[zv,<-Jd.out];omega);rw[RV _ e2,e3];simp[LZ]
       case measure=>simp[intOf];omega
    ·have HE:Hid (y=DK m):=hid (by
      rw[hy.out,uQ,HL0.out,jk (by rw[zv,<-H1.out];omega)])
     clear hX hy hys;go_wp2;go_ret;exact⟨by rw[HE.out];rfl,hbr.out⟩
theorem Az.append {zH:Nat->Nat->Option (List Pt)}{a b:List Pt}{l l':List Nat}{S S':List GF} (h:Az zH a l S) (h':Az zH b l' S'):Az zH (a++b) (l++l') (S++S'):=by
 induction h with
 |nil=>exact h'
 |tok _ ih=>exact .tok ih
 |zi hk h1 _ _ ih2=>
  have:=Az.zi hk h1 ih2;rw[aA,iw,aA];exact this
theorem GP.put {g n cap:Nat}{R:List Cw}{a:Cw} (h:GP w gb B mb raw x left rv (ae g n cap) ws (NS++a::R)) (b:Cw) (j:Nat) (hj:j<3) (u:Value)
  (hu:[Value.string b.1,ab b.2.1,ab b.2.2]=[Value.string a.1,ab a.2.1,ab a.2.2].set j u) (hB:B<=w.heap.size):
  GP (w.setCell (af g (NS.length*3+j)) u) gb B mb raw x left rv (ae g n cap) ws (NS++b::R)/\Below B w (w.setCell (af g (NS.length*3+j)) u):=by
 have hne:(ae g n cap).ownBlock≠some gb:=A9 h.tree h.blk (by decide);have hgB:B<=g:=(h.tree.lt g rfl).1;have hk:A5 w (w.setCell (af g (NS.length*3+j)) u) [g]:=(A5.refl w [g]).setCell (by simp) _;have hb:Below B w (w.setCell (af g (NS.length*3+j)) u):=hk.below hB (λq hq=>by rw[mS.1 hq];exact hgB);refine⟨⟨(hk.block gb (ak h.blk) (λhm=>hne (by rw[mS.1 hm];rfl))).trans h.blk,BL.keeps h.row hk (λq hq hm=>GQ h.row h.tree (by decide) hq (by rw[mS.1 hm];rfl)),?_⟩,hb⟩;have h3:=h.tree;have e:n=(NS++a::R).length:=by
  obtain⟨_,_,e,_⟩:=BV h3;injection e
 subst e;have h4:=(h3.stored (NS.length*3+j) u).1;rw[TN NS R a b j u hu hj]at h4;have e2:(NS++a::R).length=(NS++b::R).length:=by simp
 rw[e2]at h4 ⊢;exact h4
theorem GP.drewN {tv:Value} (h:GP w gb B mb raw x left rv tv ws NS) (q:Nat):GP (w.drewN q) gb B mb raw x left rv tv ws NS:=⟨h.blk,h.row,h.tree⟩
theorem GP.ahP {x' left':Nat}{tv:Value} (h:GP w gb B mb raw x left rv tv ws NS) (hgb:B<=gb) (hB:B<=w.heap.size) {w':World} (hk:A5 w w' [gb])
  (hb:w'.heap[gb]?=some (.cells #[ac mb,raw,ab x',rv,tv,ab left'] 143 (0,0))):GP w' gb B mb raw x' left' rv tv ws NS/\Below B w w':=
 ⟨⟨hb,BL.keeps h.row hk (λg hg hm=>by rw[mS.1 hm]at hg;exact A9 h.row h.blk (by decide) hg),AC h.tree hk (λg hg hm=>by rw[mS.1 hm]at hg;exact A9 h.tree h.blk (by decide) hg)⟩,hk.below hB (λq hq=>by rw[mS.1 hq];exact hgb)⟩
theorem oI {n₀ b:Nat} (h:Gf w n₀ b m) {n:Nat}{rs:List (List Pt)} (hn:m.rules[n]?=some rs):
  ∃gR cR gn cn,m.rules.length<=cR/\rs.length<=cn/\(∀W,Below n₀ w W->W.cell? (af b 0)=some (ae gR m.rules.length cR)/\W.cell? (af gR n)=some (ae gn rs.length cn))/\
   ∀k r,rs[k]?=some r->∃gr cr,r.length<=cr/\∀W,Below n₀ w W->W.cell? (af gn k)=some (ae gr r.length cr)/\∀p a,r[p]?=some a->W.cell? (af gr p)=some (.string (EG a)):=by
 obtain⟨v,c0,gR,cR,rfl,lR,Nz,hR⟩:=h.rules;obtain⟨x,x1,rs',x2,gn,cn,rfl,ln,Td,hN⟩:=hR n (E6 hn).1;rw[hn]at x2;injection x2 with x2
 subst x2;refine⟨gR,cR,gn,cn,lR,ln,λW hb=>⟨(hb.cell Tq).trans c0,(hb.cell (by exact Nz)).trans x1⟩,λk r hk=>?_⟩;obtain⟨y,y1,r',y2,gr,cr,rfl,lr,hgr,hP⟩:=hN k (zM.1 hk).1;rw[hk]at y2;injection y2 with y2
 subst y2;refine⟨gr,cr,lr,λW hb=>⟨(hb.cell (by exact Td)).trans y1,λp a ha=>?_⟩⟩;obtain⟨z,z1,q,z2,rfl⟩:=hP p (zM.1 ha).1;rw[ha]at z2;injection z2 with z2
 subst z2;exact(hb.cell (by exact hgr)).trans z1
theorem rH  (hm:m.Good) (mb B:Nat) (raw:Value) (left n:Nat) (hn:n<m.rules.length) (ih:∀left',left'<left->∀p,E9 m.zJ.length m.rules.length p->UU m mb B raw left' p):UU m mb B raw left (.zi n):=by
 intro w gb rv tv ws NS x hM hgb hBw hV hx Nd Ld Ez;obtain⟨iN,Kl,Pr,Pu,Pv⟩:=iy Tryz.infoG129;have Hi:n<4:=by have:=hm.n4;omega
 have l1:=WP n Hi;have l0:=OW n;have l4:=WE n Hi l0;obtain⟨rs,hrs⟩:∃rs,m.rules[n]?=some rs:=⟨_,gE hn⟩;obtain⟨gR,cR,gn,cn,dl,e1,hC,hCr⟩:=oI (hM w (ah _ _)).1 hrs;have c0:w.cell? (af gb 0)=some (ac mb):=(A0 hV.blk).trans rfl;have c4:w.cell? (af gb 4)=some tv:=(A0 hV.blk).trans rfl;have c5:w.cell? (af gb 5)=some (ab left):=(A0 hV.blk).trans rfl;obtain⟨d0,e0⟩:=hC w (ah _ _);have Lt:=hV.tree;obtain⟨Yf,Yg,rfl,hct⟩:=BV Lt;obtain⟨nt,hnt⟩:=qE (NS.length);rw[hnt]at c4 Lt hct hV;have hNt:nt<100000:=by have:0<6 ^(left+JE (.zi n)):=yq (by omega);omega
 have hbl:gb<w.heap.size:=ak hV.blk;have hrl:=(hm.c1 rs (E6 hrs).2).1;have hr6:rs.length<=6:=by have h1:=(hm.c1 rs (E6 hrs).2).2;have h2:=hm.t6;omega
 obtain⟨nr,Kg⟩:=qE (rs.length);rw[Kg]at e0 e1 hrl hr6;have HV:=hid hV;have HM:=hid hM;have HC:=hid hCr;have Fm:Hid (m.rules[n]?=some rs/\rs.length=nr):=hid ⟨hrs,Kg⟩;have HX:=hid (And.intro Ld Ez);obtain⟨s,hs⟩:=qF (BM n);show Calls _ _ #[_,.string (BM n)] _ _;have Ou:=XF n Hi;have l5:=WE n Hi l0;rw[<-hs]at Ou l1 ⊢;have HS:=hid hs;have l0:0<s.size:=by rw[hs];exact OW n
 have l4:((s[0]'l0).toNat:Int)=65+n:=by
  subst hs;exact l5
 have HNt:Hid (NS.length=nt):=hid hnt;have HIH:=hid ih;have HL5:Hid (∀(k:Nat) r,rs[k]?=some r->r.length<=5):=hid λk r h=>(hm.head rs (E6 hrs).2 k r h).2
 have HPA:Hid (∀(k:Nat) r,rs[k]?=some r->∀p∈r,E9 m.zJ.length m.rules.length p):=hid λk r h p hp=>hm.part rs (E6 hrs).2 r (mG h) p hp
 have HLA:Hid (∀(k:Nat) r,rs[k]?=some r->k+1=nr->∀p∈r,∃t,p=.tok t):=hid λk r h hk=>hm.last rs (E6 hrs).2 r (by rw[List.getLast?_eq_getElem?,Kg,show nr - 1=k by omega];exact h)
 clear hV hM hC hCr hrs Kg hnt ih Ld Ez l5 hs Lt
 go_enter Tryz.func72,Tryz.ntmps72
 go_upto_region 1 with fail
 go_cut [4,18] (λs4 s18 wx=>s4=ab nt/\s18=.bool false/\wx=w)
 case first=>
  rcases Ou with Ou |Ou
  all_goals
   go_wp2
   go_meet
   exact⟨rfl,rfl,rfl⟩
 case rest=>
  obtain⟨rfl,rfl,rfl⟩:=hcut;obtain⟨w,rfl⟩:=qF (wc);clear Ou l1
  go_upto_region 4 with fail
  go_quiet (fail)
  obtain⟨wq,hwq⟩:=qE (w.drewN nq);have HVq:Hid (GP wq gb B mb raw x left rv (.slice Yf nt Yg) ws NS):=hid (by rw[<-hwq];exact HV.out.drewN _);have Ut:Hid (Below B w wq):=hid (by rw[<-hwq];exact ox (ah _ _) nq);clear c0 c4 c5 d0 e0;have c5:wq.cell? (af gb 5)=some (ab left):=(A0 HVq.out.blk).trans rfl;have akU:(nr:Int) - 1=((nr - 1:Nat):Int):=by omega
  rw[hwq]
  go_upto_if 60 with fail
  try rw[akU]
  go_cut [6] (λs6 wx=>∃k aaw x1:Nat,s6=ab k/\k<nr/\x1+aaw=x+left/\(aaw<left\/left=0/\aaw=0/\k+1=nr)/\Hid (GP wx gb B mb raw x1 aaw rv (.slice Yf nt Yg) ws NS)/\Hid (Below B w wx))
  case first=>
   rcases xx left with h0 |h0
   ·have hng:¬((0:Int)< (left:Int)):=by omega
    go_wp2
    go_meet
    exact⟨nr - 1,left,x,by go_num,by omega,rfl,.inr ⟨h0,h0,by omega⟩,HVq,Ut⟩
   ·obtain⟨lf,hlf⟩:∃lf,left=lf+1:=⟨left - 1,by omega⟩
    have hgt:((0:Int)< (left:Int)):=by omega
    have hsub:IntKind.i64.wrap ((left:Int) - 1)=(lf:Int):=by rw[Db];omega
    have f5:=A7 (j:=5) HVq.out.blk
    go_upto_region 8 with fail
    have Ip:=AA (j:=5) HVq.out.blk (ab (lf:Nat));have Ag:A5 wq (wq.setCell (af gb 5) (ab (lf:Nat))) [gb]:=(A5.refl _ [gb]).setCell (by simp) _;obtain⟨acn,afp⟩:=HVq.out.ahP hgb (by have:=Ut.out.size;omega) Ag Ip;obtain⟨W5,Bj⟩:=qE (wq.setCell (af gb 5) (ab (lf:Nat)));rw[Bj]at acn afp ⊢;clear Ip Ag Bj f5 c5;have c1:W5.cell? (af gb 1)=some raw:=(A0 acn.blk).trans rfl;have c2:W5.cell? (af gb 2)=some (ab x):=(A0 acn.blk).trans rfl;have Av:Hid (Below B w W5):=hid (Ut.out.trans afp);have Pw:=hid acn;clear acn afp;refine dy (S:=λw'=>w'.cell? (af gb 1)=some raw/\w'.cell? (af gb 2)=some (ab x)) yM ⟨c1,c2⟩ (λhH=>?_);refine tB 0 hH ?_;refine tB 1 hH ?_;refine tB 2 hH ?_;refine tB 3 hH ?_;refine tB 4 hH ?_;refine tB 5 hH ?_;refine tB 6 hH ?_;refine tB 7 hH ?_;refine tB 9 hH ?_;refine tB 10 hH ?_;refine tL ?_;refine tS 8 λK hK=>?_
    refine tM ?_
    go_simp;refine(K0 raw x (by omega) _ (HM.out _ (Av.out.drew)).2).mono ?_;rintro e w' ⟨⟨z,rfl,hz⟩,rfl⟩;try dsimp only
    refine hK.out _ _ ?_ λhH=>?_
    ·exact hH
    clear hK K;refine tL ?_;refine tS 11 λK hK=>?_
    refine tM ?_
    go_simp;refine(GZ z nr (by omega) hz _).mono ?_;rintro e w' ⟨⟨k,hk,rfl⟩,rfl⟩;try dsimp only
    refine hK.out _ _ ?_ λhH=>?_
    ·exact hH
    clear hK K;refine tB 12 hH ?_;refine tL ?_;refine bq yM ?_ _;clear hH c1;have f2:=A7 (j:=2) Pw.out.blk;have hxw:IntKind.i64.wrap ((x:Int)+1)=((x+1:Nat):Int):=by rw[Db];omega
    go_wp2
    go_meet
    have hr2:=AA (j:=2) Pw.out.blk (ab ((x:Int)+1));have hk2:A5 W5 (W5.setCell (af gb 2) (ab ((x:Int)+1))) [gb]:=(A5.refl _ [gb]).setCell (by simp) _;obtain⟨z1,z2⟩:=Pw.out.ahP (x':=x+1) (left':=lf) hgb (by have:=Av.out.size;omega) hk2 hr2;exact⟨k,lf,x+1,rfl,hk,by omega,.inl (by omega),hid z1.drew,hid (Av.out.trans z2).drew⟩
  case rest=>
   obtain⟨k,aaw,x1,rfl,hk,hxl,hcs,hV,hB⟩:=hcut;obtain⟨r,hr⟩:∃r,rs[k]?=some r:=⟨_,gE (by rw[Fm.out.2];exact hk)⟩;obtain⟨gr,cr,Jl,HR⟩:=HC.out k r hr;obtain⟨W1,rfl⟩:=qF (wc);have He:B<=W1.heap.size:=by have:=hB.out.size;omega
   have c4:W1.cell? (af gb 4)=some (.slice Yf nt Yg):=(A0 hV.out.blk).trans rfl;have q4:(W1.alloc (.cells #[.string s,ab k,ab 0] 129)).cell? (af gb 4)=some (.slice Yf nt Yg):=A6 _ c4;have hT1:=hV.out.tree;rw[HNt.out]at hT1;have HT1:=hid hT1;clear hT1 hwq
   go_wp2_with (at_builtin;refine jt _ rfl _ _ 40 rfl B 129 iN (.agg #[.string ByteArray.empty,ab 0,ab 0]) 3 32 Tryz.underlying40 Kl Pr Pu Pv rfl (by decide) _ _ _ rfl (HT1.out.alloc _) (af W1.heap.size 0) 1 1 [.string s,ab k,ab 0] rfl rfl (dn (dz W1 _)) ?d2 (zn 1) ?d3 ?d4 ?d5 _ rfl ?_)
   case d2=>simp[Value.oneCell']
   case d3=>unfold maxLen;omega
   case d4=>omega
   case d5=>simp;omega
   intro g5 acj w5 ack acm afo aa4;obtain⟨⟨y1,y2⟩,y3,y4⟩:=hV.out.node (nd:=(s,(k:Int),0)) ((A5.refl W1 []).alloc (.cells #[.string s,ab k,ab 0] 129)) hgb He (v':=ae g5 (nt+1) acj) (by rw[HNt.out];exact ack) acm;have HZ:=hid (And.intro y3 y4);clear y3 y4 ack acm afo aa4 q4 c4
   go_upto_region 11 with fail
   obtain⟨W6,hW6⟩:=qE (w5.setCell (af gb 4) (ae g5 (nt+1) acj));rw[hW6]at HZ ⊢;clear hW6 y1 y2;have Es:Hid (Below B w W6):=hid (hB.out.trans HZ.out.2);have HV6:=hid HZ.out.1;clear HZ;obtain⟨np,hnp⟩:=qE (r.length);rw[hnp]at Jl HR;have hn5:np<=5:=by rw[<-hnp];exact HL5.out k r hr
   have HRR:=hid (And.intro HR (And.intro hr hnp));clear HR hr hnp hV hB;have H5:Hid (5 ^(left+1)=5*5 ^left/\6 ^(left+1)=6*6 ^left/\0<6 ^left):=hid ⟨Nat.pow_succ',Nat.pow_succ',yq (by omega)⟩;go_wp2
   go_loopw [7] (λq wr=>∃(j:Nat) (l:List Nat) (S:List GF) (Uy tvj:Value) (xj lj:Nat),j<=np/\q=ab j/\xj+lj=x+left/\lj<=aaw/\Hid (Az (FJ m) (r.take j) l S)/\Hid (l.length<=j*5 ^left/\S.length<=j*6 ^left)/\Hid (GP wr gb B mb raw xj lj Uy tvj (ws++l.map AB) (NS++(s,(k:Int),0)::S.map Iu))/\Hid (Below B w wr)) (λq _=>np - (intOf q).toNat)
   case atStart=>exact⟨0,[],[],_,_,x1,aaw,dh _,rfl,hxl,zn _,hid .nil,hid ⟨dh _,dh _⟩,hid (by rw[um,fy,um];exact HV6.out),Es⟩
   case round=>
    obtain⟨j,l,S,Uy,tvj,xj,lj,hj,rfl,hxj,Pf,hTr,aco,hVj,hBj⟩:=hrel;obtain⟨W,rfl⟩:=qF (wr);obtain⟨f1,f2⟩:=HRR.out.1 W hBj.out
    by_cases hlt:j<np
    ·obtain⟨a,ha⟩:∃a,r[j]?=some a:=⟨_,gE (by rw[HRR.out.2.2];exact hlt)⟩
     have f3:=f2 j a ha;have hpa:=HPA.out k r HRR.out.2.1 a (mG ha);have Sg:UU m mb B raw lj a/\lj+JE a<=left:=by
      rcases hcs with h1 | ⟨h1,h2,h3⟩
      ·exact⟨HIH.out lj (by omega) a hpa,by have:JE a<=1:=(by cases a <;> simp[JE]);omega⟩
      ·obtain⟨t,rfl⟩:=HLA.out k r HRR.out.2.1 h3 a (mG ha)
       exact⟨aU hm mb B raw lj t hpa,by simp[JE];omega⟩
     have p5:5 ^(lj+JE a)<=5 ^left:=qg (by omega) Sg.2;have p6:6 ^(lj+JE a)<=6 ^left:=qg (by omega) Sg.2;have hj5:j*5 ^left<=4*5 ^left:=oy _ (by omega);have hj6:j*6 ^left<=4*6 ^left:=oy _ (by omega);have HG:=hid (λW' (hb:Below B W W') (hv:GP W' gb B mb raw xj lj Uy tvj (ws++l.map AB) (NS++(s,(k:Int),0)::S.map Iu))=>Sg.1 W' gb Uy tvj _ _ xj (λW2 hb2=>HM.out W2 ((hBj.out.trans hb).trans hb2)) hgb (by have:=hBj.out.size;have:=hb.size;omega) hv (by omega) (by omega)
      (by have h1:=HX.out.1;have h2:=H5.out.1;have h3:=aco.out.1;simp only[JE]at h1;rw[lA,lM];omega)
      (by have h1:=HX.out.2;have h2:=H5.out.2;have h3:=aco.out.2;simp only[JE]at h1;rw[lA,lC,lM];omega))
     have HP:=hid (And.intro p5 (And.intro p6 ha));clear ha Sg p5 p6 hj5 hj6 hpa f2
     go_wp2_with (go_at_call 72;refine(HG.out _ (ah _ _) hVj.out).mono ?_;rintro e w7 ⟨rfl,l7,S7,rv7,tv7,x7,akV,Yh,h72,h73,h74,h75,h76,h77⟩;have H7:=hid (And.intro Yh (And.intro h74 (And.intro h75 (And.intro h76 h77))));clear Yh h74 h75 h76 h77)
     go_roundw
     case rel=>exact⟨j+1,l++l7,S++S7,rv7,tv7,x7,akV,by omega,by go_num,by omega,by omega,hid (by
      have h1:=hTr.out.append H7.out.1;rw[sr,HP.out.2.2];exact h1),hid (by
      have h1:=aco.out;have h2:=HP.out;have h3:=H7.out.2;rw[lA,lA,vn,vn];omega),hid (by
      have h1:=H7.out.2.2.2.1;rw[fq,fq,<-iw,<-aA,<-aA];exact h1),hid (hBj.out.trans H7.out.2.2.2.2)⟩
     case measure=>simp[intOf];omega
    ·have htj:=hTr.out
     rw[jk (by rw[HRR.out.2.2];omega)]at htj;have hV:=hVj.out;have hBl:=hBj.out.size;obtain⟨g9,Ll,rfl,ajB,ajC,Rq⟩:=B4 hV.tree zG;obtain⟨n9,hn9⟩:=qE ((NS++(s,(k:Int),0)::S.map Iu).length);have abZ:n9=nt+1+S.length:=by rw[<-hn9,<-HNt.out];simp;omega
     have Kv:=hV.tree;rw[hn9]at Kv hV Rq;have e9:W.cell? (af gb 4)=some (ae g9 n9 Ll):=(A0 hV.blk).trans rfl;have f9:W.cell? (af g9 (nt*3+2))=some (ab (0:Nat)):=by
      rw[Kv.cellAt (nt*3+2) (by omega)];have:=(L8 NS (S.map Iu) (s,(k:Int),0)).2.2;rw[HNt.out]at this;exact this
     have u9:=Kv.frozenAt (nt*3+2);have Kt:S.length<=100000/\l.length<=5 ^(left+1)/\S.length+1<=6 ^(left+1):=by
      have h1:=aco.out;have h2:=H5.out;have hj5:j*5 ^left<=5*5 ^left:=oy _ (by omega);have hj6:j*6 ^left<=5*6 ^left:=oy _ (by omega);have h3:=HX.out.2;simp only[JE]at h3;omega
     have HV9:=hid hV;have ac7:((nt:Int)< (n9:Int)):=by omega
     have HN9:=hid abZ;have ajD:n9<=2000001:=by omega
     have aax:=hid (And.intro htj Kt);clear hVj hV Kv hn9 abZ htj hTr aco Kt
     go_upto_region 15 with fail
     refine AH (λw'=>w'.cell? (af gb 4)=some (ae g9 n9 Ll)) hmx yM e9 (λhH=>?_);simp only[AG,BP,AR];refine tB 0 hH ?_;refine tB 1 hH ?_;refine tB 2 hH ?_;refine tB 3 hH ?_;refine tB 4 hH ?_;refine tB 5 hH ?_;refine tB 6 hH ?_;refine tB 7 hH ?_;refine tB 8 hH ?_;refine tB 9 hH ?_;refine tB 10 hH ?_;refine tB 11 hH ?_;refine tB 12 hH ?_;refine tB 13 hH ?_;refine tB 14 hH ?_;refine tL ?_;refine bq yM ?_ _;clear hH;show wpList _ _ _ _ _ _;go_wp2;rw[show((n9:Int) - (nt:Int))=((S.length+1:Nat):Int) by have:=HN9.out;omega];obtain⟨y1,y2⟩:=HV9.out.put (s,(k:Int),S.length+1) 2 (by omega) (ab (S.length+1:Nat)) rfl (by have:=hBl;omega);rw[HNt.out]at y1 y2;refine⟨rfl,_,qz rfl _ _ _,rfl,l,⟨.zi n,k,S.length+1⟩::S,Uy,ae g9 n9 Ll,xj,lj,?_,hxj,by omega,aax.out.2.2.1,?_,?_,(hBj.out.trans y2).drew⟩
     ·have h1:=Az.zi (n:=n) (k:=k) (zH:=FJ m) (by rw[P2 Fm.out.1];exact HRR.out.2.1) aax.out.1 (.nil (zH:=FJ m))
      simpa using h1
     ·exact aax.out.2.2.2
     ·have h1:=y1.drew
      rw[HS.out]at h1;exact h1
theorem sC  (hm:m.Good) (mb B:Nat) (raw:Value):∀left p,E9 m.zJ.length m.rules.length p->UU m mb B raw left p:=by
 intro left
 induction left using Nat.strongRecOn with
 |_ left ih=>
  intro p hp;cases p with
  |tok t=>exact aU hm mb B raw left t hp
  |zi n=>exact rH hm mb B raw left n hp (λl hl q hq=>ih l hl q hq)
theorem nB {v:Value}{lf:Nat} (hm:m.Good) (hM:Gf w w.heap.size mb m) (hv:IQ w v) (hl:lf<=3):
  Calls Tryz.prog 72 #[ac w.heap.size,.string ⟨#[65]⟩] (w.alloc (.cells #[ac mb,v,ab 0,.slice none 0 0,.slice none 0 0,ab lf] 143)) λe w'=>e=.returned (.tuple #[])/\
   ∃l S rv tv,Az (FJ m) [.zi 0] l S/\l.length<=5 ^(lf+1)/\S.length<=6 ^(lf+1)/\w'.cell? (af w.heap.size 3)=some rv/\w'.cell? (af w.heap.size 4)=some tv/\BL w' w.heap.size rv (l.map AB)/\w'.ownsRow w.heap.size 129 3 tv S.length (BT (S.map Iu))/\Below w.heap.size w w':=by
 have hb:Below w.heap.size w (w.alloc (.cells #[ac mb,v,ab 0,.slice none 0 0,.slice none 0 0,ab lf] 143)):=Aj (ah _ _);have h5:5 ^(lf+1)<=5 ^4:=qg (by omega) (by omega);have h6:6 ^(lf+1)<=6 ^4:=qg (by omega) (by omega);have h:=sC hm mb w.heap.size v lf (.zi 0) (by exact hm.n1) _ w.heap.size (.slice none 0 0) (.slice none 0 0) [] [] 0
  (λW h=>⟨hM.below (hb.trans h),hv.below (hb.trans h)⟩) (zn _) hb.size ⟨bg w _,jg _ _ _ _,jg _ _ _ _⟩ (by omega) hl (by simp only[JE,jd];omega) (by simp only[JE,jd];omega)
 refine h.mono ?_;rintro e w' ⟨rfl,l,S,rv,tv,x',lf',h1,_,_,h2,h3,h4,h5⟩;have hr:=h4.row;have ht:=h4.tree;rw[ey]at hr ht;rw[lM]at ht;exact⟨rfl,l,S,rv,tv,h1,h2,h3,(A0 h4.blk).trans rfl,(A0 h4.blk).trans rfl,hr,ht,hb.trans h5⟩
theorem dD  (hm:m.Good) (w:World) (mb:Nat) (v:Value) (hM:Gf w w.heap.size mb m) (hv:IQ w v):
  Calls Tryz.prog 36 #[ac mb,v] w λe w'=>∃l S rv tv,e=.returned (.tuple #[rv,tv])/\Az (FJ m) [.zi 0] l S/\l.length<=625/\S.length<=1296/\BL w' w.heap.size rv (l.map AB)/\w'.ownsRow w.heap.size 129 3 tv S.length (BT (S.map Iu))/\Below w.heap.size w w':=by
 have HG:=hid (nB (lf:=3) hm hM hv (zn _));obtain⟨ad,n,cap,rfl,_⟩:=hv;clear hM
 go_enter Tryz.func36,Tryz.ntmps36
 go_wp2_with (go_at_call 72;refine HG.out.mono ?_;rintro e w2 ⟨rfl,l,S,rv,tv,h1,h2,h3,c3,c4,h6,h7,h8⟩;have H:=hid (And.intro h1 (And.intro h2 (And.intro h3 (And.intro h6 (And.intro h7 h8)))));clear h1 h2 h3 h6 h7 h8)
 go_quiet (fail)
 go_wp2
 go_ret2
 exact⟨l,S,rv,tv,rfl,H.out.1,H.out.2.1,H.out.2.2.1,H.out.2.2.2.1,H.out.2.2.2.2.1,ox H.out.2.2.2.2.2 _⟩
theorem U8 {P:Program} (t ty e:TypeId) (i:TypeInfo) (ht:P.underlying t=some (.slice e)) (hi:P.info? e=some i) (ad:Option Addr) (n cap c:Nat) (hnc:n<=cap):
  (Builtin.append_ #[t,t] ty #[.slice ad n cap,.slice none 0 c]).run P w=.ok (.slice ad n cap) w:=by
 cases ad with
 |none=>simp[Builtin.append_,run_underlying ht,sizeOf,typeInfo,hi,Builtin.lenOf,Builtin.firstCells,loadCellsFrom,hnc]
 |some a=>simp[Builtin.append_,run_underlying ht,sizeOf,typeInfo,hi,Builtin.lenOf,Builtin.firstCells,loadCells,loadCellsFrom,hnc,storeCells]
theorem FR {P:Program}{ops:Array Oper}{rest:List Oper}{o:Oper}{a:Act}{Q:Exit->Act->World->Prop} (hgd:o.guard=none) (s x:Operand) (t:TypeId)
  (ho:o.op=.call {callee:=.builtin .append,args:= #[s,x],argTypes:= #[t,t]})
  (base:Nat) (e:TypeId) (i:TypeInfo) (z:Value) (size bytes:Nat) (ht:P.underlying t=some (.slice e)) (hi:P.info? e=some i) (hz:i.zero=some z)
  (hsize:i.size=size) (hby:i.bytes=bytes) (hzs:z.cells.size=size) (hsz:0<size)
  (v:Value) (n:Nat) (xs:List Value) (hs:a.eval s=v) (hown:w.ownsRow base e size v n xs)
  (Yi:Option Addr) (m c:Nat) (news:List Value) (hx:a.eval x=.slice Yi m c) (hno:Yi=none->m=0) (hl:news.length=m*size) (hnews:∀ad,Yi=some ad->∀j u,news[j]?=some u->w.cell? (ad.add j)=some u) (h1:∀u∈news,u.oneCell'=true)
  (h63:n+m<=maxLen) (hbytes:(n+m)*bytes<=140737488355328) (hbase:base<=w.heap.size)
  (h:∀v' w',w'.ownsRow base e size v' (n+m) (xs++news)->w.grownBy w' v.ownBlock->wpList P ops Q rest (a.put o.dst v') w'):wpList P ops Q (o::rest) a w:=by
 cases Yi with
 |some ad=>exact yD _ hgd s x t ho base e i z size bytes ht hi hz hsize hby hzs hsz v n xs hs hown ad m c news hx hl (hnews ad rfl) h1 h63 hbytes hbase (λv' w' h2 h3 _=>h v' w' h2 h3)
 |none=>
  obtain rfl:=hno rfl;obtain rfl:news=[]:=tj (by simpa using hl);have hnc:∃ad cap,v=.slice ad n cap/\n<=cap:=BV hown;obtain⟨ad,cap,rfl,hnc⟩:=hnc;refine wpList_plain hgd λK hK=>?_
  have hr:=U8 (P:=P) (w:=w) t o.type e i ht hi ad n cap c hnc;unfold Oper.wp execOp;simp only[ho,resolve,invoke,builtin,Sem.run_bind,Sem.run_pure,Result.andThen_ok,List.map_toArray,jx,um,hs,hx,hr];exact hK _ _ (h _ _ (by rw[fy];exact hown) ⟨rfl,rfl,rfl,zn _,λ_ _ _=>rfl⟩)
end Go.Proofs.YtjjggdcnpndgjaaGreatDoor
