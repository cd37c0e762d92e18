import Derived.Test.YtjjggdcnpndgjaaGreatDoorHJ43
set_option linter.unusedSimpArgs false
set_option maxHeartbeats 8000000
set_option maxRecDepth 100000
namespace Go.Proofs.YtjjggdcnpndgjaaGreatDoor
abbrev xq:=@ByteArray.size_append
open Go.RowKit Go.Shelf
variable {B gb left mb x:Nat}{NS:List Cn}{m:Mk}{raw rv:Value}{w:World}{ws:List ByteArray}
structure MkC (W:World) (n₀ b:Nat) (m:Mk) (gR cR gP cP gD cD gS cS:Nat):Prop where
 ltb:b<n₀
 ltS:gS<n₀
 c0:W.cell? (af b 0)=some (ae gR m.rules.length cR)
 c1:W.cell? (af b 1)=some (ae gP m.yP.length cP)
 c2:W.cell? (af b 2)=some (ae gD m.yP.length cD)
 c3:W.cell? (af b 3)=some (ae gS m.yP.length cS)
 lR:m.rules.length<=cR
 lP:m.yP.length<=cP
 lD:m.yP.length<=cD
 lS:m.yP.length<=cS
 yP:∀t,t<m.yP.length->W.cell? (af gP t)=some (ab (m.yP.getD t 0:Nat))
 zk:∀t,t<m.yP.length->W.cell? (af gD t)=some (ab (m.zk.getD t 0:Nat))
 swaps:∀i,i<m.yP.length->∃gs cs,W.cell? (af gS i)=some (ae gs m.yP.length cs)/\m.yP.length<=cs/\gs<n₀/\∀j,j<m.yP.length->W.cell? (af gs j)=some (ab (D1 m i j:Nat))
 rules:∀n rs,m.rules[n]?=some rs->∃gn cn,W.cell? (af gR n)=some (ae gn rs.length cn)/\rs.length<=cn/\
  ∀k r,rs[k]?=some r->∃gr cr,W.cell? (af gn k)=some (ae gr r.length cr)/\r.length<=cr/\∀p a,r[p]?=some a->W.cell? (af gr p)=some (.string (EQ a))
theorem mW {n₀ b:Nat} (h:Gk w n₀ b m):∃gR cR gP cP gD cD gS cS,∀W,Below n₀ w W->MkC W n₀ b m gR cR gP cP gD cD gS cS:=by
 obtain⟨vR,c0,gR,cR,rfl,lR,Mh,hR⟩:=h.rules;obtain⟨vP,c1,gP,cP,rfl,lP,hgP,hP⟩:=h.yP;obtain⟨vD,c2,gD,cD,rfl,lD,hgD,hD⟩:=h.zk;obtain⟨vS,c3,gS,cS,rfl,lS,hgS,hS⟩:=h.swaps;refine⟨gR,cR,gP,cP,gD,cD,gS,cS,λW hb=>⟨h.lt,hgS,(hb.cell Ra).trans c0,(hb.cell Ra).trans c1,(hb.cell Ra).trans c2,(hb.cell Ra).trans c3,lR,lP,lD,lS,?_,?_,?_,?_⟩⟩
 ·intro t ht
  obtain⟨x,h1,h2⟩:=hP t ht;rw[(hb.cell (by exact hgP)).trans h1,h2]
 ·intro t ht
  obtain⟨x,h1,h2⟩:=hD t ht;rw[(hb.cell (by exact hgD)).trans h1,h2]
 ·intro i hi
  obtain⟨x,h1,g,cap,h2,h3,h4,h5⟩:=hS i hi;subst h2;refine⟨g,cap,(hb.cell (by exact hgS)).trans h1,h3,h4,λj hj=>?_⟩;obtain⟨y,h6,h7⟩:=h5 j hj;rw[(hb.cell (by exact h4)).trans h6,h7]
 ·intro n rs hrs
  obtain⟨x,h1,rs',h2,g,cap,h3,h4,h5,h6⟩:=hR n (yS.1 hrs).1;rw[hrs]at h2;injection h2 with h2
  subst h2;subst h3;refine⟨g,cap,(hb.cell (by exact Mh)).trans h1,h4,λk r hr=>?_⟩;obtain⟨y,h7,r',h8,g2,cap2,h9,h10,h11,h12⟩:=h6 k (yS.1 hr).1;rw[hr]at h8;injection h8 with h8
  subst h8;subst h9;refine⟨g2,cap2,(hb.cell (by exact h5)).trans h7,h10,λp a ha=>?_⟩;obtain⟨z,h13,a',h14,h15⟩:=h12 p (yS.1 ha).1;rw[ha]at h14;injection h14 with h14
  subst h14;rw[(hb.cell (by exact h11)).trans h13,h15]
theorem dE (m:Mk) (k:Nat):(KJ m k).length=12:=by simp[KJ,wB]
theorem uE (m:Mk) (i j:Nat):(JV m i j).length<=11:=by unfold JV;split <;> simp[wB]
theorem RT (l:List UInt8):(ba l).size=l.length:=by simp[ba,ByteArray.size]
theorem pX (m:Mk) (hm:m.Good) (w:World) (b:Nat) (hM:Gk w w.heap.size b m):
  Calls Tryz.prog 29 #[ac b] w λe w'=>e=.returned (.string (DB m))/\Below w.heap.size w w':=by
 obtain⟨gR,cR,gP,cP,gD,cD,gS,cS,hC⟩:=mW hM;have hN4:=hm.n4;have hT6:=hm.t6;have HG:Hid m.Good:=hid hm;obtain⟨b0,hb0⟩:=qF (w.heap.size);have H0:Hid (b0=w.heap.size):=hid hb0;rw[<-hb0]at hC;rw[<-hb0];have HC:Hid (∀W,Below b0 w W->MkC W b0 b m gR cR gP cP gD cD gS cS):=hid hC;obtain⟨nN,hn1⟩:=qF (m.rules.length);obtain⟨nT,hn2⟩:=qF (m.yP.length);rw[<-hn1]at hN4;rw[<-hn2]at hT6;have H1:Hid (nN=m.rules.length):=hid hn1;have H2:Hid (nT=m.yP.length):=hid hn2;have Pr:Hid (Below b0 w w):=hid (ah _ _);have HW0:Hid (b0<=w.heap.size):=hid (Nat.le_of_eq hb0);clear hC hM hm hn1 hn2 hb0
 go_enter Tryz.func29,Tryz.ntmps29
 go_wp2
 go_loopw [3,4] (λs i wr=>∃(k:Nat) (x:ByteArray),k<=nT/\i=ab k/\s=.string x/\x.size<=80*k/\Hid (x=ba ((List.range k).flatMap (K1 m)))/\Hid (Below b0 w wr)) (λ_ i _=>nT - (intOf i).toNat)
 case atStart=>exact⟨0,_,bu _,rfl,rfl,bu _,hid rfl,Pr⟩
 case round=>
  obtain⟨k,x,hk,rfl,rfl,hxs,hx,hbr⟩:=hrel;obtain⟨W,hW⟩:=qF (wr);subst hW;have hX:=HC.out _ hbr.out;have c1:=hX.c1;have lP:=hX.lP;rw[<-H2.out]at c1 lP
  by_cases hlt:k<nT
  ·have c2:=hX.c2
   have lD:=hX.lD;rw[<-H2.out]at c2 lD;have d1:=hX.yP k Zt;have d2:=hX.zk k Zt;have hp9:=(HG.out.Rl (t:=k) Zt).2;have hd9:=(JM HG.out.d1 (by rw[HG.out.dl,<-H2.out];exact hlt)).2;obtain⟨pu,hpu⟩:=qF (m.yP.getD k 0);obtain⟨du,hdu⟩:=qF (m.zk.getD k 0);have hd9:m.zk.getD k 0<=9:=hd9;rw[<-hpu]at d1 hp9;rw[<-hdu]at d2 hd9;have HPU:Hid (pu=m.yP.getD k 0):=hid hpu;have HDU:Hid (du=m.zk.getD k 0):=hid hdu;have hbW:=hbr.out;have z6:¬9223372036854775807<x.size+6:=by omega
   have z7:¬9223372036854775807<x.size+6+1:=by omega
   have z8:¬9223372036854775807<x.size+6+1+1:=by omega
   have z9:¬9223372036854775807<x.size+6+1+1+1:=by omega
   have z10:¬9223372036854775807<x.size+6+1+1+1+1:=by omega
   have z11:¬9223372036854775807<x.size+6+1+1+1+1+1:=by omega
   have z12:¬9223372036854775807<x.size+6+1+1+1+1+1+1:=by omega
   have l1:(AA k).size=1:=rfl;have l2:(E8 pu).size=1:=rfl;have l3:(E8 du).size=1:=rfl;clear hX hpu hdu;go_wp2;have HS:Hid (∀W',Below b0 w W'->W'.cell? (af b 1)=some (ae gP nT cP)/\W'.cell? (af b 2)=some (ae gD nT cD)/\W'.cell? (af gP k)=some (ab pu)/\W'.cell? (af gD k)=some (ab du)/\Below b0 w W'):=hid λW' hb=>by
    have hX:=HC.out W' hb;have e1:=hX.c1;have e2:=hX.c2;rw[<-H2.out]at e1 e2;rw[HPU.out,HDU.out];exact⟨e1,e2,hX.yP k Zt,hX.zk k Zt,hb⟩
   refine dn (S:=λw'=>w'.cell? (af b 1)=some (ae gP nT cP)/\w'.cell? (af b 2)=some (ae gD nT cD)/\w'.cell? (af gP k)=some (ab pu)/\w'.cell? (af gD k)=some (ab du)/\Below b0 w w') yg (HS.out _ hbW.drew) (λhH=>?_);refine tB 0 hH ?_;refine tB 1 hH ?_;refine tB 2 hH ?_;refine tB 6 hH ?_;refine tB 7 hH ?_;refine tB 8 hH ?_;refine tB 9 hH ?_;refine tB 10 hH ?_;refine tB 11 hH ?_;refine tB 12 hH ?_;refine tB 16 hH ?_;refine tB 17 hH ?_;refine tB 18 hH ?_;refine tB 19 hH ?_;refine tB 20 hH ?_;refine tB 21 hH ?_;refine tB 22 hH ?_;refine tL ?_;refine tS 3 λK hK=>?_
   refine tM ?_
   go_simp;refine(I1 k (by omega) _).mono ?_;rintro e w' ⟨rfl,rfl⟩;try dsimp only
   refine hK.out _ _ ?_ λhH=>?_
   ·exact hH
   clear hK K;refine tB 4 hH ?_;refine tB 5 hH ?_;refine tL ?_;refine tS 13 λK hK=>?_
   refine tM ?_
   go_simp;refine(OV pu (by omega) _).mono ?_;rintro e w5 ⟨rfl,yT⟩;try dsimp only
   refine hK.out _ _ ?_ λhH=>?_
   ·exact HS.out _ (hH.2.2.2.2.trans (yT.mono (y5 HW0.out hH.2.2.2.2.size)))
   clear hK K;refine tB 14 hH ?_;refine tB 15 hH ?_;refine tL ?_;refine tS 23 λK hK=>?_
   refine tM ?_
   go_simp;refine(OV du (by omega) _).mono ?_;rintro e w6 ⟨rfl,yZ⟩;try dsimp only
   refine hK.out _ _ ?_ λhH=>?_
   ·exact HS.out _ (hH.2.2.2.2.trans (yZ.mono (y5 HW0.out hH.2.2.2.2.size)))
   clear hK K;refine tB 24 hH ?_;refine tB 25 hH ?_;refine tB 26 hH ?_;refine tL ?_;refine bk yg ?_ _;have Pp:=hid hH.2.2.2.2;clear hH c1 c2 d1 d2 hbW z6 z7 z8 z9 z10 z11 z12 l1 l2 l3;go_wp2
   go_loopw [3,5] (λs i wr=>∃(j:Nat) (y:ByteArray),j<=nT/\i=ab j/\s=.string y/\y.size<=80*k+12+11*j/\Hid (y=ba ((List.range k).flatMap (K1 m)++(KJ m k++(List.range j).flatMap (JV m k))))/\Hid (Below b0 w wr)) (λ_ i _=>nT - (intOf i).toNat)
   case atStart=>
    have e:x++ {data:= #[116,111,107,101,110,32]}++AA k++ {data:= #[32]}++E8 pu++ {data:= #[32]}++E8 du++ {data:= #[10]}=ba ((List.range k).flatMap (K1 m)++(KJ m k++(List.range 0).flatMap (JV m k))):=by
     rw[hx.out,HPU.out,HDU.out];simp only[OC]
     congr 1
     simp[KJ,AA,E8,wB]
    refine⟨0,_,bu _,rfl,rfl,?_,hid e,Pp⟩;have hxl:x.size=((List.range k).flatMap (K1 m)).length:=by rw[hx.out,RT]
    rw[e,RT,lA,lA,dE,<-hxl];simp only[List.range_zero,List.flatMap_nil,iw];omega
   case round=>
    clear hxs hbr Pp;obtain⟨j,y,hj,rfl,rfl,hys,hy,hbr⟩:=hrel;obtain⟨W,hW⟩:=qF (wr);subst hW;have hX:=HC.out _ hbr.out;have c1:=hX.c1;have lP:=hX.lP;rw[<-H2.out]at c1 lP
    by_cases Vw:j<nT
    ·have c3:=hX.c3
     have lS:=hX.lS;have hlb:=hX.ltb;have hlS:=hX.ltS;obtain⟨gs,cs,d1,d2,Hs,d3⟩:=hX.swaps k Zt;have d3:=d3 j (by rw[<-H2.out];exact Vw);rw[<-H2.out]at c3 lS d1 d2;have Rx:=K5 HG.out k j;obtain⟨c,hc⟩:=qF (D1 m k j);rw[<-hc]at d3 Rx;have HCc:Hid (c=D1 m k j):=hid hc;clear hX hc
     by_cases h0:0<c
     ·have hbW:=hbr.out
      have z6:¬9223372036854775807<y.size+5:=by omega
      have z7:¬9223372036854775807<y.size+5+1:=by omega
      have z8:¬9223372036854775807<y.size+5+1+1:=by omega
      have z9:¬9223372036854775807<y.size+5+1+1+1:=by omega
      have z10:¬9223372036854775807<y.size+5+1+1+1+1:=by omega
      have z11:¬9223372036854775807<y.size+5+1+1+1+1+1:=by omega
      have z12:¬9223372036854775807<y.size+5+1+1+1+1+1+1:=by omega
      have l1:(AA k).size=1:=rfl;have l2:(AA j).size=1:=rfl;have l3:(E8 c).size=1:=rfl;have hci:(0:Int)<c:=by omega
      go_wp2;refine dn (S:=λw'=>w'.cell? (af b 3)=some (ae gS nT cS)/\w'.cell? (af gS k)=some (ae gs nT cs)/\w'.cell? (af gs j)=some (ab c)/\Below b0 w w') yg ⟨c3,d1,d3,hbW.drew⟩ (λhH=>?_);refine tB 0 hH ?_;refine tB 1 hH ?_;refine tB 2 hH ?_;refine tB 6 hH ?_;refine tB 10 hH ?_;refine tB 11 hH ?_;refine tB 12 hH ?_;refine tB 13 hH ?_;refine tB 14 hH ?_;refine tB 15 hH ?_;refine tB 16 hH ?_;refine tB 17 hH ?_;refine tB 18 hH ?_;refine tB 19 hH ?_;refine tL ?_;refine tS 3 λK hK=>?_
      refine tM ?_
      go_simp;refine(I1 k (by omega) _).mono ?_;rintro e w' ⟨rfl,rfl⟩;try dsimp only
      refine hK.out _ _ ?_ λhH=>?_
      ·exact hH
      clear hK K;refine tB 4 hH ?_;refine tB 5 hH ?_;refine tL ?_;refine tS 7 λK hK=>?_
      refine tM ?_
      go_simp;refine(I1 j (by omega) _).mono ?_;rintro e w' ⟨rfl,rfl⟩;try dsimp only
      refine hK.out _ _ ?_ λhH=>?_
      ·exact hH
      clear hK K;refine tB 8 hH ?_;refine tB 9 hH ?_;refine tL ?_;refine tS 20 λK hK=>?_
      refine tM ?_
      go_simp;refine(OV c (by omega) _).mono ?_;rintro e w5 ⟨rfl,yT⟩;try dsimp only
      refine hK.out _ _ ?_ λhH=>?_
      ·exact⟨(yT.cell (by exact lL hlb (y5 HW0.out hH.2.2.2.size))).trans hH.1,(yT.cell (by exact lL hlS (y5 HW0.out hH.2.2.2.size))).trans hH.2.1,(yT.cell (by exact lL Hs (y5 HW0.out hH.2.2.2.size))).trans hH.2.2.1,hH.2.2.2.trans (yT.mono (y5 HW0.out hH.2.2.2.size))⟩
      clear hK K;refine tB 21 hH ?_;refine tB 22 hH ?_;refine tB 23 hH ?_;refine tL ?_;refine bk yg ?_ _;have Pp:=hid hH.2.2.2;clear hH c1 c3 d1 d2 d3 hbW z6 z7 z8 z9 z10 z11 z12 l1 l2 l3;go_wp2
      go_roundw
      case rel=>
       have e:y++ {data:= #[115,119,97,112,32]}++AA k++ {data:= #[32]}++AA j++ {data:= #[32]}++E8 c++ {data:= #[10]}=ba ((List.range k).flatMap (K1 m)++(KJ m k++(List.range (j+1)).flatMap (JV m k))):=by
        rw[hy.out,MC];simp only[OC]
        congr 1
        have e2:JV m k j=[115,119,97,112,32]++wB (.tok k)++ [32]++wB (.tok j)++ [32]++ [UInt8.ofNat (48+c)]++ [10]:=by
         unfold JV;rw[<-HCc.out,aq h0]
        rw[e2];simp[AA,E8,wB]
       refine⟨j+1,_,by omega,by go_num,rfl,?_,hid e,Pp⟩;have hyl:y.size=((List.range k).flatMap (K1 m)++(KJ m k++(List.range j).flatMap (JV m k))).length:=by rw[hy.out,RT]
       have h11:=uE m k j;rw[e,RT,MC];simp only[lA]at hyl ⊢;omega
      case measure=>simp[intOf];omega
     ·have hci:¬(0:Int)<c:=by omega
      go_wp2
      go_roundw
      case rel=>
       refine⟨j+1,y,by omega,by go_num,rfl,by omega,hid ?_,hbr⟩;rw[hy.out,MC];have e2:JV m k j=[]:=by
        unfold JV;rw[<-HCc.out,au h0]
       rw[e2,iq]
      case measure=>simp[intOf];omega
    ·clear hX
     go_wp2
     go_roundw
     case rel=>
      refine⟨k+1,y,by omega,by go_num,rfl,by omega,hid ?_,hbr⟩;rw[hy.out,MC];have e:j=m.yP.length:=by rw[<-H2.out];omega
      rw[e];rfl
     case measure=>simp[intOf];omega
  ·have e0:k=m.yP.length:=by rw[<-H2.out];omega
   have HX0:Hid (x=ba ((List.range m.yP.length).flatMap (K1 m)++(m.rules.zipIdx.take 0).flatMap LS)):=hid (by rw[hx.out,e0];simp);obtain⟨L0,Nd⟩:=qF ((List.range m.yP.length).flatMap (K1 m));rw[<-Nd]at HX0;have HL0:Hid (L0=(List.range m.yP.length).flatMap (K1 m)):=hid Nd;clear hX e0 Nd;go_wp2;clear hx c1 lP
   go_loopw [3,6] (λs i wr=>∃(n:Nat) (y:ByteArray),n<=nN/\i=ab n/\s=.string y/\y.size<=500+200*n/\Hid (y=ba (L0++(m.rules.zipIdx.take n).flatMap LS))/\Hid (Below b0 w wr)) (λ_ i _=>nN - (intOf i).toNat)
   case atStart=>exact⟨0,x,bu _,rfl,rfl,by omega,HX0,hbr⟩
   case round=>
    clear hxs hbr HX0;obtain⟨n,y,hn,rfl,rfl,hys,hy,hbr⟩:=hrel;obtain⟨W,hW⟩:=qF (wr);subst hW;have hX:=HC.out _ hbr.out;have c0:=hX.c0;have lR:=hX.lR;rw[<-H1.out]at c0 lR
    by_cases hlt:n<nN
    ·obtain⟨rs,hrs⟩:∃rs,m.rules[n]?=some rs:=⟨_,gE (by rw[<-H1.out];exact hlt)⟩
     have Mn:=(HG.out.c1 rs (EI hrs).2).2;rw[<-H2.out]at Mn;have Dt:Hid (m.rules[n]?=some rs):=hid hrs;obtain⟨nR,Ie⟩:=qF (rs.length);have Gl:Hid (nR=rs.length):=hid Ie;rw[<-Ie]at Mn;have z5:¬9223372036854775807<y.size+5:=by omega
     have z6:¬9223372036854775807<y.size+5+1:=by omega
     have z7:¬9223372036854775807<y.size+5+1+2:=by omega
     have l1:(BL n).size=1:=rfl;have CN:Hid (∀W,Calls Tryz.prog 33 #[ab n] W λe w'=>e=.returned (.string (BL n))/\W=w'):=hid λW=>R4 n (by omega) W
     clear hX hrs Ie
     go_wp2_with (go_at_call 33;refine(CN.out _).mono ?_;rintro e w' ⟨rfl,rfl⟩)
     clear z5 z6 z7 c0 lR
     go_loopw [3,7] (λs i wr=>∃(q:Nat) (v:ByteArray),q<=nR/\i=ab q/\s=.string v/\v.size<=508+200*n+12*q/\Hid (v=ba (L0++(m.rules.zipIdx.take n).flatMap LS++(LE n++(rs.zipIdx.take q).flatMap (λy=>LO y.2++GW y.1))))/\Hid (Below b0 w wr)) (λ_ i _=>nR - (intOf i).toNat)
     case atStart=>
      have e:y++ {data:= #[114,117,108,101,32]}++BL n++ {data:= #[32,61]}=ba (L0++(m.rules.zipIdx.take n).flatMap LS++(LE n++(rs.zipIdx.take 0).flatMap (λy=>LO y.2++GW y.1))):=by
       rw[hy.out];simp only[OC]
       congr 1
       simp[LE,BL,wB]
      refine⟨0,_,bu _,rfl,rfl,?_,hid e,hbr⟩;simp only[xq,l1];have e5:(ByteArray.mk #[114,117,108,101,32]).size=5:=rfl;have e2:(ByteArray.mk #[32,61]).size=2:=rfl;rw[e5,e2];omega
     case round=>
      clear hys hy hbr l1;obtain⟨q,v,hq,rfl,rfl,hvs,hv,hbr⟩:=hrel;obtain⟨W,hW⟩:=qF (wr);subst hW;have hX:=HC.out _ hbr.out;have c0:=hX.c0;have lR:=hX.lR;rw[<-H1.out]at c0 lR;obtain⟨gn,cn,d0,Es,Ce⟩:=hX.rules n rs Dt.out;rw[<-Gl.out]at d0 Es
      by_cases Li:q<nR
      ·obtain⟨r,hr⟩:∃r,rs[q]?=some r:=⟨_,gE (by rw[<-Gl.out];exact Li)⟩
       have HR:Hid (rs[q]?=some r):=hid hr;obtain⟨np,hnp⟩:=qF (r.length);have Wi:Hid (np=r.length):=hid hnp;have al8:np<=5:=by rw[hnp];exact(HG.out.head rs (EI Dt.out).2 q r hr).2
       obtain⟨u,hu⟩:∃u,u=(if 0<q then v++ {data:= #[32,124]}else v):=⟨_,rfl⟩;have Ic:u.size<=508+200*n+12*q+2:=by
        rw[hu];split
        ·rw[xq]
         have e2:(ByteArray.mk #[32,124]).size=2:=rfl;rw[e2];omega
        ·omega
       have HU:Hid (u=ba (L0++(m.rules.zipIdx.take n).flatMap LS++(LE n++(rs.zipIdx.take q).flatMap (λy=>LO y.2++GW y.1))++LO q)):=hid (by
        rw[hu,hv.out];unfold LO;split
        ·rw[OC]
        ·simp)
       have hu1:0<q->v++ {data:= #[32,124]}=u:=λh=>by rw[hu,aq h]
       have hu2:¬0<q->v=u:=λh=>by rw[hu,au h]
       have z2:¬9223372036854775807<v.size+2:=by omega
       clear hX hr hnp Ce hu
       rcases Classical.em (0<q)with Ro |Ro
       all_goals
        go_wp2;have HQ:=hid Ro;clear c0 d0 lR Es z2 Ro
        go_loopw [3,8] (λs i wr=>∃(p:Nat) (t:ByteArray),p<=np/\i=ab p/\s=.string t/\t.size<=510+200*n+12*q+2*p/\Hid (t=ba (L0++(m.rules.zipIdx.take n).flatMap LS++(LE n++(rs.zipIdx.take q).flatMap (λy=>LO y.2++GW y.1))++LO q++GW (r.take p)))/\Hid (Below b0 w wr)) (λ_ i _=>np - (intOf i).toNat)
        case atStart=>
         refine⟨0,u,bu _,rfl,?_,by omega,hid (by rw[HU.out];simp[GW]),hbr⟩
         first
          |rfl
          | (rw[hu2 HQ.out])
          | (rw[hu1 HQ.out])
        case round=>
         clear Ic hu1 hu2 hbr hvs hv;obtain⟨p,t,hp,rfl,rfl,hts,ht,hbr⟩:=hrel;obtain⟨W,hW⟩:=qF (wr);subst hW;have hX:=HC.out _ hbr.out;have c0:=hX.c0;have lR:=hX.lR;rw[<-H1.out]at c0 lR;obtain⟨gn,cn,d0,Es,Ce⟩:=hX.rules n rs Dt.out;obtain⟨gr,cr,d1,akk,hwd⟩:=Ce q r HR.out;rw[<-Gl.out]at d0 Es;rw[<-Wi.out]at d1 akk
         by_cases Rm:p<np
         ·obtain⟨a,ha⟩:∃a,r[p]?=some a:=⟨_,gE (by rw[<-Wi.out];exact Rm)⟩
          have d2:=hwd p a ha;have HA:Hid (r[p]?=some a):=hid ha;have l1:(EQ a).size=1:=by cases a <;> rfl
          have z1:¬9223372036854775807<t.size+1:=by omega
          have z2:¬9223372036854775807<t.size+1+1:=by omega
          clear hX Ce hwd ha;go_wp2
          go_roundw
          case rel=>
           refine⟨p+1,t++ {data:= #[32]}++EQ a,by omega,by go_num,rfl,?_,hid ?_,hbr⟩
           ·simp only[xq,l1]
            have e1:(ByteArray.mk #[32]).size=1:=rfl;rw[e1];omega
           ·rw[ht.out]
            simp only[OC]
            congr 1
            have e2:GW (r.take (p+1))=GW (r.take p)++(32::wB a):=by
             unfold GW;rw[QS _ HA.out]
            have e3:(EQ a).data.toList=wB a:=by cases a <;> rfl
            rw[e2,e3];simp
          case measure=>simp[intOf];omega
         ·clear hX Ce hwd
          go_wp2
          go_roundw
          case rel=>
           refine⟨q+1,t,by omega,by go_num,rfl,by omega,hid ?_,hbr⟩;rw[ht.out]
           congr 1
           have e2:rs.zipIdx[q]?=some (r,q):=by rw[om,HR.out];simp
           have e3:r.take p=r:=jk (by rw[<-Wi.out];omega);rw[QS _ e2,e3];simp
          case measure=>simp[intOf];omega
      ·have z1:¬9223372036854775807<v.size+1:=by omega
       clear hX Ce;go_wp2
       go_roundw
       case rel=>
        refine⟨n+1,v++ {data:= #[10]},by omega,by go_num,rfl,?_,hid ?_,hbr⟩
        ·rw[xq]
         have e1:(ByteArray.mk #[10]).size=1:=rfl;rw[e1];omega
        ·rw[hv.out,OC]
         congr 1
         have e2:m.rules.zipIdx[n]?=some (rs,n):=by rw[om,Dt.out];simp
         have e3:rs.zipIdx.take q=rs.zipIdx:=jk (by rw[yJ,<-Gl.out];omega);rw[QS _ e2,e3];simp[LS]
       case measure=>simp[intOf];omega
    ·have HE:Hid (y=DB m):=hid (by
      rw[hy.out,sY,HL0.out,jk (by rw[yJ,<-H1.out];omega)])
     clear hX hy hys;go_wp2;go_ret;exact⟨by rw[HE.out];rfl,hbr.out⟩
theorem zJ.append {yN:Nat->Nat->Option (List Pt)}{a b:List Pt}{l l':List Nat}{S S':List IK} (h:zJ yN a l S) (h':zJ yN b l' S'):zJ yN (a++b) (l++l') (S++S'):=by
 induction h with
 |nil=>exact h'
 |tok _ ih=>exact .tok ih
 |yB hk h1 _ _ ih2=>
  have:=zJ.yB hk h1 ih2;rw[aA,ig,aA];exact this
theorem GE.put {g n cap:Nat}{R:List Cn}{a:Cn} (h:GE w gb B mb raw x left rv (ae g n cap) ws (NS++a::R)) (b:Cn) (j:Nat) (hj:j<3) (u:Value)
  (hu:[Value.string b.1,ab b.2.1,ab b.2.2]=[Value.string a.1,ab a.2.1,ab a.2.2].set j u) (hB:B<=w.heap.size):
  GE (w.setCell (af g (NS.length*3+j)) u) gb B mb raw x left rv (ae g n cap) ws (NS++b::R)/\Below B w (w.setCell (af g (NS.length*3+j)) u):=by
 have hne:(ae g n cap).ownBlock≠some gb:=A5 h.tree h.blk (by decide);have hgB:B<=g:=(h.tree.lt g rfl).1;have hk:A1 w (w.setCell (af g (NS.length*3+j)) u) [g]:=(A1.refl w [g]).setCell (by simp) _;have hb:Below B w (w.setCell (af g (NS.length*3+j)) u):=hk.below hB (λq hq=>by rw[mS.1 hq];exact hgB);refine⟨⟨(hk.block gb (ak h.blk) (λhm=>hne (by rw[mS.1 hm];rfl))).trans h.blk,DO.keeps h.row hk (λq hq hm=>GG h.row h.tree (by decide) hq (by rw[mS.1 hm];rfl)),?_⟩,hb⟩;have h3:=h.tree;have e:n=(NS++a::R).length:=by
  obtain⟨_,_,e,_⟩:=E7 h3;injection e
 subst e;have h4:=(h3.stored (NS.length*3+j) u).1;rw[T1 NS R a b j u hu hj]at h4;have e2:(NS++a::R).length=(NS++b::R).length:=by simp
 rw[e2]at h4 ⊢;exact h4
theorem GE.drewN {tv:Value} (h:GE w gb B mb raw x left rv tv ws NS) (q:Nat):GE (w.drewN q) gb B mb raw x left rv tv ws NS:=⟨h.blk,h.row,h.tree⟩
theorem GE.ahg {x' left':Nat}{tv:Value} (h:GE w gb B mb raw x left rv tv ws NS) (hgb:B<=gb) (hB:B<=w.heap.size) {w':World} (hk:A1 w w' [gb])
  (hb:w'.heap[gb]?=some (.cells #[ac mb,raw,ab x',rv,tv,ab left'] 143 (0,0))):GE w' gb B mb raw x' left' rv tv ws NS/\Below B w w':=
 ⟨⟨hb,DO.keeps h.row hk (λg hg hm=>by rw[mS.1 hm]at hg;exact A5 h.row h.blk (by decide) hg),A7 h.tree hk (λg hg hm=>by rw[mS.1 hm]at hg;exact A5 h.tree h.blk (by decide) hg)⟩,hk.below hB (λq hq=>by rw[mS.1 hq];exact hgb)⟩
theorem vX {n₀ b:Nat} (h:Gk w n₀ b m) {n:Nat}{rs:List (List Pt)} (hn:m.rules[n]?=some rs):
  ∃gR cR gn cn,m.rules.length<=cR/\rs.length<=cn/\(∀W,Below n₀ w W->W.cell? (af b 0)=some (ae gR m.rules.length cR)/\W.cell? (af gR n)=some (ae gn rs.length cn))/\
   ∀k r,rs[k]?=some r->∃gr cr,r.length<=cr/\∀W,Below n₀ w W->W.cell? (af gn k)=some (ae gr r.length cr)/\∀p a,r[p]?=some a->W.cell? (af gr p)=some (.string (EQ a)):=by
 obtain⟨v,c0,gR,cR,rfl,lR,Mh,hR⟩:=h.rules;obtain⟨x,x1,rs',x2,gn,cn,rfl,ln,Qr,hN⟩:=hR n (EI hn).1;rw[hn]at x2;injection x2 with x2
 subst x2;refine⟨gR,cR,gn,cn,lR,ln,λW hb=>⟨(hb.cell Ra).trans c0,(hb.cell (by exact Mh)).trans x1⟩,λk r hk=>?_⟩;obtain⟨y,y1,r',y2,gr,cr,rfl,lr,hgr,hP⟩:=hN k (yS.1 hk).1;rw[hk]at y2;injection y2 with y2
 subst y2;refine⟨gr,cr,lr,λW hb=>⟨(hb.cell (by exact Qr)).trans y1,λp a ha=>?_⟩⟩;obtain⟨z,z1,q,z2,rfl⟩:=hP p (yS.1 ha).1;rw[ha]at z2;injection z2 with z2
 subst z2;exact(hb.cell (by exact hgr)).trans z1
theorem sD  (hm:m.Good) (mb B:Nat) (raw:Value) (left n:Nat) (hn:n<m.rules.length) (ih:∀left',left'<left->∀p,EL m.yP.length m.rules.length p->VB m mb B raw left' p):VB m mb B raw left (.yB n):=by
 intro w gb rv tv ws NS x hM hgb hBw hV hx Lp Je Dj;obtain⟨iN,Hx,Nr,Ns,Nt⟩:=jc Tryz.infoG129;have Ia:n<4:=by have:=hm.n4;omega
 have l1:=fA n Ia;have l0:=WX n;have l4:=aG n Ia l0;obtain⟨rs,hrs⟩:∃rs,m.rules[n]?=some rs:=⟨_,gE hn⟩;obtain⟨gR,cR,gn,cn,dl,e1,hC,hCr⟩:=vX (hM w (ah _ _)).1 hrs;have c0:w.cell? (af gb 0)=some (ac mb):=(A0 hV.blk).trans rfl;have c4:w.cell? (af gb 4)=some tv:=(A0 hV.blk).trans rfl;have c5:w.cell? (af gb 5)=some (ab left):=(A0 hV.blk).trans rfl;obtain⟨d0,e0⟩:=hC w (ah _ _);have Jz:=hV.tree;obtain⟨Vk,Vl,rfl,hct⟩:=E7 Jz;obtain⟨nt,hnt⟩:=qE (NS.length);rw[hnt]at c4 Jz hct hV;have hNt:nt<100000:=by have:0<6 ^(left+J0 (.yB n)):=xH (by omega);omega
 have hbl:gb<w.heap.size:=ak hV.blk;have hrl:=(hm.c1 rs (EI hrs).2).1;have hr6:rs.length<=6:=by have h1:=(hm.c1 rs (EI hrs).2).2;have h2:=hm.t6;omega
 obtain⟨nr,Ky⟩:=qE (rs.length);rw[Ky]at e0 e1 hrl hr6;have HV:=hid hV;have HM:=hid hM;have HC:=hid hCr;have Dt:Hid (m.rules[n]?=some rs/\rs.length=nr):=hid ⟨hrs,Ky⟩;have HX:=hid (And.intro Je Dj);obtain⟨s,hs⟩:=qF (BL n);show Calls _ _ #[_,.string (BL n)] _ _;have hor:=gC n Ia;have l5:=aG n Ia l0;rw[<-hs]at hor l1 ⊢;have HS:=hid hs;have l0:0<s.size:=by rw[hs];exact WX n
 have l4:((s[0]'l0).toNat:Int)=65+n:=by
  subst hs;exact l5
 have HNt:Hid (NS.length=nt):=hid hnt;have HIH:=hid ih;have HL5:Hid (∀(k:Nat) r,rs[k]?=some r->r.length<=5):=hid λk r h=>(hm.head rs (EI hrs).2 k r h).2
 have HPA:Hid (∀(k:Nat) r,rs[k]?=some r->∀p∈r,EL m.yP.length m.rules.length p):=hid λk r h p hp=>hm.part rs (EI hrs).2 r (mG h) p hp
 have HLA:Hid (∀(k:Nat) r,rs[k]?=some r->k+1=nr->∀p∈r,∃t,p=.tok t):=hid λk r h hk=>hm.last rs (EI hrs).2 r (by rw[List.getLast?_eq_getElem?,Ky,show nr - 1=k by omega];exact h)
 clear hV hM hC hCr hrs Ky hnt ih Je Dj l5 hs Jz
 go_enter Tryz.func72,Tryz.ntmps72
 go_upto_region 1 with fail
 go_cut [4,18] (λs4 s18 wx=>s4=ab nt/\s18=.bool false/\wx=w)
 case first=>
  rcases hor with hor |hor
  all_goals
   go_wp2
   go_meet
   exact⟨rfl,rfl,rfl⟩
 case rest=>
  obtain⟨rfl,rfl,rfl⟩:=hcut;obtain⟨w,rfl⟩:=qF (wc);clear hor l1
  go_upto_region 4 with fail
  go_quiet (fail)
  obtain⟨wq,hwq⟩:=qE (w.drewN nq);have HVq:Hid (GE wq gb B mb raw x left rv (.slice Vk nt Vl) ws NS):=hid (by rw[<-hwq];exact HV.out.drewN _);have Sg:Hid (Below B w wq):=hid (by rw[<-hwq];exact below_drewN (ah _ _) nq);clear c0 c4 c5 d0 e0;have c5:wq.cell? (af gb 5)=some (ab left):=(A0 HVq.out.blk).trans rfl;have akl:(nr:Int) - 1=((nr - 1:Nat):Int):=by omega
  rw[hwq]
  go_upto_if 60 with fail
  try rw[akl]
  go_cut [6] (λs6 wx=>∃k Zj x1:Nat,s6=ab k/\k<nr/\x1+Zj=x+left/\(Zj<left\/left=0/\Zj=0/\k+1=nr)/\Hid (GE wx gb B mb raw x1 Zj rv (.slice Vk nt Vl) ws NS)/\Hid (Below B w wx))
  case first=>
   rcases xL left with h0 |h0
   ·have hng:¬((0:Int)< (left:Int)):=by omega
    go_wp2
    go_meet
    exact⟨nr - 1,left,x,by go_num,by omega,rfl,.inr ⟨h0,h0,by omega⟩,HVq,Sg⟩
   ·obtain⟨lf,hlf⟩:∃lf,left=lf+1:=⟨left - 1,by omega⟩
    have hgt:((0:Int)< (left:Int)):=by omega
    have hsub:IntKind.i64.wrap ((left:Int) - 1)=(lf:Int):=by rw[Cy];omega
    have f5:=A3 (j:=5) HVq.out.blk
    go_upto_region 8 with fail
    have Sx:=A6 (j:=5) HVq.out.blk (ab (lf:Nat));have zj:A1 wq (wq.setCell (af gb 5) (ab (lf:Nat))) [gb]:=(A1.refl _ [gb]).setCell (by simp) _;obtain⟨abD,aeF⟩:=HVq.out.ahg hgb (by have:=Sg.out.size;omega) zj Sx;obtain⟨W5,Dc⟩:=qE (wq.setCell (af gb 5) (ab (lf:Nat)));rw[Dc]at abD aeF ⊢;clear Sx zj Dc f5 c5;have c1:W5.cell? (af gb 1)=some raw:=(A0 abD.blk).trans rfl;have c2:W5.cell? (af gb 2)=some (ab x):=(A0 abD.blk).trans rfl;have zI:Hid (Below B w W5):=hid (Sg.out.trans aeF);have Sa:=hid abD;clear abD aeF;refine dn (S:=λw'=>w'.cell? (af gb 1)=some raw/\w'.cell? (af gb 2)=some (ab x)) yg ⟨c1,c2⟩ (λhH=>?_);refine tB 0 hH ?_;refine tB 1 hH ?_;refine tB 2 hH ?_;refine tB 3 hH ?_;refine tB 4 hH ?_;refine tB 5 hH ?_;refine tB 6 hH ?_;refine tB 7 hH ?_;refine tB 9 hH ?_;refine tB 10 hH ?_;refine tL ?_;refine tS 8 λK hK=>?_
    refine tM ?_
    go_simp;refine(JP raw x (by omega) _ (HM.out _ (zI.out.drew)).2).mono ?_;rintro e w' ⟨⟨z,rfl,hz⟩,rfl⟩;try dsimp only
    refine hK.out _ _ ?_ λhH=>?_
    ·exact hH
    clear hK K;refine tL ?_;refine tS 11 λK hK=>?_
    refine tM ?_
    go_simp;refine(G9 z nr (by omega) hz _).mono ?_;rintro e w' ⟨⟨k,hk,rfl⟩,rfl⟩;try dsimp only
    refine hK.out _ _ ?_ λhH=>?_
    ·exact hH
    clear hK K;refine tB 12 hH ?_;refine tL ?_;refine bk yg ?_ _;clear hH c1;have f2:=A3 (j:=2) Sa.out.blk;have hxw:IntKind.i64.wrap ((x:Int)+1)=((x+1:Nat):Int):=by rw[Cy];omega
    go_wp2
    go_meet
    have hr2:=A6 (j:=2) Sa.out.blk (ab ((x:Int)+1));have hk2:A1 W5 (W5.setCell (af gb 2) (ab ((x:Int)+1))) [gb]:=(A1.refl _ [gb]).setCell (by simp) _;obtain⟨z1,z2⟩:=Sa.out.ahg (x':=x+1) (left':=lf) hgb (by have:=zI.out.size;omega) hk2 hr2;exact⟨k,lf,x+1,rfl,hk,by omega,.inl (by omega),hid z1.drew,hid (zI.out.trans z2).drew⟩
  case rest=>
   obtain⟨k,Zj,x1,rfl,hk,hxl,hcs,hV,hB⟩:=hcut;obtain⟨r,hr⟩:∃r,rs[k]?=some r:=⟨_,gE (by rw[Dt.out.2];exact hk)⟩;obtain⟨gr,cr,Mn,HR⟩:=HC.out k r hr;obtain⟨W1,rfl⟩:=qF (wc);have Jr:B<=W1.heap.size:=by have:=hB.out.size;omega
   have c4:W1.cell? (af gb 4)=some (.slice Vk nt Vl):=(A0 hV.out.blk).trans rfl;have q4:(W1.alloc (.cells #[.string s,ab k,ab 0] 129)).cell? (af gb 4)=some (.slice Vk nt Vl):=A2 _ c4;have hT1:=hV.out.tree;rw[HNt.out]at hT1;have HT1:=hid hT1;clear hT1 hwq
   go_wp2_with (at_builtin;refine jq _ rfl _ _ 40 rfl B 129 iN (.agg #[.string ByteArray.empty,ab 0,ab 0]) 3 32 Tryz.underlying40 Hx Nr Ns Nt rfl (by decide) _ _ _ rfl (HT1.out.alloc _) (af W1.heap.size 0) 1 1 [.string s,ab k,ab 0] rfl rfl (dh (dw W1 _)) ?d2 (yF 1) ?d3 ?d4 ?d5 _ rfl ?_)
   case d2=>simp[Value.oneCell']
   case d3=>unfold maxLen;omega
   case d4=>omega
   case d5=>simp;omega
   intro g5 abA w5 abB abC aeE abc;obtain⟨⟨y1,y2⟩,y3,y4⟩:=hV.out.node (nd:=(s,(k:Int),0)) ((A1.refl W1 []).alloc (.cells #[.string s,ab k,ab 0] 129)) hgb Jr (v':=ae g5 (nt+1) abA) (by rw[HNt.out];exact abB) abC;have HZ:=hid (And.intro y3 y4);clear y3 y4 abB abC aeE abc q4 c4
   go_upto_region 11 with fail
   obtain⟨W6,hW6⟩:=qE (w5.setCell (af gb 4) (ae g5 (nt+1) abA));rw[hW6]at HZ ⊢;clear hW6 y1 y2;have Co:Hid (Below B w W6):=hid (hB.out.trans HZ.out.2);have HV6:=hid HZ.out.1;clear HZ;obtain⟨np,hnp⟩:=qE (r.length);rw[hnp]at Mn HR;have hn5:np<=5:=by rw[<-hnp];exact HL5.out k r hr
   have HRR:=hid (And.intro HR (And.intro hr hnp));clear HR hr hnp hV hB;have H5:Hid (5 ^(left+1)=5*5 ^left/\6 ^(left+1)=6*6 ^left/\0<6 ^left):=hid ⟨Nat.pow_succ',Nat.pow_succ',xH (by omega)⟩;go_wp2
   go_loopw [7] (λq wr=>∃(j:Nat) (l:List Nat) (S:List IK) (Sn tvj:Value) (xj lj:Nat),j<=np/\q=ab j/\xj+lj=x+left/\lj<=Zj/\Hid (zJ (F8 m) (r.take j) l S)/\Hid (l.length<=j*5 ^left/\S.length<=j*6 ^left)/\Hid (GE wr gb B mb raw xj lj Sn tvj (ws++l.map AA) (NS++(s,(k:Int),0)::S.map Ou))/\Hid (Below B w wr)) (λq _=>np - (intOf q).toNat)
   case atStart=>exact⟨0,[],[],_,_,x1,Zj,bu _,rfl,hxl,yF _,hid .nil,hid ⟨bu _,bu _⟩,hid (by rw[ur,iq,ur];exact HV6.out),Co⟩
   case round=>
    obtain⟨j,l,S,Sn,tvj,xj,lj,hj,rfl,hxj,Vw,hTr,abE,Xw,hBj⟩:=hrel;obtain⟨W,rfl⟩:=qF (wr);obtain⟨f1,f2⟩:=HRR.out.1 W hBj.out
    by_cases hlt:j<np
    ·obtain⟨a,ha⟩:∃a,r[j]?=some a:=⟨_,gE (by rw[HRR.out.2.2];exact hlt)⟩
     have f3:=f2 j a ha;have hpa:=HPA.out k r HRR.out.2.1 a (mG ha);have hga:VB m mb B raw lj a/\lj+J0 a<=left:=by
      rcases hcs with h1 | ⟨h1,h2,h3⟩
      ·exact⟨HIH.out lj (by omega) a hpa,by have:J0 a<=1:=(by cases a <;> simp[J0]);omega⟩
      ·obtain⟨t,rfl⟩:=HLA.out k r HRR.out.2.1 h3 a (mG ha)
       exact⟨cM hm mb B raw lj t hpa,by simp[J0];omega⟩
     have p5:5 ^(lj+J0 a)<=5 ^left:=ox (by omega) hga.2;have p6:6 ^(lj+J0 a)<=6 ^left:=ox (by omega) hga.2;have hj5:j*5 ^left<=4*5 ^left:=oh _ (by omega);have hj6:j*6 ^left<=4*6 ^left:=oh _ (by omega);have HG:=hid (λW' (hb:Below B W W') (hv:GE W' gb B mb raw xj lj Sn tvj (ws++l.map AA) (NS++(s,(k:Int),0)::S.map Ou))=>hga.1 W' gb Sn tvj _ _ xj (λW2 hb2=>HM.out W2 ((hBj.out.trans hb).trans hb2)) hgb (by have:=hBj.out.size;have:=hb.size;omega) hv (by omega) (by omega)
      (by have h1:=HX.out.1;have h2:=H5.out.1;have h3:=abE.out.1;simp only[J0]at h1;rw[lA,lM];omega)
      (by have h1:=HX.out.2;have h2:=H5.out.2;have h3:=abE.out.2;simp only[J0]at h1;rw[lA,lC,lM];omega))
     have HP:=hid (And.intro p5 (And.intro p6 ha));clear ha hga p5 p6 hj5 hj6 hpa f2
     go_wp2_with (go_at_call 72;refine(HG.out _ (ah _ _) Xw.out).mono ?_;rintro e w7 ⟨rfl,l7,S7,rv7,tv7,x7,akm,h71,h72,h73,h74,h75,h76,h77⟩;have H7:=hid (And.intro h71 (And.intro h74 (And.intro h75 (And.intro h76 h77))));clear h71 h74 h75 h76 h77)
     go_roundw
     case rel=>exact⟨j+1,l++l7,S++S7,rv7,tv7,x7,akm,by omega,by go_num,by omega,by omega,hid (by
      have h1:=hTr.out.append H7.out.1;rw[sy,HP.out.2.2];exact h1),hid (by
      have h1:=abE.out;have h2:=HP.out;have h3:=H7.out.2;rw[lA,lA,uw,uw];omega),hid (by
      have h1:=H7.out.2.2.2.1;rw[ew,ew,<-ig,<-aA,<-aA];exact h1),hid (hBj.out.trans H7.out.2.2.2.2)⟩
     case measure=>simp[intOf];omega
    ·have Xv:=hTr.out
     rw[jk (by rw[HRR.out.2.2];omega)]at Xv;have hV:=Xw.out;have hBl:=hBj.out.size;obtain⟨g9,Jq,rfl,ai3,ai4,Rx⟩:=AX hV.tree yM;obtain⟨n9,Xx⟩:=qE ((NS++(s,(k:Int),0)::S.map Ou).length);have abi:n9=nt+1+S.length:=by rw[<-Xx,<-HNt.out];simp;omega
     have Iv:=hV.tree;rw[Xx]at Iv hV Rx;have e9:W.cell? (af gb 4)=some (ae g9 n9 Jq):=(A0 hV.blk).trans rfl;have f9:W.cell? (af g9 (nt*3+2))=some (ab (0:Nat)):=by
      rw[Iv.cellAt (nt*3+2) (by omega)];have:=(MH NS (S.map Ou) (s,(k:Int),0)).2.2;rw[HNt.out]at this;exact this
     have u9:=Iv.frozenAt (nt*3+2);have Sk:S.length<=100000/\l.length<=5 ^(left+1)/\S.length+1<=6 ^(left+1):=by
      have h1:=abE.out;have h2:=H5.out;have hj5:j*5 ^left<=5*5 ^left:=oh _ (by omega);have hj6:j*6 ^left<=5*6 ^left:=oh _ (by omega);have h3:=HX.out.2;simp only[J0]at h3;omega
     have HV9:=hid hV;have acn:((nt:Int)< (n9:Int)):=by omega
     have HN9:=hid abi;have ai5:n9<=2000001:=by omega
     have aeG:=hid (And.intro Xv Sk);clear Xw hV Iv Xx abi Xv hTr abE Sk
     go_upto_region 15 with fail
     refine AE (λw'=>w'.cell? (af gb 4)=some (ae g9 n9 Jq)) hmx yg e9 (λhH=>?_);simp only[AB,BM,AO];refine tB 0 hH ?_;refine tB 1 hH ?_;refine tB 2 hH ?_;refine tB 3 hH ?_;refine tB 4 hH ?_;refine tB 5 hH ?_;refine tB 6 hH ?_;refine tB 7 hH ?_;refine tB 8 hH ?_;refine tB 9 hH ?_;refine tB 10 hH ?_;refine tB 11 hH ?_;refine tB 12 hH ?_;refine tB 13 hH ?_;refine tB 14 hH ?_;refine tL ?_;refine bk yg ?_ _;clear hH;show wpList _ _ _ _ _ _;go_wp2;rw[show((n9:Int) - (nt:Int))=((S.length+1:Nat):Int) by have:=HN9.out;omega];obtain⟨y1,y2⟩:=HV9.out.put (s,(k:Int),S.length+1) 2 (by omega) (ab (S.length+1:Nat)) rfl (by have:=hBl;omega);rw[HNt.out]at y1 y2;refine⟨rfl,_,ql rfl _ _ _,rfl,l,⟨.yB n,k,S.length+1⟩::S,Sn,ae g9 n9 Jq,xj,lj,?_,hxj,by omega,aeG.out.2.2.1,?_,?_,(hBj.out.trans y2).drew⟩
     ·have h1:=zJ.yB (n:=n) (k:=k) (yN:=F8 m) (by rw[OM Dt.out.1];exact HRR.out.2.1) aeG.out.1 (.nil (yN:=F8 m))
      simpa using h1
     ·exact aeG.out.2.2.2
     ·have h1:=y1.drew
      rw[HS.out]at h1;exact h1
theorem s9  (hm:m.Good) (mb B:Nat) (raw:Value):∀left p,EL m.yP.length m.rules.length p->VB m mb B raw left p:=by
 intro left
 induction left using Nat.strongRecOn with
 |_ left ih=>
  intro p hp;cases p with
  |tok t=>exact cM hm mb B raw left t hp
  |yB n=>exact sD hm mb B raw left n hp (λl hl q hq=>ih l hl q hq)
theorem XL {v:Value}{lf:Nat} (hm:m.Good) (hM:Gk w w.heap.size mb m) (hv:KB w v) (hl:lf<=3):
  Calls Tryz.prog 72 #[ac w.heap.size,.string ⟨#[65]⟩] (w.alloc (.cells #[ac mb,v,ab 0,.slice none 0 0,.slice none 0 0,ab lf] 143)) λe w'=>e=.returned (.tuple #[])/\
   ∃l S rv tv,zJ (F8 m) [.yB 0] l S/\l.length<=5 ^(lf+1)/\S.length<=6 ^(lf+1)/\w'.cell? (af w.heap.size 3)=some rv/\w'.cell? (af w.heap.size 4)=some tv/\DO w' w.heap.size rv (l.map AA)/\w'.ownsRow w.heap.size 129 3 tv S.length (BG (S.map Ou))/\Below w.heap.size w w':=by
 have hb:Below w.heap.size w (w.alloc (.cells #[ac mb,v,ab 0,.slice none 0 0,.slice none 0 0,ab lf] 143)):=zl (ah _ _);have h5:5 ^(lf+1)<=5 ^4:=ox (by omega) (by omega);have h6:6 ^(lf+1)<=6 ^4:=ox (by omega) (by omega);have h:=s9 hm mb w.heap.size v lf (.yB 0) (by exact hm.n1) _ w.heap.size (.slice none 0 0) (.slice none 0 0) [] [] 0
  (λW h=>⟨hM.below (hb.trans h),hv.below (hb.trans h)⟩) (yF _) hb.size ⟨ay w _,je _ _ _ _,je _ _ _ _⟩ (by omega) hl (by simp only[J0,iw];omega) (by simp only[J0,iw];omega)
 refine h.mono ?_;rintro e w' ⟨rfl,l,S,rv,tv,x',lf',h1,_,_,h2,h3,h4,h5⟩;have hr:=h4.row;have ht:=h4.tree;rw[eu]at hr ht;rw[lM]at ht;exact⟨rfl,l,S,rv,tv,h1,h2,h3,(A0 h4.blk).trans rfl,(A0 h4.blk).trans rfl,hr,ht,hb.trans h5⟩
theorem cO  (hm:m.Good) (w:World) (mb:Nat) (v:Value) (hM:Gk w w.heap.size mb m) (hv:KB w v):
  Calls Tryz.prog 36 #[ac mb,v] w λe w'=>∃l S rv tv,e=.returned (.tuple #[rv,tv])/\zJ (F8 m) [.yB 0] l S/\l.length<=625/\S.length<=1296/\DO w' w.heap.size rv (l.map AA)/\w'.ownsRow w.heap.size 129 3 tv S.length (BG (S.map Ou))/\Below w.heap.size w w':=by
 have HG:=hid (XL (lf:=3) hm hM hv (yF _));obtain⟨ad,n,cap,rfl,_⟩:=hv;clear hM
 go_enter Tryz.func36,Tryz.ntmps36
 go_wp2_with (go_at_call 72;refine HG.out.mono ?_;rintro e w2 ⟨rfl,l,S,rv,tv,h1,h2,h3,c3,c4,h6,h7,h8⟩;have H:=hid (And.intro h1 (And.intro h2 (And.intro h3 (And.intro h6 (And.intro h7 h8)))));clear h1 h2 h3 h6 h7 h8)
 go_quiet (fail)
 go_wp2
 go_ret2
 exact⟨l,S,rv,tv,rfl,H.out.1,H.out.2.1,H.out.2.2.1,H.out.2.2.2.1,H.out.2.2.2.2.1,below_drewN H.out.2.2.2.2.2 _⟩
theorem o6  (hm:m.Good) (w:World) (mb:Nat) (hM:Gk w w.heap.size mb m):
  Calls Tryz.prog 43 #[ac mb] w λe w'=>∃l S rv,e=.returned rv/\zJ (F8 m) [.yB 0] l S/\l.length<=5/\DO w' w.heap.size rv (l.map AA)/\Below w.heap.size w w':=by
 have HG:=hid (XL (lf:=0) hm hM (v:=.slice none 0 0) ⟨none,0,0,rfl,yF _,by omega,λh=>by omega⟩ (bu _));clear hM
 go_enter Tryz.func43,Tryz.ntmps43
 go_wp2_with (go_at_call 72;refine HG.out.mono ?_;rintro e w2 ⟨rfl,l,S,rv,tv,h1,h2,h3,c3,c4,h6,h7,h8⟩;have H:=hid (And.intro h1 (And.intro h2 (And.intro h6 h8)));clear h1 h2 h3 h6 h7 h8)
 go_ret;exact⟨l,S,rv,rfl,H.out.1,H.out.2.1,H.out.2.2.1,H.out.2.2.2⟩
end Go.Proofs.YtjjggdcnpndgjaaGreatDoor
