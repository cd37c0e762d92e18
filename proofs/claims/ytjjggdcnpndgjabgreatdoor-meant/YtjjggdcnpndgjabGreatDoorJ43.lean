import Derived.Test.YtjjggdcnpndgjabGreatDoorJ42
set_option linter.unusedSimpArgs false
set_option maxHeartbeats 4000000
set_option maxRecDepth 100000
namespace Go.Proofs.YtjjggdcnpndgjabGreatDoor
open Go.RowKit Go.Shelf
variable {w:World}
structure MkC (W:World) (n₀ b:Nat) (m:Mk) (gR cR gP cP gD cD gS cS:Nat):Prop where
 ltb:b<n₀
 ltS:gS<n₀
 c0:W.cell? (af b 0)=some (ae gR m.rules.length cR)
 c1:W.cell? (af b 1)=some (ae gP m.puts.length cP)
 c2:W.cell? (af b 2)=some (ae gD m.puts.length cD)
 c3:W.cell? (af b 3)=some (ae gS m.puts.length cS)
 lR:m.rules.length<=cR
 lP:m.puts.length<=cP
 lD:m.puts.length<=cD
 lS:m.puts.length<=cS
 puts:∀t,t<m.puts.length->W.cell? (af gP t)=some (ab (m.puts.getD t 0:Nat))
 drops:∀t,t<m.puts.length->W.cell? (af gD t)=some (ab (m.drops.getD t 0:Nat))
 swaps:∀i,i<m.puts.length->∃gs cs,W.cell? (af gS i)=some (ae gs m.puts.length cs)/\m.puts.length<=cs/\gs<n₀/\∀j,j<m.puts.length->W.cell? (af gs j)=some (ab (D0 m i j:Nat))
 rules:∀n rs,m.rules[n]?=some rs->∃gn cn,W.cell? (af gR n)=some (ae gn rs.length cn)/\rs.length<=cn/\
  ∀k r,rs[k]?=some r->∃gr cr,W.cell? (af gn k)=some (ae gr r.length cr)/\r.length<=cr/\∀p a,r[p]?=some a->W.cell? (af gr p)=some (.string (F6 a))
theorem VL {n₀ b:Nat}{m:Mk} (h:MkV w n₀ b m):∃gR cR gP cP gD cD gS cS,∀W,Below n₀ w W->MkC W n₀ b m gR cR gP cP gD cD gS cS:=by
 obtain⟨vR,c0,gR,cR,rfl,lR,hgR,hR⟩:=h.rules;obtain⟨vP,c1,gP,cP,rfl,lP,hgP,hP⟩:=h.puts;obtain⟨vD,c2,gD,cD,rfl,lD,hgD,hD⟩:=h.drops;obtain⟨vS,c3,gS,cS,rfl,lS,hgS,hS⟩:=h.swaps;refine⟨gR,cR,gP,cP,gD,cD,gS,cS,fun W hb=>⟨h.lt,hgS,(hb.cell y51Z).trans c0,(hb.cell y51Z).trans c1,(hb.cell y51Z).trans c2,(hb.cell y51Z).trans c3,lR,lP,lD,lS,?_,?_,?_,?_⟩⟩
 ·intro t ht
  obtain⟨x,h1,h2⟩:=hP t ht;rw[(hb.cell (by exact hgP)).trans h1,h2]
 ·intro t ht
  obtain⟨x,h1,h2⟩:=hD t ht;rw[(hb.cell (by exact hgD)).trans h1,h2]
 ·intro i hi
  obtain⟨x,h1,g,cap,h2,h3,h4,h5⟩:=hS i hi;subst h2;refine⟨g,cap,(hb.cell (by exact hgS)).trans h1,h3,h4,fun j hj=>?_⟩;obtain⟨y,h6,h7⟩:=h5 j hj;rw[(hb.cell (by exact h4)).trans h6,h7]
 ·intro n rs hrs
  obtain⟨x,h1,rs',h2,g,cap,h3,h4,h5,h6⟩:=hR n (gS_.1 hrs).1;rw[hrs]at h2;injection h2 with h2
  subst h2;subst h3;refine⟨g,cap,(hb.cell (by exact hgR)).trans h1,h4,fun k r hr=>?_⟩;obtain⟨y,h7,r',h8,g2,cap2,h9,h10,h11,h12⟩:=h6 k (gS_.1 hr).1;rw[hr]at h8;injection h8 with h8
  subst h8;subst h9;refine⟨g2,cap2,(hb.cell y42Z).trans h7,h10,fun p a ha=>?_⟩;obtain⟨z,h13,a',h14,h15⟩:=h12 p (gS_.1 ha).1;rw[ha]at h14;injection h14 with h14
  subst h14;rw[(hb.cell (by exact h11)).trans h13,h15]
theorem eC (m:Mk) (k:Nat):(KG m k).length=12:=by simp[KG,wB]
theorem tE (m:Mk) (i j:Nat):(JV m i j).length<=11:=by unfold JV;split <;> simp[wB]
theorem S4 (l:List UInt8):(ba l).size=l.length:=by simp[ba,ByteArray.size]
theorem r9 (m:Mk) (hm:m.Good) (w:World) (b:Nat) (hM:MkV w w.heap.size b m):
  Calls Tryz.prog 6 #[ac b] w fun e w'=>e=.returned (.string (DA m))/\Below w.heap.size w w':=by
 obtain⟨gR,cR,gP,cP,gD,cD,gS,cS,hC⟩:=VL hM;have hN4:=hm.n4;have hT6:=hm.t6;have HG:Hid m.Good:=hid hm;obtain⟨b0,hb0⟩:=qF (w.heap.size);have H0:Hid (b0=w.heap.size):=hid hb0;rw[<-hb0]at hC;rw[<-hb0];have HC:Hid (∀W,Below b0 w W->MkC W b0 b m gR cR gP cP gD cD gS cS):=hid hC;obtain⟨nN,hn1⟩:=qF (m.rules.length);obtain⟨nT,hn2⟩:=qF (m.puts.length);rw[<-hn1]at hN4;rw[<-hn2]at hT6;have H1:Hid (nN=m.rules.length):=hid hn1;have H2:Hid (nT=m.puts.length):=hid hn2;have HBw:Hid (Below b0 w w):=hid (Below.refl _ _);have HW0:Hid (b0<=w.heap.size):=hid (Nat.le_of_eq hb0);clear hC hM hm hn1 hn2 hb0
 go_enter Tryz.func6,Tryz.ntmps6
 go_wp2
 go_loopw [3,4] (fun s i wr=>∃(k:Nat) (x:ByteArray),k<=nT/\i=ab k/\s=.string x/\x.size<=80*k/\Hid (x=ba ((List.range k).flatMap (JT m)))/\Hid (Below b0 w wr)) (fun _ i _=>nT - (intOf i).toNat)
 case atStart=>exact⟨0,_,Nat.zero_le _,rfl,rfl,Nat.zero_le _,hid rfl,HBw⟩
 case round=>
  obtain⟨k,x,hk,rfl,rfl,hxs,hx,hbr⟩:=hrel;obtain⟨W,hW⟩:=qF (wr);subst hW;have hX:=HC.out _ hbr.out;have c1:=hX.c1;have lP:=hX.lP;rw[<-H2.out]at c1 lP
  by_cases hlt:k<nT
  ·have c2:=hX.c2
   have lD:=hX.lD;rw[<-H2.out]at c2 lD;have d1:=hX.puts k y34Z;have d2:=hX.drops k y34Z;have hp9:=(HG.out.put_at (t:=k) y34Z).2;have hd9:=(JN HG.out.d1 (by rw[HG.out.dl,<-H2.out];exact hlt)).2;obtain⟨pu,hpu⟩:=qF (m.puts.getD k 0);obtain⟨du,hdu⟩:=qF (m.drops.getD k 0);have hd9:m.drops.getD k 0<=9:=hd9;rw[<-hpu]at d1 hp9;rw[<-hdu]at d2 hd9;have HPU:Hid (pu=m.puts.getD k 0):=hid hpu;have HDU:Hid (du=m.drops.getD k 0):=hid hdu;have hbW:=hbr.out;have z6:¬9223372036854775807<x.size+6:=by omega
   have z7:¬9223372036854775807<x.size+6+1:=by omega
   have z8:¬9223372036854775807<x.size+6+1+1:=by omega
   have z9:¬9223372036854775807<x.size+6+1+1+1:=by omega
   have z10:¬9223372036854775807<x.size+6+1+1+1+1:=by omega
   have z11:¬9223372036854775807<x.size+6+1+1+1+1+1:=by omega
   have z12:¬9223372036854775807<x.size+6+1+1+1+1+1+1:=by omega
   have l1:(A7 k).size=1:=rfl;have l2:(E7 pu).size=1:=rfl;have l3:(E7 du).size=1:=rfl;clear hX hpu hdu;go_wp2;have HS:Hid (∀W',Below b0 w W'->W'.cell? (af b 1)=some (ae gP nT cP)/\W'.cell? (af b 2)=some (ae gD nT cD)/\W'.cell? (af gP k)=some (ab pu)/\W'.cell? (af gD k)=some (ab du)/\Below b0 w W'):=hid fun W' hb=>by
    have hX:=HC.out W' hb;have e1:=hX.c1;have e2:=hX.c2;rw[<-H2.out]at e1 e2;rw[HPU.out,HDU.out];exact⟨e1,e2,hX.puts k y34Z,hX.drops k y34Z,hb⟩
   refine wp_region_held_drew (S:=fun w'=>w'.cell? (af b 1)=some (ae gP nT cP)/\w'.cell? (af b 2)=some (ae gD nT cD)/\w'.cell? (af gP k)=some (ab pu)/\w'.cell? (af gD k)=some (ab du)/\Below b0 w w') y1Z (HS.out _ hbW.drew) (fun hH=>?_);refine tB 0 hH ?_;refine tB 1 hH ?_;refine tB 2 hH ?_;refine tB 6 hH ?_;refine tB 7 hH ?_;refine tB 8 hH ?_;refine tB 9 hH ?_;refine tB 10 hH ?_;refine tB 11 hH ?_;refine tB 12 hH ?_;refine tB 16 hH ?_;refine tB 17 hH ?_;refine tB 18 hH ?_;refine tB 19 hH ?_;refine tB 20 hH ?_;refine tB 21 hH ?_;refine tB 22 hH ?_;refine tL ?_;refine tS 3 fun K hK=>?_
   refine tM ?_
   go_simp;refine(GD k (by omega) _).mono ?_;rintro e w' ⟨rfl,rfl⟩;try dsimp only
   refine hK.out _ _ ?_ fun hH=>?_
   ·exact hH
   clear hK K;refine tB 4 hH ?_;refine tB 5 hH ?_;refine tL ?_;refine tS 13 fun K hK=>?_
   refine tM ?_
   go_simp;refine(Q2 pu (by omega) _).mono ?_;rintro e w5 ⟨rfl,hb5⟩;try dsimp only
   refine hK.out _ _ ?_ fun hH=>?_
   ·exact HS.out _ (hH.2.2.2.2.trans (hb5.mono (lT_ HW0.out hH.2.2.2.2.size)))
   clear hK K;refine tB 14 hH ?_;refine tB 15 hH ?_;refine tL ?_;refine tS 23 fun K hK=>?_
   refine tM ?_
   go_simp;refine(Q2 du (by omega) _).mono ?_;rintro e w6 ⟨rfl,hb6⟩;try dsimp only
   refine hK.out _ _ ?_ fun hH=>?_
   ·exact HS.out _ (hH.2.2.2.2.trans (hb6.mono (lT_ HW0.out hH.2.2.2.2.size)))
   clear hK K;refine tB 24 hH ?_;refine tB 25 hH ?_;refine tB 26 hH ?_;refine tL ?_;refine wpAnyH_done y1Z ?_ _;have HBE:=hid hH.2.2.2.2;clear hH c1 c2 d1 d2 hbW z6 z7 z8 z9 z10 z11 z12 l1 l2 l3;go_wp2
   go_loopw [3,5] (fun s i wr=>∃(j:Nat) (y:ByteArray),j<=nT/\i=ab j/\s=.string y/\y.size<=80*k+12+11*j/\Hid (y=ba ((List.range k).flatMap (JT m)++(KG m k++(List.range j).flatMap (JV m k))))/\Hid (Below b0 w wr)) (fun _ i _=>nT - (intOf i).toNat)
   case atStart=>
    have e:x++ {data:= #[116,111,107,101,110,32]}++A7 k++ {data:= #[32]}++E7 pu++ {data:= #[32]}++E7 du++ {data:= #[10]}=ba ((List.range k).flatMap (JT m)++(KG m k++(List.range 0).flatMap (JV m k))):=by
     rw[hx.out,HPU.out,HDU.out];simp only[OQ]
     congr 1
     simp[KG,A7,E7,wB]
    refine⟨0,_,Nat.zero_le _,rfl,rfl,?_,hid e,HBE⟩;have hxl:x.size=((List.range k).flatMap (JT m)).length:=by rw[hx.out,S4]
    rw[e,S4,lA,lA,eC,<-hxl];simp only[List.range_zero,List.flatMap_nil,List.length_nil];omega
   case round=>
    clear hxs hbr HBE;obtain⟨j,y,hj,rfl,rfl,hys,hy,hbr⟩:=hrel;obtain⟨W,hW⟩:=qF (wr);subst hW;have hX:=HC.out _ hbr.out;have c1:=hX.c1;have lP:=hX.lP;rw[<-H2.out]at c1 lP
    by_cases hlj:j<nT
    ·have c3:=hX.c3
     have lS:=hX.lS;have hlb:=hX.ltb;have hlS:=hX.ltS;obtain⟨gs,cs,d1,d2,hgs,d3⟩:=hX.swaps k y34Z;have d3:=d3 j (by rw[<-H2.out];exact hlj);rw[<-H2.out]at c3 lS d1 d2;have hc9:=K3 HG.out k j;obtain⟨c,hc⟩:=qF (D0 m k j);rw[<-hc]at d3 hc9;have HCc:Hid (c=D0 m k j):=hid hc;clear hX hc
     by_cases h0:0<c
     ·have hbW:=hbr.out
      have z6:¬9223372036854775807<y.size+5:=by omega
      have z7:¬9223372036854775807<y.size+5+1:=by omega
      have z8:¬9223372036854775807<y.size+5+1+1:=by omega
      have z9:¬9223372036854775807<y.size+5+1+1+1:=by omega
      have z10:¬9223372036854775807<y.size+5+1+1+1+1:=by omega
      have z11:¬9223372036854775807<y.size+5+1+1+1+1+1:=by omega
      have z12:¬9223372036854775807<y.size+5+1+1+1+1+1+1:=by omega
      have l1:(A7 k).size=1:=rfl;have l2:(A7 j).size=1:=rfl;have l3:(E7 c).size=1:=rfl;have hci:(0:Int)<c:=by omega
      go_wp2;refine wp_region_held_drew (S:=fun w'=>w'.cell? (af b 3)=some (ae gS nT cS)/\w'.cell? (af gS k)=some (ae gs nT cs)/\w'.cell? (af gs j)=some (ab c)/\Below b0 w w') y1Z ⟨c3,d1,d3,hbW.drew⟩ (fun hH=>?_);refine tB 0 hH ?_;refine tB 1 hH ?_;refine tB 2 hH ?_;refine tB 6 hH ?_;refine tB 10 hH ?_;refine tB 11 hH ?_;refine tB 12 hH ?_;refine tB 13 hH ?_;refine tB 14 hH ?_;refine tB 15 hH ?_;refine tB 16 hH ?_;refine tB 17 hH ?_;refine tB 18 hH ?_;refine tB 19 hH ?_;refine tL ?_;refine tS 3 fun K hK=>?_
      refine tM ?_
      go_simp;refine(GD k (by omega) _).mono ?_;rintro e w' ⟨rfl,rfl⟩;try dsimp only
      refine hK.out _ _ ?_ fun hH=>?_
      ·exact hH
      clear hK K;refine tB 4 hH ?_;refine tB 5 hH ?_;refine tL ?_;refine tS 7 fun K hK=>?_
      refine tM ?_
      go_simp;refine(GD j (by omega) _).mono ?_;rintro e w' ⟨rfl,rfl⟩;try dsimp only
      refine hK.out _ _ ?_ fun hH=>?_
      ·exact hH
      clear hK K;refine tB 8 hH ?_;refine tB 9 hH ?_;refine tL ?_;refine tS 20 fun K hK=>?_
      refine tM ?_
      go_simp;refine(Q2 c (by omega) _).mono ?_;rintro e w5 ⟨rfl,hb5⟩;try dsimp only
      refine hK.out _ _ ?_ fun hH=>?_
      ·exact⟨(hb5.cell (by exact lL hlb (lT_ HW0.out hH.2.2.2.size))).trans hH.1,(hb5.cell (by exact lL hlS (lT_ HW0.out hH.2.2.2.size))).trans hH.2.1,(hb5.cell (by exact lL hgs (lT_ HW0.out hH.2.2.2.size))).trans hH.2.2.1,hH.2.2.2.trans (hb5.mono (lT_ HW0.out hH.2.2.2.size))⟩
      clear hK K;refine tB 21 hH ?_;refine tB 22 hH ?_;refine tB 23 hH ?_;refine tL ?_;refine wpAnyH_done y1Z ?_ _;have HBE:=hid hH.2.2.2;clear hH c1 c3 d1 d2 d3 hbW z6 z7 z8 z9 z10 z11 z12 l1 l2 l3;go_wp2
      go_roundw
      case rel=>
       have e:y++ {data:= #[115,119,97,112,32]}++A7 k++ {data:= #[32]}++A7 j++ {data:= #[32]}++E7 c++ {data:= #[10]}=ba ((List.range k).flatMap (JT m)++(KG m k++(List.range (j+1)).flatMap (JV m k))):=by
        rw[hy.out,MC];simp only[OQ]
        congr 1
        have e2:JV m k j=[115,119,97,112,32]++wB (.tok k)++ [32]++wB (.tok j)++ [32]++ [UInt8.ofNat (48+c)]++ [10]:=by
         unfold JV;rw[<-HCc.out,if_pos h0]
        rw[e2];simp[A7,E7,wB]
       refine⟨j+1,_,by omega,by go_num,rfl,?_,hid e,HBE⟩;have hyl:y.size=((List.range k).flatMap (JT m)++(KG m k++(List.range j).flatMap (JV m k))).length:=by rw[hy.out,S4]
       have h11:=tE m k j;rw[e,S4,MC];simp only[lA]at hyl ⊢;omega
      case measure=>simp[intOf];omega
     ·have hci:¬(0:Int)<c:=by omega
      go_wp2
      go_roundw
      case rel=>
       refine⟨j+1,y,by omega,by go_num,rfl,by omega,hid ?_,hbr⟩;rw[hy.out,MC];have e2:JV m k j=[]:=by
        unfold JV;rw[<-HCc.out,if_neg h0]
       rw[e2,List.append_nil]
      case measure=>simp[intOf];omega
    ·clear hX
     go_wp2
     go_roundw
     case rel=>
      refine⟨k+1,y,by omega,by go_num,rfl,by omega,hid ?_,hbr⟩;rw[hy.out,MC];have e:j=m.puts.length:=by rw[<-H2.out];omega
      rw[e];rfl
     case measure=>simp[intOf];omega
  ·have e0:k=m.puts.length:=by rw[<-H2.out];omega
   have HX0:Hid (x=ba ((List.range m.puts.length).flatMap (JT m)++(m.rules.zipIdx.take 0).flatMap LT)):=hid (by rw[hx.out,e0];simp);obtain⟨L0,hL0⟩:=qF ((List.range m.puts.length).flatMap (JT m));rw[<-hL0]at HX0;have HL0:Hid (L0=(List.range m.puts.length).flatMap (JT m)):=hid hL0;clear hX e0 hL0;go_wp2;clear hx c1 lP
   go_loopw [3,6] (fun s i wr=>∃(n:Nat) (y:ByteArray),n<=nN/\i=ab n/\s=.string y/\y.size<=500+200*n/\Hid (y=ba (L0++(m.rules.zipIdx.take n).flatMap LT))/\Hid (Below b0 w wr)) (fun _ i _=>nN - (intOf i).toNat)
   case atStart=>exact⟨0,x,Nat.zero_le _,rfl,rfl,by omega,HX0,hbr⟩
   case round=>
    clear hxs hbr HX0;obtain⟨n,y,hn,rfl,rfl,hys,hy,hbr⟩:=hrel;obtain⟨W,hW⟩:=qF (wr);subst hW;have hX:=HC.out _ hbr.out;have c0:=hX.c0;have lR:=hX.lR;rw[<-H1.out]at c0 lR
    by_cases hlt:n<nN
    ·obtain⟨rs,hrs⟩:∃rs,m.rules[n]?=some rs:=⟨_,gE (by rw[<-H1.out];exact hlt)⟩
     have hcr:=(HG.out.c1 rs (GK hrs).2).2;rw[<-H2.out]at hcr;have HRS:Hid (m.rules[n]?=some rs):=hid hrs;obtain⟨nR,hnR⟩:=qF (rs.length);have HNR:Hid (nR=rs.length):=hid hnR;rw[<-hnR]at hcr;have z5:¬9223372036854775807<y.size+5:=by omega
     have z6:¬9223372036854775807<y.size+5+1:=by omega
     have z7:¬9223372036854775807<y.size+5+1+2:=by omega
     have l1:(BO n).size=1:=rfl;have CN:Hid (∀W,Calls Tryz.prog 14 #[ab n] W fun e w'=>e=.returned (.string (BO n))/\W=w'):=hid fun W=>QP n (by omega) W
     clear hX hrs hnR
     go_wp2_with (go_at_call 14;refine(CN.out _).mono ?_;rintro e w' ⟨rfl,rfl⟩)
     clear z5 z6 z7 c0 lR
     go_loopw [3,7] (fun s i wr=>∃(q:Nat) (v:ByteArray),q<=nR/\i=ab q/\s=.string v/\v.size<=508+200*n+12*q/\Hid (v=ba (L0++(m.rules.zipIdx.take n).flatMap LT++(LJ n++(rs.zipIdx.take q).flatMap (fun y=>LN y.2++GV y.1))))/\Hid (Below b0 w wr)) (fun _ i _=>nR - (intOf i).toNat)
     case atStart=>
      have e:y++ {data:= #[114,117,108,101,32]}++BO n++ {data:= #[32,61]}=ba (L0++(m.rules.zipIdx.take n).flatMap LT++(LJ n++(rs.zipIdx.take 0).flatMap (fun y=>LN y.2++GV y.1))):=by
       rw[hy.out];simp only[OQ]
       congr 1
       simp[LJ,BO,wB]
      refine⟨0,_,Nat.zero_le _,rfl,rfl,?_,hid e,hbr⟩;simp only[ByteArray.size_append,l1];have e5:(ByteArray.mk #[114,117,108,101,32]).size=5:=rfl;have e2:(ByteArray.mk #[32,61]).size=2:=rfl;rw[e5,e2];omega
     case round=>
      clear hys hy hbr l1;obtain⟨q,v,hq,rfl,rfl,hvs,hv,hbr⟩:=hrel;obtain⟨W,hW⟩:=qF (wr);subst hW;have hX:=HC.out _ hbr.out;have c0:=hX.c0;have lR:=hX.lR;rw[<-H1.out]at c0 lR;obtain⟨gn,cn,d0,hcn,hrk⟩:=hX.rules n rs HRS.out;rw[<-HNR.out]at d0 hcn
      by_cases hlq:q<nR
      ·obtain⟨r,hr⟩:∃r,rs[q]?=some r:=⟨_,gE (by rw[<-HNR.out];exact hlq)⟩
       have HR:Hid (rs[q]?=some r):=hid hr;obtain⟨np,hnp⟩:=qF (r.length);have HNP:Hid (np=r.length):=hid hnp;have hnp5:np<=5:=by rw[hnp];exact(HG.out.head rs (GK HRS.out).2 q r hr).2
       obtain⟨u,hu⟩:∃u,u=(if 0<q then v++ {data:= #[32,124]}else v):=⟨_,rfl⟩;have hus:u.size<=508+200*n+12*q+2:=by
        rw[hu];split
        ·rw[ByteArray.size_append]
         have e2:(ByteArray.mk #[32,124]).size=2:=rfl;rw[e2];omega
        ·omega
       have HU:Hid (u=ba (L0++(m.rules.zipIdx.take n).flatMap LT++(LJ n++(rs.zipIdx.take q).flatMap (fun y=>LN y.2++GV y.1))++LN q)):=hid (by
        rw[hu,hv.out];unfold LN;split
        ·rw[OQ]
        ·simp)
       have hu1:0<q->v++ {data:= #[32,124]}=u:=fun h=>by rw[hu,if_pos h]
       have hu2:¬0<q->v=u:=fun h=>by rw[hu,if_neg h]
       have z2:¬9223372036854775807<v.size+2:=by omega
       clear hX hr hnp hrk hu
       rcases Classical.em (0<q)with hq0 |hq0
       all_goals
        go_wp2;have HQ:=hid hq0;clear c0 d0 lR hcn z2 hq0
        go_loopw [3,8] (fun s i wr=>∃(p:Nat) (t:ByteArray),p<=np/\i=ab p/\s=.string t/\t.size<=510+200*n+12*q+2*p/\Hid (t=ba (L0++(m.rules.zipIdx.take n).flatMap LT++(LJ n++(rs.zipIdx.take q).flatMap (fun y=>LN y.2++GV y.1))++LN q++GV (r.take p)))/\Hid (Below b0 w wr)) (fun _ i _=>np - (intOf i).toNat)
        case atStart=>
         refine⟨0,u,Nat.zero_le _,rfl,?_,by omega,hid (by rw[HU.out];simp[GV]),hbr⟩
         first
          |rfl
          | (rw[hu2 HQ.out])
          | (rw[hu1 HQ.out])
        case round=>
         clear hus hu1 hu2 hbr hvs hv;obtain⟨p,t,hp,rfl,rfl,hts,ht,hbr⟩:=hrel;obtain⟨W,hW⟩:=qF (wr);subst hW;have hX:=HC.out _ hbr.out;have c0:=hX.c0;have lR:=hX.lR;rw[<-H1.out]at c0 lR;obtain⟨gn,cn,d0,hcn,hrk⟩:=hX.rules n rs HRS.out;obtain⟨gr,cr,d1,hcr2,hwd⟩:=hrk q r HR.out;rw[<-HNR.out]at d0 hcn;rw[<-HNP.out]at d1 hcr2
         by_cases hlp:p<np
         ·obtain⟨a,ha⟩:∃a,r[p]?=some a:=⟨_,gE (by rw[<-HNP.out];exact hlp)⟩
          have d2:=hwd p a ha;have HA:Hid (r[p]?=some a):=hid ha;have l1:(F6 a).size=1:=by cases a <;> rfl
          have z1:¬9223372036854775807<t.size+1:=by omega
          have z2:¬9223372036854775807<t.size+1+1:=by omega
          clear hX hrk hwd ha;go_wp2
          go_roundw
          case rel=>
           refine⟨p+1,t++ {data:= #[32]}++F6 a,by omega,by go_num,rfl,?_,hid ?_,hbr⟩
           ·simp only[ByteArray.size_append,l1]
            have e1:(ByteArray.mk #[32]).size=1:=rfl;rw[e1];omega
           ·rw[ht.out]
            simp only[OQ]
            congr 1
            have e2:GV (r.take (p+1))=GV (r.take p)++(32::wB a):=by
             unfold GV;rw[RE _ HA.out]
            have e3:(F6 a).data.toList=wB a:=by cases a <;> rfl
            rw[e2,e3];simp
          case measure=>simp[intOf];omega
         ·clear hX hrk hwd
          go_wp2
          go_roundw
          case rel=>
           refine⟨q+1,t,by omega,by go_num,rfl,by omega,hid ?_,hbr⟩;rw[ht.out]
           congr 1
           have e2:rs.zipIdx[q]?=some (r,q):=by rw[List.getElem?_zipIdx,HR.out];simp
           have e3:r.take p=r:=List.take_of_length_le (by rw[<-HNP.out];omega);rw[RE _ e2,e3];simp
          case measure=>simp[intOf];omega
      ·have z1:¬9223372036854775807<v.size+1:=by omega
       clear hX hrk;go_wp2
       go_roundw
       case rel=>
        refine⟨n+1,v++ {data:= #[10]},by omega,by go_num,rfl,?_,hid ?_,hbr⟩
        ·rw[ByteArray.size_append]
         have e1:(ByteArray.mk #[10]).size=1:=rfl;rw[e1];omega
        ·rw[hv.out,OQ]
         congr 1
         have e2:m.rules.zipIdx[n]?=some (rs,n):=by rw[List.getElem?_zipIdx,HRS.out];simp
         have e3:rs.zipIdx.take q=rs.zipIdx:=List.take_of_length_le (by rw[List.length_zipIdx,<-HNR.out];omega);rw[RE _ e2,e3];simp[LT]
       case measure=>simp[intOf];omega
    ·have HE:Hid (y=DA m):=hid (by
      rw[hy.out,uK,HL0.out,List.take_of_length_le (by rw[List.length_zipIdx,<-H1.out];omega)])
     clear hX hy hys;go_wp2;go_ret;exact⟨by rw[HE.out];rfl,hbr.out⟩
theorem TZ {P:Program} (t ty e:TypeId) (i:TypeInfo) (ht:P.underlying t=some (.slice e)) (hi:P.info? e=some i) (ad:Option Addr) (n cap c:Nat) (hnc:n<=cap):
  (Builtin.append_ #[t,t] ty #[.slice ad n cap,.slice none 0 c]).run P w=.ok (.slice ad n cap) w:=by
 cases ad with
 |none=>simp[Builtin.append_,run_underlying ht,sizeOf,typeInfo,hi,Builtin.lenOf,Builtin.firstCells,loadCellsFrom,hnc]
 |some a=>simp[Builtin.append_,run_underlying ht,sizeOf,typeInfo,hi,Builtin.lenOf,Builtin.firstCells,loadCells,loadCellsFrom,hnc,storeCells]
theorem FE {P:Program}{ops:Array Oper}{rest:List Oper}{o:Oper}{a:Act}{Q:Exit->Act->World->Prop} (hgd:o.guard=none) (s x:Operand) (t:TypeId)
  (ho:o.op=.call {callee:=.builtin .append,args:= #[s,x],argTypes:= #[t,t]})
  (base:Nat) (e:TypeId) (i:TypeInfo) (z:Value) (size bytes:Nat) (ht:P.underlying t=some (.slice e)) (hi:P.info? e=some i) (hz:i.zero=some z)
  (hsize:i.size=size) (hby:i.bytes=bytes) (hzs:z.cells.size=size) (hsz:0<size)
  (v:Value) (n:Nat) (xs:List Value) (hs:a.eval s=v) (hown:w.ownsRow base e size v n xs)
  (ado:Option Addr) (m c:Nat) (news:List Value) (hx:a.eval x=.slice ado m c) (hno:ado=none->m=0) (hl:news.length=m*size) (hnews:∀ad,ado=some ad->∀j u,news[j]?=some u->w.cell? (ad.add j)=some u) (h1:∀u∈news,u.oneCell'=true)
  (h63:n+m<=maxLen) (hbytes:(n+m)*bytes<=140737488355328) (hbase:base<=w.heap.size)
  (h:∀v' w',w'.ownsRow base e size v' (n+m) (xs++news)->w.grownBy w' v.ownBlock->wpList P ops Q rest (a.put o.dst v') w'):wpList P ops Q (o::rest) a w:=by
 cases ado with
 |some ad=>exact wpList_append_own _ hgd s x t ho base e i z size bytes ht hi hz hsize hby hzs hsz v n xs hs hown ad m c news hx hl (hnews ad rfl) h1 h63 hbytes hbase (fun v' w' h2 h3 _=>h v' w' h2 h3)
 |none=>
  obtain rfl:=hno rfl;obtain rfl:news=[]:=List.eq_nil_of_length_eq_zero (by simpa using hl);have hnc:∃ad cap,v=.slice ad n cap/\n<=cap:=DE hown;obtain⟨ad,cap,rfl,hnc⟩:=hnc;refine wpList_plain hgd fun K hK=>?_
  have hr:=TZ (P:=P) (w:=w) t o.type e i ht hi ad n cap c hnc;unfold Oper.wp execOp;simp only[ho,resolve,invoke,builtin,Sem.run_bind,Sem.run_pure,Result.andThen_ok,List.map_toArray,List.map_cons,List.map_nil,hs,hx,hr];exact hK _ _ (h _ _ (by rw[List.append_nil];exact hown) ⟨rfl,rfl,rfl,lR_ _,fun _ _ _=>rfl⟩)
end Go.Proofs.YtjjggdcnpndgjabGreatDoor
