import Derived.Test.YtjjggdcnpndgjaaGreatDoorJ43
set_option linter.unusedSimpArgs false
set_option maxHeartbeats 8000000
set_option maxRecDepth 100000
namespace Go.Proofs.YtjjggdcnpndgjaaGreatDoor
open Go.RowKit Go.Shelf
variable {B gb left mb x:Nat}{NS:List NdV}{m:Mk}{raw rv:Value}{w:World}{ws:List ByteArray}
theorem VL:∀(w:List UInt8) (ws:List (List UInt8)),BR (w::ws)=w++ws.flatMap (fun v=>32::v)
 |w,[]=>by simp[BR]
 |w,v::r=>by
  have ih:=VL v r;show w++32::BR (v::r)=_;rw[ih,List.flatMap_cons];rfl
def JB (k:Nat) (r:List (List UInt8)):List UInt8:=(if 0<k then [32,124]else [])++r.flatMap fun v=>32::v
theorem YO:∀(L:List (List (List UInt8))) (q:List (List UInt8)) (k:Nat),0<k->((q::L).zipIdx k).flatMap (fun x=>JB x.2 x.1)=[32,124]++(GA (q::L)).flatMap fun v=>32::v
 | [],q,k,hk=>by
  rw[List.zipIdx_cons,List.zipIdx_nil,List.flatMap_cons,List.flatMap_nil,List.append_nil];show JB k q=[32,124]++q.flatMap fun v=>32::v
  unfold JB;rw[if_pos hk]
 |r::L,q,k,hk=>by
  have ih:=YO L r (k+1) (by omega);rw[List.zipIdx_cons,List.flatMap_cons,ih];show JB k q++_=[32,124]++(q++ [124]::GA (r::L)).flatMap fun v=>32::v
  rw[List.flatMap_append,List.flatMap_cons];unfold JB;rw[if_pos hk];simp
theorem mF (L:List (List (List UInt8))):(GA L).flatMap (fun v=>32::v)=L.zipIdx.flatMap fun x=>JB x.2 x.1:=by
 cases L with
 |nil=>rfl
 |cons q L=>
  cases L with
  |nil=>simp[GA,JB]
  |cons r L=>
   have h:=YO L r 1 (by omega);rw[List.zipIdx_cons,List.flatMap_cons,show 0+1=1 from rfl,h];show(q++ [124]::GA (r::L)).flatMap (fun v=>32::v)=_;rw[List.flatMap_append,List.flatMap_cons];simp[JB]
def JX (m:Mk) (i j:Nat):List UInt8:=if 0<D7 m i j then [115,119,97,112,32]++wB (.tok i)++ [32]++wB (.tok j)++ [32]++ [UInt8.ofNat (48+D7 m i j)]++ [10]else []
def KO (m:Mk) (i:Nat):List UInt8:=[116,111,107,101,110,32]++wB (.tok i)++ [32]++ [UInt8.ofNat (48+m.puts.getD i 0)]++ [32]++ [UInt8.ofNat (48+m.drops.getD i 0)]++ [10]
def K5 (m:Mk) (i:Nat):List UInt8:=KO m i++(List.range m.puts.length).flatMap (JX m i)
def LJ (n:Nat):List UInt8:=[114,117,108,101,32]++wB (.nam n)++ [32,61]
def GZ (r:List Pt):List UInt8:=r.flatMap fun p=>32::wB p
def LR (k:Nat):List UInt8:=if 0<k then [32,124]else []
def LW (x:List (List Pt) × Nat):List UInt8:=LJ x.2++x.1.zipIdx.flatMap (fun y=>LR y.2++GZ y.1)++ [10]
theorem kB (n:Nat) (rs:List (List Pt)):BR (E6 n rs)++ [10]=LW (rs,n):=by
 unfold E6 LW LJ;rw[VL,List.flatMap_cons,List.flatMap_cons,mF,List.zipIdx_map,List.flatMap_map];have e:(fun x:List Pt × Nat=>JB (Prod.map (fun r=>List.map wB r) id x).2 (Prod.map (fun r=>List.map wB r) id x).1)=fun y=>LR y.2++GZ y.1:=by
  funext x
  show JB x.2 (x.1.map wB)=_;unfold JB LR GZ;rw[List.flatMap_map]
 rw[e];simp
theorem kL (m:Mk) (i:Nat):(((IB m i).map BR).flatMap fun l=>l++ [10])=K5 m i:=by
 unfold IB K5;rw[List.map_cons,List.flatMap_cons,List.map_flatMap,List.flatMap_assoc]
 congr 1
 congr 1
 funext j
 unfold JX;split
 ·simp[IF,BR,wB]
 ·rfl
theorem uA (m:Mk):BO m=ba ((List.range m.puts.length).flatMap (K5 m)++m.rules.zipIdx.flatMap LW):=by
 unfold BO LV FC;rw[List.map_append,List.flatMap_append,List.map_flatMap,List.flatMap_assoc,List.map_map,List.flatMap_map]
 congr 2
 ·congr 1
  funext i
  exact kL m i
 ·congr 1
  funext x
  exact kB x.2 x.1
theorem MJ {β:Type} (f:Nat->List β) (k:Nat):(List.range (k+1)).flatMap f=(List.range k).flatMap f++f k:=by
 rw[List.range_succ,List.flatMap_append];simp
theorem QW {α β:Type} (f:α->List β) {l:List α}{k:Nat}{a:α} (h:l[k]?=some a):(l.take (k+1)).flatMap f=(l.take k).flatMap f++f a:=by
 rw[List.take_add_one,h,List.flatMap_append];simp
theorem OX (x:List UInt8) (b:ByteArray):ba x++b=ba (x++b.data.toList):=by
 apply ZJ;simp[ba]
structure MkC (W:World) (n₀ b:Nat) (m:Mk) (gR cR gP cP gD cD gS cS:Nat):Prop where
 ltb:b<n₀
 ltS:gS<n₀
 c0:W.cell? (af b 0)=some (ae gR m.rules.length cR)
 c1:W.cell? (af b 1)=some (ae gP m.puts.length cP)
 c2:W.cell? (af b 2)=some (ae gD m.puts.length cD)
 c3:W.cell? (af b 3)=some (ae gS m.puts.length cS)
 lR:m.rules.length<=cR
 lP:m.puts.length<=cP
 lD:m.puts.length<=cD
 lS:m.puts.length<=cS
 puts:∀t,t<m.puts.length->W.cell? (af gP t)=some (ab (m.puts.getD t 0:Nat))
 drops:∀t,t<m.puts.length->W.cell? (af gD t)=some (ab (m.drops.getD t 0:Nat))
 swaps:∀i,i<m.puts.length->∃gs cs,W.cell? (af gS i)=some (ae gs m.puts.length cs)/\m.puts.length<=cs/\gs<n₀/\∀j,j<m.puts.length->W.cell? (af gs j)=some (ab (D7 m i j:Nat))
 rules:∀n rs,m.rules[n]?=some rs->∃gn cn,W.cell? (af gR n)=some (ae gn rs.length cn)/\rs.length<=cn/\
  ∀k r,rs[k]?=some r->∃gr cr,W.cell? (af gn k)=some (ae gr r.length cr)/\r.length<=cr/\∀p a,r[p]?=some a->W.cell? (af gr p)=some (.string (ER a))
theorem vL {n₀ b:Nat} (h:MkV w n₀ b m):∃gR cR gP cP gD cD gS cS,∀W,Below n₀ w W->MkC W n₀ b m gR cR gP cP gD cD gS cS:=by
 obtain⟨vR,c0,gR,cR,rfl,lR,hgR,hR⟩:=h.rules;obtain⟨vP,c1,gP,cP,rfl,lP,hgP,hP⟩:=h.puts;obtain⟨vD,c2,gD,cD,rfl,lD,hgD,hD⟩:=h.drops;obtain⟨vS,c3,gS,cS,rfl,lS,hgS,hS⟩:=h.swaps;refine⟨gR,cR,gP,cP,gD,cD,gS,cS,fun W hb=>⟨h.lt,hgS,(hb.cell y41Z).trans c0,(hb.cell y41Z).trans c1,(hb.cell y41Z).trans c2,(hb.cell y41Z).trans c3,lR,lP,lD,lS,?_,?_,?_,?_⟩⟩
 ·intro t ht
  obtain⟨x,h1,h2⟩:=hP t ht;rw[(hb.cell (by exact hgP)).trans h1,h2]
 ·intro t ht
  obtain⟨x,h1,h2⟩:=hD t ht;rw[(hb.cell (by exact hgD)).trans h1,h2]
 ·intro i hi
  obtain⟨x,h1,g,cap,h2,h3,h4,h5⟩:=hS i hi;subst h2;refine⟨g,cap,(hb.cell (by exact hgS)).trans h1,h3,h4,fun j hj=>?_⟩;obtain⟨y,h6,h7⟩:=h5 j hj;rw[(hb.cell (by exact h4)).trans h6,h7]
 ·intro n rs hrs
  obtain⟨x,h1,rs',h2,g,cap,h3,h4,h5,h6⟩:=hR n (gS_.1 hrs).1;rw[hrs]at h2;injection h2 with h2
  subst h2;subst h3;refine⟨g,cap,(hb.cell (by exact hgR)).trans h1,h4,fun k r hr=>?_⟩;obtain⟨y,h7,r',h8,g2,cap2,h9,h10,h11,h12⟩:=h6 k (gS_.1 hr).1;rw[hr]at h8;injection h8 with h8
  subst h8;subst h9;refine⟨g2,cap2,(hb.cell (by exact h5)).trans h7,h10,fun p a ha=>?_⟩;obtain⟨z,h13,a',h14,h15⟩:=h12 p (gS_.1 ha).1;rw[ha]at h14;injection h14 with h14
  subst h14;rw[(hb.cell (by exact h11)).trans h13,h15]
theorem dU (m:Mk) (k:Nat):(KO m k).length=12:=by simp[KO,wB]
theorem sV (m:Mk) (i j:Nat):(JX m i j).length<=11:=by unfold JX;split <;> simp[wB]
theorem RZ (l:List UInt8):(ba l).size=l.length:=by simp[ba,ByteArray.size]
theorem qN (m:Mk) (hm:m.Good) (w:World) (b:Nat) (hM:MkV w w.heap.size b m):
  Calls Tryz.prog 29 #[ac b] w fun e w'=>e=.returned (.string (BO m))/\Below w.heap.size w w':=by
 obtain⟨gR,cR,gP,cP,gD,cD,gS,cS,hC⟩:=vL hM;have hN4:=hm.n4;have hT6:=hm.t6;have HG:Hid m.Good:=hid hm;obtain⟨b0,hb0⟩:=qF (w.heap.size);have H0:Hid (b0=w.heap.size):=hid hb0;rw[<-hb0]at hC;rw[<-hb0];have HC:Hid (∀W,Below b0 w W->MkC W b0 b m gR cR gP cP gD cD gS cS):=hid hC;obtain⟨nN,hn1⟩:=qF (m.rules.length);obtain⟨nT,hn2⟩:=qF (m.puts.length);rw[<-hn1]at hN4;rw[<-hn2]at hT6;have H1:Hid (nN=m.rules.length):=hid hn1;have H2:Hid (nT=m.puts.length):=hid hn2;have HBw:Hid (Below b0 w w):=hid (Below.refl _ _);have HW0:Hid (b0<=w.heap.size):=hid (Nat.le_of_eq hb0);clear hC hM hm hn1 hn2 hb0
 go_enter Tryz.func29,Tryz.ntmps29
 go_wp2
 go_loopw [3,4] (fun s i wr=>∃(k:Nat) (x:ByteArray),k<=nT/\i=ab k/\s=.string x/\x.size<=80*k/\Hid (x=ba ((List.range k).flatMap (K5 m)))/\Hid (Below b0 w wr)) (fun _ i _=>nT - (intOf i).toNat)
 case atStart=>exact⟨0,_,Nat.zero_le _,rfl,rfl,Nat.zero_le _,hid rfl,HBw⟩
 case round=>
  obtain⟨k,x,hk,rfl,rfl,hxs,hx,hbr⟩:=hrel;obtain⟨W,hW⟩:=qF (wr);subst hW;have hX:=HC.out _ hbr.out;have c1:=hX.c1;have lP:=hX.lP;rw[<-H2.out]at c1 lP
  by_cases hlt:k<nT
  ·have c2:=hX.c2
   have lD:=hX.lD;rw[<-H2.out]at c2 lD;have d1:=hX.puts k y32Z;have d2:=hX.drops k y32Z;have hp9:=(HG.out.put_at (t:=k) y32Z).2;have hd9:=(JQ HG.out.d1 (by rw[HG.out.dl,<-H2.out];exact hlt)).2;obtain⟨pu,hpu⟩:=qF (m.puts.getD k 0);obtain⟨du,hdu⟩:=qF (m.drops.getD k 0);have hd9:m.drops.getD k 0<=9:=hd9;rw[<-hpu]at d1 hp9;rw[<-hdu]at d2 hd9;have HPU:Hid (pu=m.puts.getD k 0):=hid hpu;have HDU:Hid (du=m.drops.getD k 0):=hid hdu;have hbW:=hbr.out;have z6:¬9223372036854775807<x.size+6:=by omega
   have z7:¬9223372036854775807<x.size+6+1:=by omega
   have z8:¬9223372036854775807<x.size+6+1+1:=by omega
   have z9:¬9223372036854775807<x.size+6+1+1+1:=by omega
   have z10:¬9223372036854775807<x.size+6+1+1+1+1:=by omega
   have z11:¬9223372036854775807<x.size+6+1+1+1+1+1:=by omega
   have z12:¬9223372036854775807<x.size+6+1+1+1+1+1+1:=by omega
   have l1:(AJ k).size=1:=rfl;have l2:(ED pu).size=1:=rfl;have l3:(ED du).size=1:=rfl;clear hX hpu hdu;go_wp2;have HS:Hid (∀W',Below b0 w W'->W'.cell? (af b 1)=some (ae gP nT cP)/\W'.cell? (af b 2)=some (ae gD nT cD)/\W'.cell? (af gP k)=some (ab pu)/\W'.cell? (af gD k)=some (ab du)/\Below b0 w W'):=hid fun W' hb=>by
    have hX:=HC.out W' hb;have e1:=hX.c1;have e2:=hX.c2;rw[<-H2.out]at e1 e2;rw[HPU.out,HDU.out];exact⟨e1,e2,hX.puts k y32Z,hX.drops k y32Z,hb⟩
   refine wp_region_held_drew (S:=fun w'=>w'.cell? (af b 1)=some (ae gP nT cP)/\w'.cell? (af b 2)=some (ae gD nT cD)/\w'.cell? (af gP k)=some (ab pu)/\w'.cell? (af gD k)=some (ab du)/\Below b0 w w') y1Z (HS.out _ hbW.drew) (fun hH=>?_);refine tB 0 hH ?_;refine tB 1 hH ?_;refine tB 2 hH ?_;refine tB 6 hH ?_;refine tB 7 hH ?_;refine tB 8 hH ?_;refine tB 9 hH ?_;refine tB 10 hH ?_;refine tB 11 hH ?_;refine tB 12 hH ?_;refine tB 16 hH ?_;refine tB 17 hH ?_;refine tB 18 hH ?_;refine tB 19 hH ?_;refine tB 20 hH ?_;refine tB 21 hH ?_;refine tB 22 hH ?_;refine tL ?_;refine tS 3 fun K hK=>?_
   refine tM ?_
   go_simp;refine(IJ k (by omega) _).mono ?_;rintro e w' ⟨rfl,rfl⟩;try dsimp only
   refine hK.out _ _ ?_ fun hH=>?_
   ·exact hH
   clear hK K;refine tB 4 hH ?_;refine tB 5 hH ?_;refine tL ?_;refine tS 13 fun K hK=>?_
   refine tM ?_
   go_simp;refine(PW pu (by omega) _).mono ?_;rintro e w5 ⟨rfl,hb5⟩;try dsimp only
   refine hK.out _ _ ?_ fun hH=>?_
   ·exact HS.out _ (hH.2.2.2.2.trans (hb5.mono (lT_ HW0.out hH.2.2.2.2.size)))
   clear hK K;refine tB 14 hH ?_;refine tB 15 hH ?_;refine tL ?_;refine tS 23 fun K hK=>?_
   refine tM ?_
   go_simp;refine(PW du (by omega) _).mono ?_;rintro e w6 ⟨rfl,hb6⟩;try dsimp only
   refine hK.out _ _ ?_ fun hH=>?_
   ·exact HS.out _ (hH.2.2.2.2.trans (hb6.mono (lT_ HW0.out hH.2.2.2.2.size)))
   clear hK K;refine tB 24 hH ?_;refine tB 25 hH ?_;refine tB 26 hH ?_;refine tL ?_;refine wpAnyH_done y1Z ?_ _;have HBE:=hid hH.2.2.2.2;clear hH c1 c2 d1 d2 hbW z6 z7 z8 z9 z10 z11 z12 l1 l2 l3;go_wp2
   go_loopw [3,5] (fun s i wr=>∃(j:Nat) (y:ByteArray),j<=nT/\i=ab j/\s=.string y/\y.size<=80*k+12+11*j/\Hid (y=ba ((List.range k).flatMap (K5 m)++(KO m k++(List.range j).flatMap (JX m k))))/\Hid (Below b0 w wr)) (fun _ i _=>nT - (intOf i).toNat)
   case atStart=>
    have e:x++ {data:= #[116,111,107,101,110,32]}++AJ k++ {data:= #[32]}++ED pu++ {data:= #[32]}++ED du++ {data:= #[10]}=ba ((List.range k).flatMap (K5 m)++(KO m k++(List.range 0).flatMap (JX m k))):=by
     rw[hx.out,HPU.out,HDU.out];simp only[OX]
     congr 1
     simp[KO,AJ,ED,wB]
    refine⟨0,_,Nat.zero_le _,rfl,rfl,?_,hid e,HBE⟩;have hxl:x.size=((List.range k).flatMap (K5 m)).length:=by rw[hx.out,RZ]
    rw[e,RZ,lA,lA,dU,<-hxl];simp only[List.range_zero,List.flatMap_nil,List.length_nil];omega
   case round=>
    clear hxs hbr HBE;obtain⟨j,y,hj,rfl,rfl,hys,hy,hbr⟩:=hrel;obtain⟨W,hW⟩:=qF (wr);subst hW;have hX:=HC.out _ hbr.out;have c1:=hX.c1;have lP:=hX.lP;rw[<-H2.out]at c1 lP
    by_cases hlj:j<nT
    ·have c3:=hX.c3
     have lS:=hX.lS;have hlb:=hX.ltb;have hlS:=hX.ltS;obtain⟨gs,cs,d1,d2,hgs,d3⟩:=hX.swaps k y32Z;have d3:=d3 j (by rw[<-H2.out];exact hlj);rw[<-H2.out]at c3 lS d1 d2;have hc9:=KA HG.out k j;obtain⟨c,hc⟩:=qF (D7 m k j);rw[<-hc]at d3 hc9;have HCc:Hid (c=D7 m k j):=hid hc;clear hX hc
     by_cases h0:0<c
     ·have hbW:=hbr.out
      have z6:¬9223372036854775807<y.size+5:=by omega
      have z7:¬9223372036854775807<y.size+5+1:=by omega
      have z8:¬9223372036854775807<y.size+5+1+1:=by omega
      have z9:¬9223372036854775807<y.size+5+1+1+1:=by omega
      have z10:¬9223372036854775807<y.size+5+1+1+1+1:=by omega
      have z11:¬9223372036854775807<y.size+5+1+1+1+1+1:=by omega
      have z12:¬9223372036854775807<y.size+5+1+1+1+1+1+1:=by omega
      have l1:(AJ k).size=1:=rfl;have l2:(AJ j).size=1:=rfl;have l3:(ED c).size=1:=rfl;have hci:(0:Int)<c:=by omega
      go_wp2;refine wp_region_held_drew (S:=fun w'=>w'.cell? (af b 3)=some (ae gS nT cS)/\w'.cell? (af gS k)=some (ae gs nT cs)/\w'.cell? (af gs j)=some (ab c)/\Below b0 w w') y1Z ⟨c3,d1,d3,hbW.drew⟩ (fun hH=>?_);refine tB 0 hH ?_;refine tB 1 hH ?_;refine tB 2 hH ?_;refine tB 6 hH ?_;refine tB 10 hH ?_;refine tB 11 hH ?_;refine tB 12 hH ?_;refine tB 13 hH ?_;refine tB 14 hH ?_;refine tB 15 hH ?_;refine tB 16 hH ?_;refine tB 17 hH ?_;refine tB 18 hH ?_;refine tB 19 hH ?_;refine tL ?_;refine tS 3 fun K hK=>?_
      refine tM ?_
      go_simp;refine(IJ k (by omega) _).mono ?_;rintro e w' ⟨rfl,rfl⟩;try dsimp only
      refine hK.out _ _ ?_ fun hH=>?_
      ·exact hH
      clear hK K;refine tB 4 hH ?_;refine tB 5 hH ?_;refine tL ?_;refine tS 7 fun K hK=>?_
      refine tM ?_
      go_simp;refine(IJ j (by omega) _).mono ?_;rintro e w' ⟨rfl,rfl⟩;try dsimp only
      refine hK.out _ _ ?_ fun hH=>?_
      ·exact hH
      clear hK K;refine tB 8 hH ?_;refine tB 9 hH ?_;refine tL ?_;refine tS 20 fun K hK=>?_
      refine tM ?_
      go_simp;refine(PW c (by omega) _).mono ?_;rintro e w5 ⟨rfl,hb5⟩;try dsimp only
      refine hK.out _ _ ?_ fun hH=>?_
      ·exact⟨(hb5.cell (by exact lL hlb (lT_ HW0.out hH.2.2.2.size))).trans hH.1,(hb5.cell (by exact lL hlS (lT_ HW0.out hH.2.2.2.size))).trans hH.2.1,(hb5.cell (by exact lL hgs (lT_ HW0.out hH.2.2.2.size))).trans hH.2.2.1,hH.2.2.2.trans (hb5.mono (lT_ HW0.out hH.2.2.2.size))⟩
      clear hK K;refine tB 21 hH ?_;refine tB 22 hH ?_;refine tB 23 hH ?_;refine tL ?_;refine wpAnyH_done y1Z ?_ _;have HBE:=hid hH.2.2.2;clear hH c1 c3 d1 d2 d3 hbW z6 z7 z8 z9 z10 z11 z12 l1 l2 l3;go_wp2
      go_roundw
      case rel=>
       have e:y++ {data:= #[115,119,97,112,32]}++AJ k++ {data:= #[32]}++AJ j++ {data:= #[32]}++ED c++ {data:= #[10]}=ba ((List.range k).flatMap (K5 m)++(KO m k++(List.range (j+1)).flatMap (JX m k))):=by
        rw[hy.out,MJ];simp only[OX]
        congr 1
        have e2:JX m k j=[115,119,97,112,32]++wB (.tok k)++ [32]++wB (.tok j)++ [32]++ [UInt8.ofNat (48+c)]++ [10]:=by
         unfold JX;rw[<-HCc.out,if_pos h0]
        rw[e2];simp[AJ,ED,wB]
       refine⟨j+1,_,by omega,by go_num,rfl,?_,hid e,HBE⟩;have hyl:y.size=((List.range k).flatMap (K5 m)++(KO m k++(List.range j).flatMap (JX m k))).length:=by rw[hy.out,RZ]
       have h11:=sV m k j;rw[e,RZ,MJ];simp only[lA]at hyl ⊢;omega
      case measure=>simp[intOf];omega
     ·have hci:¬(0:Int)<c:=by omega
      go_wp2
      go_roundw
      case rel=>
       refine⟨j+1,y,by omega,by go_num,rfl,by omega,hid ?_,hbr⟩;rw[hy.out,MJ];have e2:JX m k j=[]:=by
        unfold JX;rw[<-HCc.out,if_neg h0]
       rw[e2,List.append_nil]
      case measure=>simp[intOf];omega
    ·clear hX
     go_wp2
     go_roundw
     case rel=>
      refine⟨k+1,y,by omega,by go_num,rfl,by omega,hid ?_,hbr⟩;rw[hy.out,MJ];have e:j=m.puts.length:=by rw[<-H2.out];omega
      rw[e];rfl
     case measure=>simp[intOf];omega
  ·have e0:k=m.puts.length:=by rw[<-H2.out];omega
   have HX0:Hid (x=ba ((List.range m.puts.length).flatMap (K5 m)++(m.rules.zipIdx.take 0).flatMap LW)):=hid (by rw[hx.out,e0];simp);obtain⟨L0,hL0⟩:=qF ((List.range m.puts.length).flatMap (K5 m));rw[<-hL0]at HX0;have HL0:Hid (L0=(List.range m.puts.length).flatMap (K5 m)):=hid hL0;clear hX e0 hL0;go_wp2;clear hx c1 lP
   go_loopw [3,6] (fun s i wr=>∃(n:Nat) (y:ByteArray),n<=nN/\i=ab n/\s=.string y/\y.size<=500+200*n/\Hid (y=ba (L0++(m.rules.zipIdx.take n).flatMap LW))/\Hid (Below b0 w wr)) (fun _ i _=>nN - (intOf i).toNat)
   case atStart=>exact⟨0,x,Nat.zero_le _,rfl,rfl,by omega,HX0,hbr⟩
   case round=>
    clear hxs hbr HX0;obtain⟨n,y,hn,rfl,rfl,hys,hy,hbr⟩:=hrel;obtain⟨W,hW⟩:=qF (wr);subst hW;have hX:=HC.out _ hbr.out;have c0:=hX.c0;have lR:=hX.lR;rw[<-H1.out]at c0 lR
    by_cases hlt:n<nN
    ·obtain⟨rs,hrs⟩:∃rs,m.rules[n]?=some rs:=⟨_,gE (by rw[<-H1.out];exact hlt)⟩
     have hcr:=(HG.out.c1 rs (EM hrs).2).2;rw[<-H2.out]at hcr;have HRS:Hid (m.rules[n]?=some rs):=hid hrs;obtain⟨nR,hnR⟩:=qF (rs.length);have HNR:Hid (nR=rs.length):=hid hnR;rw[<-hnR]at hcr;have z5:¬9223372036854775807<y.size+5:=by omega
     have z6:¬9223372036854775807<y.size+5+1:=by omega
     have z7:¬9223372036854775807<y.size+5+1+2:=by omega
     have l1:(BL n).size=1:=rfl;have CN:Hid (∀W,Calls Tryz.prog 33 #[ab n] W fun e w'=>e=.returned (.string (BL n))/\W=w'):=hid fun W=>QU n (by omega) W
     clear hX hrs hnR
     go_wp2_with (go_at_call 33;refine(CN.out _).mono ?_;rintro e w' ⟨rfl,rfl⟩)
     clear z5 z6 z7 c0 lR
     go_loopw [3,7] (fun s i wr=>∃(q:Nat) (v:ByteArray),q<=nR/\i=ab q/\s=.string v/\v.size<=508+200*n+12*q/\Hid (v=ba (L0++(m.rules.zipIdx.take n).flatMap LW++(LJ n++(rs.zipIdx.take q).flatMap (fun y=>LR y.2++GZ y.1))))/\Hid (Below b0 w wr)) (fun _ i _=>nR - (intOf i).toNat)
     case atStart=>
      have e:y++ {data:= #[114,117,108,101,32]}++BL n++ {data:= #[32,61]}=ba (L0++(m.rules.zipIdx.take n).flatMap LW++(LJ n++(rs.zipIdx.take 0).flatMap (fun y=>LR y.2++GZ y.1))):=by
       rw[hy.out];simp only[OX]
       congr 1
       simp[LJ,BL,wB]
      refine⟨0,_,Nat.zero_le _,rfl,rfl,?_,hid e,hbr⟩;simp only[ByteArray.size_append,l1];have e5:(ByteArray.mk #[114,117,108,101,32]).size=5:=rfl;have e2:(ByteArray.mk #[32,61]).size=2:=rfl;rw[e5,e2];omega
     case round=>
      clear hys hy hbr l1;obtain⟨q,v,hq,rfl,rfl,hvs,hv,hbr⟩:=hrel;obtain⟨W,hW⟩:=qF (wr);subst hW;have hX:=HC.out _ hbr.out;have c0:=hX.c0;have lR:=hX.lR;rw[<-H1.out]at c0 lR;obtain⟨gn,cn,d0,hcn,hrk⟩:=hX.rules n rs HRS.out;rw[<-HNR.out]at d0 hcn
      by_cases hlq:q<nR
      ·obtain⟨r,hr⟩:∃r,rs[q]?=some r:=⟨_,gE (by rw[<-HNR.out];exact hlq)⟩
       have HR:Hid (rs[q]?=some r):=hid hr;obtain⟨np,hnp⟩:=qF (r.length);have HNP:Hid (np=r.length):=hid hnp;have hnp5:np<=5:=by rw[hnp];exact(HG.out.head rs (EM HRS.out).2 q r hr).2
       obtain⟨u,hu⟩:∃u,u=(if 0<q then v++ {data:= #[32,124]}else v):=⟨_,rfl⟩;have hus:u.size<=508+200*n+12*q+2:=by
        rw[hu];split
        ·rw[ByteArray.size_append]
         have e2:(ByteArray.mk #[32,124]).size=2:=rfl;rw[e2];omega
        ·omega
       have HU:Hid (u=ba (L0++(m.rules.zipIdx.take n).flatMap LW++(LJ n++(rs.zipIdx.take q).flatMap (fun y=>LR y.2++GZ y.1))++LR q)):=hid (by
        rw[hu,hv.out];unfold LR;split
        ·rw[OX]
        ·simp)
       have hu1:0<q->v++ {data:= #[32,124]}=u:=fun h=>by rw[hu,if_pos h]
       have hu2:¬0<q->v=u:=fun h=>by rw[hu,if_neg h]
       have z2:¬9223372036854775807<v.size+2:=by omega
       clear hX hr hnp hrk hu
       rcases Classical.em (0<q)with hq0 |hq0
       all_goals
        go_wp2;have HQ:=hid hq0;clear c0 d0 lR hcn z2 hq0
        go_loopw [3,8] (fun s i wr=>∃(p:Nat) (t:ByteArray),p<=np/\i=ab p/\s=.string t/\t.size<=510+200*n+12*q+2*p/\Hid (t=ba (L0++(m.rules.zipIdx.take n).flatMap LW++(LJ n++(rs.zipIdx.take q).flatMap (fun y=>LR y.2++GZ y.1))++LR q++GZ (r.take p)))/\Hid (Below b0 w wr)) (fun _ i _=>np - (intOf i).toNat)
        case atStart=>
         refine⟨0,u,Nat.zero_le _,rfl,?_,by omega,hid (by rw[HU.out];simp[GZ]),hbr⟩
         first
          |rfl
          | (rw[hu2 HQ.out])
          | (rw[hu1 HQ.out])
        case round=>
         clear hus hu1 hu2 hbr hvs hv;obtain⟨p,t,hp,rfl,rfl,hts,ht,hbr⟩:=hrel;obtain⟨W,hW⟩:=qF (wr);subst hW;have hX:=HC.out _ hbr.out;have c0:=hX.c0;have lR:=hX.lR;rw[<-H1.out]at c0 lR;obtain⟨gn,cn,d0,hcn,hrk⟩:=hX.rules n rs HRS.out;obtain⟨gr,cr,d1,hcr2,hwd⟩:=hrk q r HR.out;rw[<-HNR.out]at d0 hcn;rw[<-HNP.out]at d1 hcr2
         by_cases hlp:p<np
         ·obtain⟨a,ha⟩:∃a,r[p]?=some a:=⟨_,gE (by rw[<-HNP.out];exact hlp)⟩
          have d2:=hwd p a ha;have HA:Hid (r[p]?=some a):=hid ha;have l1:(ER a).size=1:=by cases a <;> rfl
          have z1:¬9223372036854775807<t.size+1:=by omega
          have z2:¬9223372036854775807<t.size+1+1:=by omega
          clear hX hrk hwd ha;go_wp2
          go_roundw
          case rel=>
           refine⟨p+1,t++ {data:= #[32]}++ER a,by omega,by go_num,rfl,?_,hid ?_,hbr⟩
           ·simp only[ByteArray.size_append,l1]
            have e1:(ByteArray.mk #[32]).size=1:=rfl;rw[e1];omega
           ·rw[ht.out]
            simp only[OX]
            congr 1
            have e2:GZ (r.take (p+1))=GZ (r.take p)++(32::wB a):=by
             unfold GZ;rw[QW _ HA.out]
            have e3:(ER a).data.toList=wB a:=by cases a <;> rfl
            rw[e2,e3];simp
          case measure=>simp[intOf];omega
         ·clear hX hrk hwd
          go_wp2
          go_roundw
          case rel=>
           refine⟨q+1,t,by omega,by go_num,rfl,by omega,hid ?_,hbr⟩;rw[ht.out]
           congr 1
           have e2:rs.zipIdx[q]?=some (r,q):=by rw[List.getElem?_zipIdx,HR.out];simp
           have e3:r.take p=r:=List.take_of_length_le (by rw[<-HNP.out];omega);rw[QW _ e2,e3];simp
          case measure=>simp[intOf];omega
      ·have z1:¬9223372036854775807<v.size+1:=by omega
       clear hX hrk;go_wp2
       go_roundw
       case rel=>
        refine⟨n+1,v++ {data:= #[10]},by omega,by go_num,rfl,?_,hid ?_,hbr⟩
        ·rw[ByteArray.size_append]
         have e1:(ByteArray.mk #[10]).size=1:=rfl;rw[e1];omega
        ·rw[hv.out,OX]
         congr 1
         have e2:m.rules.zipIdx[n]?=some (rs,n):=by rw[List.getElem?_zipIdx,HRS.out];simp
         have e3:rs.zipIdx.take q=rs.zipIdx:=List.take_of_length_le (by rw[List.length_zipIdx,<-HNR.out];omega);rw[QW _ e2,e3];simp[LW]
       case measure=>simp[intOf];omega
    ·have HE:Hid (y=BO m):=hid (by
      rw[hy.out,uA,HL0.out,List.take_of_length_le (by rw[List.length_zipIdx,<-H1.out];omega)])
     clear hX hy hys;go_wp2;go_ret;exact⟨by rw[HE.out];rfl,hbr.out⟩
theorem TrL.append {rul:Nat->Nat->Option (List Pt)}{a b:List Pt}{l l':List Nat}{S S':List GR} (h:TrL rul a l S) (h':TrL rul b l' S'):TrL rul (a++b) (l++l') (S++S'):=by
 induction h with
 |nil=>exact h'
 |tok _ ih=>exact .tok ih
 |nam hk h1 _ _ ih2=>
  have:=TrL.nam hk h1 ih2;rw[aA,List.cons_append,aA];exact this
theorem GG.put {g n cap:Nat}{R:List NdV}{a:NdV} (h:GG w gb B mb raw x left rv (ae g n cap) ws (NS++a::R)) (b:NdV) (j:Nat) (hj:j<3) (u:Value)
  (hu:[Value.string b.1,ab b.2.1,ab b.2.2]=[Value.string a.1,ab a.2.1,ab a.2.2].set j u) (hB:B<=w.heap.size):
  GG (w.setCell (af g (NS.length*3+j)) u) gb B mb raw x left rv (ae g n cap) ws (NS++b::R)/\Below B w (w.setCell (af g (NS.length*3+j)) u):=by
 have hne:(ae g n cap).ownBlock≠some gb:=A6 h.tree h.blk (by decide);have hgB:B<=g:=(h.tree.lt g rfl).1;have hk:A1 w (w.setCell (af g (NS.length*3+j)) u) [g]:=(A1.refl w [g]).setCell (by simp) _;have hb:Below B w (w.setCell (af g (NS.length*3+j)) u):=hk.below hB (fun q hq=>by rw[mS.1 hq];exact hgB);refine⟨⟨(hk.block gb (lt_of_block h.blk) (fun hm=>hne (by rw[mS.1 hm];rfl))).trans h.blk,DI.keeps h.row hk (fun q hq hm=>GH h.row h.tree (by decide) hq (by rw[mS.1 hm];rfl)),?_⟩,hb⟩;have h3:=h.tree;have e:n=(NS++a::R).length:=by
  obtain⟨_,_,e,_⟩:=EB h3;injection e
 subst e;have h4:=(h3.stored (NS.length*3+j) u).1;rw[SJ NS R a b j u hu hj]at h4;have e2:(NS++a::R).length=(NS++b::R).length:=by simp
 rw[e2]at h4 ⊢;exact h4
theorem GG.drewN {tv:Value} (h:GG w gb B mb raw x left rv tv ws NS) (q:Nat):GG (w.drewN q) gb B mb raw x left rv tv ws NS:=⟨h.blk,h.row,h.tree⟩
theorem GG.nums {x' left':Nat}{tv:Value} (h:GG w gb B mb raw x left rv tv ws NS) (hgb:B<=gb) (hB:B<=w.heap.size) {w':World} (hk:A1 w w' [gb])
  (hb:w'.heap[gb]?=some (.cells #[ac mb,raw,ab x',rv,tv,ab left'] 143 (0,0))):GG w' gb B mb raw x' left' rv tv ws NS/\Below B w w':=
 ⟨⟨hb,DI.keeps h.row hk (fun g hg hm=>by rw[mS.1 hm]at hg;exact A6 h.row h.blk (by decide) hg),A7 h.tree hk (fun g hg hm=>by rw[mS.1 hm]at hg;exact A6 h.tree h.blk (by decide) hg)⟩,hk.below hB (fun q hq=>by rw[mS.1 hq];exact hgb)⟩
theorem vE {n₀ b:Nat} (h:MkV w n₀ b m) {n:Nat}{rs:List (List Pt)} (hn:m.rules[n]?=some rs):
  ∃gR cR gn cn,m.rules.length<=cR/\rs.length<=cn/\(∀W,Below n₀ w W->W.cell? (af b 0)=some (ae gR m.rules.length cR)/\W.cell? (af gR n)=some (ae gn rs.length cn))/\
   ∀k r,rs[k]?=some r->∃gr cr,r.length<=cr/\∀W,Below n₀ w W->W.cell? (af gn k)=some (ae gr r.length cr)/\∀p a,r[p]?=some a->W.cell? (af gr p)=some (.string (ER a)):=by
 obtain⟨v,c0,gR,cR,rfl,lR,hgR,hR⟩:=h.rules;obtain⟨x,x1,rs',x2,gn,cn,rfl,ln,hgn,hN⟩:=hR n (EM hn).1;rw[hn]at x2;injection x2 with x2
 subst x2;refine⟨gR,cR,gn,cn,lR,ln,fun W hb=>⟨(hb.cell y41Z).trans c0,(hb.cell (by exact hgR)).trans x1⟩,fun k r hk=>?_⟩;obtain⟨y,y1,r',y2,gr,cr,rfl,lr,hgr,hP⟩:=hN k (gS_.1 hk).1;rw[hk]at y2;injection y2 with y2
 subst y2;refine⟨gr,cr,lr,fun W hb=>⟨(hb.cell (by exact hgn)).trans y1,fun p a ha=>?_⟩⟩;obtain⟨z,z1,q,z2,rfl⟩:=hP p (gS_.1 ha).1;rw[ha]at z2;injection z2 with z2
 subst z2;exact(hb.cell (by exact hgr)).trans z1
theorem pN  (hm:m.Good) (mb B:Nat) (raw:Value) (left n:Nat) (hn:n<m.rules.length) (ih:∀left',left'<left->∀p,EL m.puts.length m.rules.length p->US m mb B raw left' p):US m mb B raw left (.nam n):=by
 intro w gb rv tv ws NS x hM hgb hBw hV hx hl3 hws hNS;obtain⟨iN,hiN,hzN0,hzN1,hzN2⟩:=info_parts Tryz.infoG129;have hn4:n<4:=by have:=hm.n4;omega
 have l1:=fC n hn4;have l0:=WD n;have l4:=ZL n hn4 l0;obtain⟨rs,hrs⟩:∃rs,m.rules[n]?=some rs:=⟨_,gE hn⟩;obtain⟨gR,cR,gn,cn,dl,e1,hC,hCr⟩:=vE (hM w (Below.refl _ _)).1 hrs;have c0:w.cell? (af gb 0)=some (ac mb):=(A0 hV.blk).trans rfl;have c4:w.cell? (af gb 4)=some tv:=(A0 hV.blk).trans rfl;have c5:w.cell? (af gb 5)=some (ab left):=(A0 hV.blk).trans rfl;obtain⟨d0,e0⟩:=hC w (Below.refl _ _);have htree:=hV.tree;obtain⟨adt,capt,rfl,hct⟩:=EB htree;obtain⟨nt,hnt⟩:=qE (NS.length);rw[hnt]at c4 htree hct hV;have hNt:nt<100000:=by have:0<6 ^(left+J4 (.nam n)):=Nat.pow_pos (by omega);omega
 have hbl:gb<w.heap.size:=lt_of_block hV.blk;have hrl:=(hm.c1 rs (EM hrs).2).1;have hr6:rs.length<=6:=by have h1:=(hm.c1 rs (EM hrs).2).2;have h2:=hm.t6;omega
 obtain⟨nr,hnr⟩:=qE (rs.length);rw[hnr]at e0 e1 hrl hr6;have HV:=hid hV;have HM:=hid hM;have HC:=hid hCr;have HRS:Hid (m.rules[n]?=some rs/\rs.length=nr):=hid ⟨hrs,hnr⟩;have HX:=hid (And.intro hws hNS);obtain⟨s,hs⟩:=qF (BL n);show Calls _ _ #[_,.string (BL n)] _ _;have hor:=gF n hn4;have l5:=ZL n hn4 l0;rw[<-hs]at hor l1 ⊢;have HS:=hid hs;have l0:0<s.size:=by rw[hs];exact WD n
 have l4:((s[0]'l0).toNat:Int)=65+n:=by
  subst hs;exact l5
 have HNt:Hid (NS.length=nt):=hid hnt;have HIH:=hid ih;have HL5:Hid (∀(k:Nat) r,rs[k]?=some r->r.length<=5):=hid fun k r h=>(hm.head rs (EM hrs).2 k r h).2
 have HPA:Hid (∀(k:Nat) r,rs[k]?=some r->∀p∈r,EL m.puts.length m.rules.length p):=hid fun k r h p hp=>hm.part rs (EM hrs).2 r (mG h) p hp
 have HLA:Hid (∀(k:Nat) r,rs[k]?=some r->k+1=nr->∀p∈r,∃t,p=.tok t):=hid fun k r h hk=>hm.last rs (EM hrs).2 r (by rw[List.getLast?_eq_getElem?,hnr,show nr - 1=k by omega];exact h)
 clear hV hM hC hCr hrs hnr hnt ih hws hNS l5 hs htree
 go_enter Tryz.func72,Tryz.ntmps72
 go_upto_region 1 with fail
 go_cut [4,18] (fun s4 s18 wx=>s4=ab nt/\s18=.bool false/\wx=w)
 case first=>
  rcases hor with hor |hor
  all_goals
   go_wp2
   go_meet
   exact⟨rfl,rfl,rfl⟩
 case rest=>
  obtain⟨rfl,rfl,rfl⟩:=hcut;obtain⟨w,rfl⟩:=qF (wc);clear hor l1
  go_upto_region 4 with fail
  go_quiet (fail)
  obtain⟨wq,hwq⟩:=qE (w.drewN nq);have HVq:Hid (GG wq gb B mb raw x left rv (.slice adt nt capt) ws NS):=hid (by rw[<-hwq];exact HV.out.drewN _);have HBq:Hid (Below B w wq):=hid (by rw[<-hwq];exact below_drewN (Below.refl _ _) nq);clear c0 c4 c5 d0 e0;have c5:wq.cell? (af gb 5)=some (ab left):=(A0 HVq.out.blk).trans rfl;have hrl1:(nr:Int) - 1=((nr - 1:Nat):Int):=by omega
  rw[hwq]
  go_upto_if 60 with fail
  try rw[hrl1]
  go_cut [6] (fun s6 wx=>∃k left1 x1:Nat,s6=ab k/\k<nr/\x1+left1=x+left/\(left1<left\/left=0/\left1=0/\k+1=nr)/\Hid (GG wx gb B mb raw x1 left1 rv (.slice adt nt capt) ws NS)/\Hid (Below B w wx))
  case first=>
   rcases Nat.eq_zero_or_pos left with h0 |h0
   ·have hng:¬((0:Int)< (left:Int)):=by omega
    go_wp2
    go_meet
    exact⟨nr - 1,left,x,by go_num,by omega,rfl,.inr ⟨h0,h0,by omega⟩,HVq,HBq⟩
   ·obtain⟨lf,hlf⟩:∃lf,left=lf+1:=⟨left - 1,by omega⟩
    have hgt:((0:Int)< (left:Int)):=by omega
    have hsub:IntKind.i64.wrap ((left:Int) - 1)=(lf:Int):=by rw[w64];omega
    have f5:=A3 (j:=5) HVq.out.blk
    go_upto_region 8 with fail
    have hr5:=A5 (j:=5) HVq.out.blk (ab (lf:Nat));have hk5:A1 wq (wq.setCell (af gb 5) (ab (lf:Nat))) [gb]:=(A1.refl _ [gb]).setCell (by simp) _;obtain⟨HV5a,HV5b⟩:=HVq.out.nums hgb (by have:=HBq.out.size;omega) hk5 hr5;obtain⟨W5,hW5⟩:=qE (wq.setCell (af gb 5) (ab (lf:Nat)));rw[hW5]at HV5a HV5b ⊢;clear hr5 hk5 hW5 f5 c5;have c1:W5.cell? (af gb 1)=some raw:=(A0 HV5a.blk).trans rfl;have c2:W5.cell? (af gb 2)=some (ab x):=(A0 HV5a.blk).trans rfl;have HB5:Hid (Below B w W5):=hid (HBq.out.trans HV5b);have HV5:=hid HV5a;clear HV5a HV5b;refine wp_region_held_drew (S:=fun w'=>w'.cell? (af gb 1)=some raw/\w'.cell? (af gb 2)=some (ab x)) y1Z ⟨c1,c2⟩ (fun hH=>?_);refine tB 0 hH ?_;refine tB 1 hH ?_;refine tB 2 hH ?_;refine tB 3 hH ?_;refine tB 4 hH ?_;refine tB 5 hH ?_;refine tB 6 hH ?_;refine tB 7 hH ?_;refine tB 9 hH ?_;refine tB 10 hH ?_;refine tL ?_;refine tS 8 fun K hK=>?_
    refine tM ?_
    go_simp;refine(JU raw x (by omega) _ (HM.out _ (HB5.out.drew)).2).mono ?_;rintro e w' ⟨⟨z,rfl,hz⟩,rfl⟩;try dsimp only
    refine hK.out _ _ ?_ fun hH=>?_
    ·exact hH
    clear hK K;refine tL ?_;refine tS 11 fun K hK=>?_
    refine tM ?_
    go_simp;refine(I9 z nr (by omega) hz _).mono ?_;rintro e w' ⟨⟨k,hk,rfl⟩,rfl⟩;try dsimp only
    refine hK.out _ _ ?_ fun hH=>?_
    ·exact hH
    clear hK K;refine tB 12 hH ?_;refine tL ?_;refine wpAnyH_done y1Z ?_ _;clear hH c1;have f2:=A3 (j:=2) HV5.out.blk;have hxw:IntKind.i64.wrap ((x:Int)+1)=((x+1:Nat):Int):=by rw[w64];omega
    go_wp2
    go_meet
    have hr2:=A5 (j:=2) HV5.out.blk (ab ((x:Int)+1));have hk2:A1 W5 (W5.setCell (af gb 2) (ab ((x:Int)+1))) [gb]:=(A1.refl _ [gb]).setCell (by simp) _;obtain⟨z1,z2⟩:=HV5.out.nums (x':=x+1) (left':=lf) hgb (by have:=HB5.out.size;omega) hk2 hr2;exact⟨k,lf,x+1,rfl,hk,by omega,.inl (by omega),hid z1.drew,hid (HB5.out.trans z2).drew⟩
  case rest=>
   obtain⟨k,left1,x1,rfl,hk,hxl,hcs,hV,hB⟩:=hcut;obtain⟨r,hr⟩:∃r,rs[k]?=some r:=⟨_,gE (by rw[HRS.out.2];exact hk)⟩;obtain⟨gr,cr,hcr,HR⟩:=HC.out k r hr;obtain⟨W1,rfl⟩:=qF (wc);have hB1:B<=W1.heap.size:=by have:=hB.out.size;omega
   have c4:W1.cell? (af gb 4)=some (.slice adt nt capt):=(A0 hV.out.blk).trans rfl;have q4:(W1.alloc (.cells #[.string s,ab k,ab 0] 129)).cell? (af gb 4)=some (.slice adt nt capt):=A2 _ c4;have hT1:=hV.out.tree;rw[HNt.out]at hT1;have HT1:=hid hT1;clear hT1 hwq
   go_wp2_with (at_builtin;refine wpList_append_lies _ rfl _ _ 40 rfl B 129 iN (.agg #[.string ByteArray.empty,ab 0,ab 0]) 3 32 Tryz.underlying40 hiN hzN0 hzN1 hzN2 rfl (by decide) _ _ _ rfl (HT1.out.alloc _) (af W1.heap.size 0) 1 1 [.string s,ab k,ab 0] rfl rfl (World.news_of_block (heap_alloc_new W1 _)) ?d2 (lR_ 1) ?d3 ?d4 ?d5 _ rfl ?_)
   case d2=>simp[Value.oneCell']
   case d3=>unfold maxLen;omega
   case d4=>omega
   case d5=>simp;omega
   intro g5 cap5 w5 hown5 hgrow5 hat5 hlt5;obtain⟨⟨y1,y2⟩,y3,y4⟩:=hV.out.node (nd:=(s,(k:Int),0)) ((A1.refl W1 []).alloc (.cells #[.string s,ab k,ab 0] 129)) hgb hB1 (v':=ae g5 (nt+1) cap5) (by rw[HNt.out];exact hown5) hgrow5;have HZ:=hid (And.intro y3 y4);clear y3 y4 hown5 hgrow5 hat5 hlt5 q4 c4
   go_upto_region 11 with fail
   obtain⟨W6,hW6⟩:=qE (w5.setCell (af gb 4) (ae g5 (nt+1) cap5));rw[hW6]at HZ ⊢;clear hW6 y1 y2;have HB6:Hid (Below B w W6):=hid (hB.out.trans HZ.out.2);have HV6:=hid HZ.out.1;clear HZ;obtain⟨np,hnp⟩:=qE (r.length);rw[hnp]at hcr HR;have hn5:np<=5:=by rw[<-hnp];exact HL5.out k r hr
   have HRR:=hid (And.intro HR (And.intro hr hnp));clear HR hr hnp hV hB;have H5:Hid (5 ^(left+1)=5*5 ^left/\6 ^(left+1)=6*6 ^left/\0<6 ^left):=hid ⟨Nat.pow_succ',Nat.pow_succ',Nat.pow_pos (by omega)⟩;go_wp2
   go_loopw [7] (fun q wr=>∃(j:Nat) (l:List Nat) (S:List GR) (rvj tvj:Value) (xj lj:Nat),j<=np/\q=ab j/\xj+lj=x+left/\lj<=left1/\Hid (TrL (FN m) (r.take j) l S)/\Hid (l.length<=j*5 ^left/\S.length<=j*6 ^left)/\Hid (GG wr gb B mb raw xj lj rvj tvj (ws++l.map AJ) (NS++(s,(k:Int),0)::S.map ndM))/\Hid (Below B w wr)) (fun q _=>np - (intOf q).toNat)
   case atStart=>exact⟨0,[],[],_,_,x1,left1,Nat.zero_le _,rfl,hxl,lR_ _,hid .nil,hid ⟨Nat.zero_le _,Nat.zero_le _⟩,hid (by rw[List.map_nil,List.append_nil,List.map_nil];exact HV6.out),HB6⟩
   case round=>
    obtain⟨j,l,S,rvj,tvj,xj,lj,hj,rfl,hxj,hlj,hTr,hLen,hVj,hBj⟩:=hrel;obtain⟨W,rfl⟩:=qF (wr);obtain⟨f1,f2⟩:=HRR.out.1 W hBj.out
    by_cases hlt:j<np
    ·obtain⟨a,ha⟩:∃a,r[j]?=some a:=⟨_,gE (by rw[HRR.out.2.2];exact hlt)⟩
     have f3:=f2 j a ha;have hpa:=HPA.out k r HRR.out.2.1 a (mG ha);have hga:US m mb B raw lj a/\lj+J4 a<=left:=by
      rcases hcs with h1 | ⟨h1,h2,h3⟩
      ·exact⟨HIH.out lj (by omega) a hpa,by have:J4 a<=1:=(by cases a <;> simp[J4]);omega⟩
      ·obtain⟨t,rfl⟩:=HLA.out k r HRR.out.2.1 h3 a (mG ha)
       exact⟨cX hm mb B raw lj t hpa,by simp[J4];omega⟩
     have p5:5 ^(lj+J4 a)<=5 ^left:=Nat.pow_le_pow_right (by omega) hga.2;have p6:6 ^(lj+J4 a)<=6 ^left:=Nat.pow_le_pow_right (by omega) hga.2;have hj5:j*5 ^left<=4*5 ^left:=Nat.mul_le_mul_right _ (by omega);have hj6:j*6 ^left<=4*6 ^left:=Nat.mul_le_mul_right _ (by omega);have HG:=hid (fun W' (hb:Below B W W') (hv:GG W' gb B mb raw xj lj rvj tvj (ws++l.map AJ) (NS++(s,(k:Int),0)::S.map ndM))=>hga.1 W' gb rvj tvj _ _ xj (fun W2 hb2=>HM.out W2 ((hBj.out.trans hb).trans hb2)) hgb (by have:=hBj.out.size;have:=hb.size;omega) hv (by omega) (by omega)
      (by have h1:=HX.out.1;have h2:=H5.out.1;have h3:=hLen.out.1;simp only[J4]at h1;rw[lA,lM];omega)
      (by have h1:=HX.out.2;have h2:=H5.out.2;have h3:=hLen.out.2;simp only[J4]at h1;rw[lA,lC,lM];omega))
     have HP:=hid (And.intro p5 (And.intro p6 ha));clear ha hga p5 p6 hj5 hj6 hpa f2
     go_wp2_with (go_at_call 72;refine(HG.out _ (Below.refl _ _) hVj.out).mono ?_;rintro e w7 ⟨rfl,l7,S7,rv7,tv7,x7,left7,h71,h72,h73,h74,h75,h76,h77⟩;have H7:=hid (And.intro h71 (And.intro h74 (And.intro h75 (And.intro h76 h77))));clear h71 h74 h75 h76 h77)
     go_roundw
     case rel=>exact⟨j+1,l++l7,S++S7,rv7,tv7,x7,left7,by omega,by go_num,by omega,by omega,hid (by
      have h1:=hTr.out.append H7.out.1;rw[List.take_add_one,HP.out.2.2];exact h1),hid (by
      have h1:=hLen.out;have h2:=HP.out;have h3:=H7.out.2;rw[lA,lA,Nat.succ_mul,Nat.succ_mul];omega),hid (by
      have h1:=H7.out.2.2.2.1;rw[List.map_append,List.map_append,<-List.cons_append,<-aA,<-aA];exact h1),hid (hBj.out.trans H7.out.2.2.2.2)⟩
     case measure=>simp[intOf];omega
    ·have htj:=hTr.out
     rw[List.take_of_length_le (by rw[HRR.out.2.2];omega)]at htj;have hV:=hVj.out;have hBl:=hBj.out.size;obtain⟨g9,cap9,rfl,hg9B,hg9l,hc9⟩:=AX hV.tree y2Z;obtain⟨n9,hn9⟩:=qE ((NS++(s,(k:Int),0)::S.map ndM).length);have hn9':n9=nt+1+S.length:=by rw[<-hn9,<-HNt.out];simp;omega
     have hrow9:=hV.tree;rw[hn9]at hrow9 hV hc9;have e9:W.cell? (af gb 4)=some (ae g9 n9 cap9):=(A0 hV.blk).trans rfl;have f9:W.cell? (af g9 (nt*3+2))=some (ab (0:Nat)):=by
      rw[hrow9.cellAt (nt*3+2) (by omega)];have:=(KW NS (S.map ndM) (s,(k:Int),0)).2.2;rw[HNt.out]at this;exact this
     have u9:=hrow9.frozenAt (nt*3+2);have hS6:S.length<=100000/\l.length<=5 ^(left+1)/\S.length+1<=6 ^(left+1):=by
      have h1:=hLen.out;have h2:=H5.out;have hj5:j*5 ^left<=5*5 ^left:=Nat.mul_le_mul_right _ (by omega);have hj6:j*6 ^left<=5*6 ^left:=Nat.mul_le_mul_right _ (by omega);have h3:=HX.out.2;simp only[J4]at h3;omega
     have HV9:=hid hV;have hklt:((nt:Int)< (n9:Int)):=by omega
     have HN9:=hid hn9';have hn9b:n9<=2000001:=by omega
     have HEND:=hid (And.intro htj hS6);clear hVj hV hrow9 hn9 hn9' htj hTr hLen hS6
     go_upto_region 15 with fail
     refine AC (fun w'=>w'.cell? (af gb 4)=some (ae g9 n9 cap9)) hmx y1Z e9 (fun hH=>?_);simp only[AA,BN,AO];refine tB 0 hH ?_;refine tB 1 hH ?_;refine tB 2 hH ?_;refine tB 3 hH ?_;refine tB 4 hH ?_;refine tB 5 hH ?_;refine tB 6 hH ?_;refine tB 7 hH ?_;refine tB 8 hH ?_;refine tB 9 hH ?_;refine tB 10 hH ?_;refine tB 11 hH ?_;refine tB 12 hH ?_;refine tB 13 hH ?_;refine tB 14 hH ?_;refine tL ?_;refine wpAnyH_done y1Z ?_ _;clear hH;show wpList _ _ _ _ _ _;go_wp2;rw[show((n9:Int) - (nt:Int))=((S.length+1:Nat):Int) by have:=HN9.out;omega];obtain⟨y1,y2⟩:=HV9.out.put (s,(k:Int),S.length+1) 2 (by omega) (ab (S.length+1:Nat)) rfl (by have:=hBl;omega);rw[HNt.out]at y1 y2;refine⟨rfl,_,results_none rfl _ _ _,rfl,l,⟨.nam n,k,S.length+1⟩::S,rvj,ae g9 n9 cap9,xj,lj,?_,hxj,by omega,HEND.out.2.2.1,?_,?_,(hBj.out.trans y2).drew⟩
     ·have h1:=TrL.nam (n:=n) (k:=k) (rul:=FN m) (by rw[OJ HRS.out.1];exact HRR.out.2.1) HEND.out.1 (.nil (rul:=FN m))
      simpa using h1
     ·exact HEND.out.2.2.2
     ·have h1:=y1.drew
      rw[HS.out]at h1;exact h1
theorem pR  (hm:m.Good) (mb B:Nat) (raw:Value):∀left p,EL m.puts.length m.rules.length p->US m mb B raw left p:=by
 intro left
 induction left using Nat.strongRecOn with
 |_ left ih=>
  intro p hp;cases p with
  |tok t=>exact cX hm mb B raw left t hp
  |nam n=>exact pN hm mb B raw left n hp (fun l hl q hq=>ih l hl q hq)
end Go.Proofs.YtjjggdcnpndgjaaGreatDoor
