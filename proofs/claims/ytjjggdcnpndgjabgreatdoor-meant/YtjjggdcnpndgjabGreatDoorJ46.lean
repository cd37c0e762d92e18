import Derived.Test.YtjjggdcnpndgjabGreatDoorJ45
set_option linter.unusedSimpArgs false
set_option maxHeartbeats 16000000
set_option maxRecDepth 100000
namespace Go.Proofs.YtjjggdcnpndgjabGreatDoor
open Go.RowKit Go.Shelf
variable {B i k n:Nat}{E:List EdP}{a:Option Addr}{w:World}
theorem eZ {α:Type}{E:List α}{e:α} (h:(E.take i)[k]?=some e):E[k]?=some e:=by
 rw[List.getElem?_take]at h;split at h
 ·exact h
 ·cases h
theorem Run.toks {N:NG}{row:List Nat} (hr:∀x∈row,x<N.nT) {j:Nat}{b:List Nat}{c:Nat} (h:Run N row i E j b c):∀x∈b,x<N.nT:=by
 induction h with
 |done i=>intro x hx;cases hx
 |keep hx _ ih=>
  intro y hy
  rcases List.mem_cons.1 hy with rfl |h1
  ·exact hr _ (mG hx)
  ·exact ih y h1
 |put ht _ ih=>
  intro y hy
  rcases List.mem_cons.1 hy with rfl |h1
  ·exact ht
  ·exact ih y h1
 |drop _ _ ih=>exact ih
 |swap _ hu _ _ _ ih=>
  intro y hy
  rcases List.mem_cons.1 hy with rfl |h1
  ·exact hu
  ·exact ih y h1
theorem inB {K:Act->World->Prop}{Q:Exit->Act->World->Prop}{a:Act} (h:Exit.then K Q Exit.normal a w):Exit.inBlock i (Exit.then K Q) Exit.normal a w:=h
theorem Mz39 {P:Prop} (h:P:=by
  obtain⟨ad,cap,e,h1,h2⟩:=h;injection e with e1 e2 e3
  subst e1;subst e3;have hl:(E.take i).length=i:=by rw[List.length_take];omega
  refine⟨a,k,by rw[hl],by omega,fun h0=>?_⟩;obtain⟨g,h3,h4,h5⟩:=h2 (by omega);exact⟨g,h3,h4,fun q e hq=>h5 q e (eZ hq)⟩):P:=h
theorem rV {m:Mk} (h:KM w B (.slice a n k) m E) (hi:i<=E.length):KM w B (.slice a i k) m (E.take i):=by
 exact Mz39
theorem pI  (h:LK w B (.slice a n k) E) (hi:i<=E.length):LK w B (.slice a i k) (E.take i):=by
 exact Mz39
theorem vG {m:Mk}{e:EdP} (h:KM w B (.slice a n k) m E) (hi:E[i]?=some e):∃g,a=some (af g 0)/\g<B/\w.cell? (af g (i*4))=some (ab e.loc)/\w.cell? (af g (i*4+1))=some (ab e.kind)/\w.cell? (af g (i*4+3))=some (.string (wdM m e.new)):=by
 obtain⟨ad,cap,e1,h1,h2⟩:=h;injection e1 with e1 e2 e3
 subst e1;have hl:=(gS_.1 hi).1;obtain⟨g,h3,h4,h5⟩:=h2 (by omega);obtain⟨q0,q1,q2,q3⟩:=h5 i e hi;exact⟨g,h3,h4,q0,q1,q3⟩
theorem Mz38 {P:Prop} (h:P:=by
  refine tL ?_;refine tB 25 hH ?_;refine tL ?_;refine tB 26 hH ?_;refine tL ?_;refine wpAnyH_take (i:=27) (v:=undef) rfl y1Z y1Z y1Z (fun _ _ _ h=>h) (Or.inr ⟨by rfl,rfl⟩) hH ?_;refine tL ?_;refine wpAnyH_take (i:=28) (v:=undef) rfl y1Z y1Z y1Z (fun _ _ _ h=>h) (Or.inr ⟨by rfl,rfl⟩) hH ?_;refine tL ?_;refine tB 29 hH ?_;refine tL ?_;refine tB 30 hH ?_;refine tL ?_;refine wpAnyH_done y1Z ?_ _;clear hH y0 y1 y3
  go_wp2_with fail
  go_roundw
  case rel=>exact⟨t+1,by omega,by go_num,hid (by first |exact HB13U.out |exact HB13U.out.drew)⟩
  case measure=>simp[intOf];omega):P:=h
theorem mR (v1 v2:Value) (w:World) (hG:DS w) (hT:TabAt 0 Lib.deBruijn32tab w) (h1:KT w v1) (h2:KT w v2):
  Calls Tryz.prog 3 #[v1,v2] w fun e w'=>e=.returned (.bool true)/\Below w.heap.size w w':=by
 have htl:0<w.heap.size:=World.block_lt_of_cell? _ _ (hT 0 (by decide));have HGl:Hid (∀W,Below w.heap.size w W->DS W/\TabAt 0 Lib.deBruijn32tab W):=hid fun W hb=>⟨hG.below hb hG.size,TabAt.below hT hb htl⟩
 have HV2:Hid (∀W,Below w.heap.size w W->KT W v2):=hid fun W hb=>h2.below hb
 have HB:=hid (mK v1 w h1);obtain⟨iS,hiS,hzS0,hzS1,hzS2⟩:=info_parts Tryz.infoG9;obtain⟨ad1,n1,cap1,rfl,_⟩:=h1;obtain⟨ad2,n2,cap2,rfl,_⟩:=h2;clear hG hT htl
 go_enter Tryz.func3,Tryz.ntmps3
 go_upto_region 2 with(go_at_call 4;refine HB.out.mono ?_;rintro e w1 ⟨b,m,rfl,hg,hM,hb1⟩;have HGd:=hid hg;have HM:=hid hM;have HB1:=hid hb1;clear hg hM hb1 HB)
 obtain⟨s,hs⟩:=qE (DA m);have HT1:Hid (Calls Tryz.prog 6 #[ac b] w1 fun e w'=>e=.returned (.string s)/\Below w1.heap.size w1 w'):=hid (by rw[<-hs];exact r9 m HGd.out w1 b HM.out);have HCo:Hid (∀V,Below w1.heap.size w1 V->Calls Tryz.prog 5 #[.string s] V fun e w'=>∃(gp:Nat) (T:Tab),e=.returned (.tuple #[ac gp,ab 0])/\LU T w' gp/\PmT m T/\Below w1.heap.size w1 w'):=hid fun V hb1=>by
  have hb:=HB1.out.trans (hb1.mono HB1.out.size);rw[<-hs];refine(aW HGd.out V (HGl.out V hb).1 (HGl.out V hb).2).mono ?_;rintro e w' ⟨gp,T,h1,h2,h3,h4,h5,h6,h7⟩;exact⟨gp,T,h1,h2,⟨h3,h4,h5,h6⟩,hb1.trans (h7.mono hb1.size)⟩
 clear hs
 go_upto_region 5 with(first
  | (go_at_call 6;refine HT1.out.mono ?_;rintro e w2 ⟨rfl,hb2⟩;have HB2:Hid (Below w1.heap.size w1 w2):=hid hb2;clear hb2 HT1)
  | (go_at_call 5;refine(HCo.out _ HB2.out).mono ?_;rintro e w5 ⟨gp,T,rfl,hp,ht,hb5⟩;have HP5:=hid (And.intro hp ht);have HB6:Hid (Below w1.heap.size w1 w5):=hid hb5;clear hb5 hp ht HB2))
 have HW5:Hid (Below w.heap.size w w5):=hid (HB1.out.trans (HB6.out.mono HB1.out.size));have HRo:=hid (uE HGd.out w5 b _ ((HM.out.below HB6.out).up HB6.out.size) (HV2.out w5 HW5.out))
 go_upto_region 6 with(go_at_call 7;refine HRo.out.mono ?_;rintro e w6 ⟨l,rv,rfl,hlt,hl7,hrv,hb6⟩;obtain⟨arv,crv,hrv0⟩:=BI hrv;have H6:=hid (And.intro hlt (And.intro hl7 (And.intro hrv hb6)));clear hlt hl7 hrv hb6 HRo)
 subst hrv0;rw[lM]at H6;have HW6:Hid (Below w5.heap.size w5 w6):=hid H6.out.2.2.2;have HRow:Hid (∀V,Below w6.heap.size w6 V->RwS V V.heap.size (.slice arv l.length crv) (l.map A7)):=hid fun V hb=>((VZ H6.out.2.2.1 (lR_ _)).below hb).mono hb.size
 obtain⟨nl,hnl⟩:=qE (l.length);have hl7:=H6.out.2.1
 try rw[lM]
 rw[hnl]at hl7 HRow
 try rw[hnl]
 have HNl:Hid (l.length=nl):=hid hnl;have HMd:Hid (Calls Tryz.prog 8 #[ac gp,.slice arv nl crv] w6 fun e w'=>(∃a1 k1 a2 k2 a3 k3 a4 k4 a5 k5 E b' c S,e=.returned (.tuple #[.agg #[.slice a1 E.length k1,.slice a2 E.length k2,ab (c:Nat),.slice a3 b'.length k3,.slice a4 S.length k4,.slice a5 E.length k5],ab 0])/\wJ m w' w6.heap.size l E b' c S (.slice a1 E.length k1) (.slice a2 E.length k2) (.slice a3 b'.length k3) (.slice a4 S.length k4)/\∃xs X,M9 T w' w6.heap.size l E b' c S (.slice a1 E.length k1) (.slice a2 E.length k2) (.slice a3 b'.length k3) (.slice a4 S.length k4) (.slice a5 E.length k5) xs X)/\Below w6.heap.size w6 w'):=hid ((lQ HGd.out (HP5.out.1.below HW6.out) HP5.out.2 (HGl.out w6 (HW5.out.trans (HW6.out.mono HW5.out.size))).2 H6.out.1 (HRow.out w6 (Below.refl _ _)) (by omega)).mono (by
   rintro e w' ⟨hb',⟨h,_⟩ | ⟨_,E,b',c,S2,ve,vc,vr,vt,vx,xs,X,h3,hM,hV⟩⟩
   ·omega
   ·obtain⟨a1,k1,rfl,_⟩:=hM.ed
    obtain⟨a2,k2,rfl,_⟩:=hM.co;obtain⟨a3,k3,h5⟩:=BI hM.wd;rw[lM]at h5;subst h5;obtain⟨a4,k4,rfl⟩:=BI hM.nd;obtain⟨a5,k5,h6⟩:=BI hV.xr;rw[hV.xl.1]at h6;subst h6;exact⟨⟨a1,k1,a2,k2,a3,k3,a4,k4,a5,k5,E,b',c,S2,h3,hM,xs,X,hV⟩,hb'⟩))
 clear hnl
 go_upto_region 7 with(go_at_call 8;refine HMd.out.mono ?_;rintro e w8 ⟨⟨a1,k1,a2,k2,a3,k3,a4,k4,a5,k5,E,b',c,S,rfl,h8,xs,X,hto⟩,hb8⟩;have HTo:=hid hto;have HB8:Hid (Below w6.heap.size w6 w8):=hid hb8;have H8:=hid h8;clear hb8 h8 hto HMd)
 obtain⟨xb,hxb⟩:=qE (w8.heap.size);obtain⟨nE,hnE⟩:=qE (E.length);obtain⟨nb,hnb⟩:=qE (b'.length);obtain⟨nS,hnS⟩:=qE (S.length);rw[hnE,hnb,hnS]at H8 HTo
 try rw[hnE]
 try rw[hnb]
 try rw[hnS]
 obtain⟨W9,hW9⟩:=qE (w8.alloc (.cells #[.slice a1 nE k1,.slice a2 nE k2,ab c,.slice a3 nb k3,.slice a4 nS k4,.slice a5 nE k5] 36));have hX:W9.heap[xb]?=some (.cells #[.slice a1 nE k1,.slice a2 nE k2,ab c,.slice a3 nb k3,.slice a4 nS k4,.slice a5 nE k5] 36 (0,0)):=by rw[<-hW9,<-hxb];exact World.alloc_heap_new w8 _
 have hB9:Below w8.heap.size w8 W9:=by rw[<-hW9];exact bal (Below.refl _ _)
 rw[hW9,hxb];have HB9:Hid (Below w6.heap.size w6 W9):=hid (HB8.out.trans (hB9.mono HB8.out.size));have HX:=hid hX;have hlen:=H8.out.run.len2 (IQ HGd.out) H6.out.1;have hc9:=H8.out.c9;have hbn:nb<=10000/\nE<=9000:=by
  have h1:=hlen.1;have h2:=hlen.2;have:=HNl.out;omega
 have hSn:nS<=20000:=by
  have h1:=(uG (JE HGd.out) H8.out.tree).1;omega
 have HMk:Hid (∀V,Below w6.heap.size w6 V->MkV V V.heap.size b m):=hid fun V hb=>(HM.out.below (HB6.out.trans ((HW6.out.trans (hb.mono HW6.out.size)).mono HB6.out.size))).up (HB6.out.trans ((HW6.out.trans (hb.mono HW6.out.size)).mono HB6.out.size)).size
 have hEd:KM W9 w8.heap.size (.slice a1 nE k1) m E:=H8.out.ed.below hB9;have hCo:LK W9 w8.heap.size (.slice a2 nE k2) E:=H8.out.co.below hB9;have HEd:Hid (KM W9 W9.heap.size (.slice a1 nE k1) m E):=hid (hEd.mono hB9.size);have HCos:Hid (LK W9 W9.heap.size (.slice a2 nE k2) E):=hid (hCo.mono hB9.size);have x0:W9.cell? (af xb 0)=some (.slice a1 nE k1):=(A0 hX).trans rfl;have x1:W9.cell? (af xb 1)=some (.slice a2 nE k2):=(A0 hX).trans rfl;have x5:W9.cell? (af xb 5)=some (.slice a5 nE k5):=(A0 hX).trans rfl;have hxl:xb<W9.heap.size:=lt_of_block hX;have HLn:Hid (E.length=nE/\b'.length=nb/\S.length=nS):=hid ⟨hnE,hnb,hnS⟩;have HTo9:Hid (∀(u:Value) (L:List ByteArray),DR w8 w6.heap.size u L->DR W9 w6.heap.size u L):=hid fun u L h=>Y3 h hB9
 clear hX hW9 hxb hnE hnb hnS hlen hEd hCo;have HB9b:=hid hB9;clear hB9;have hee:((nE:Int)==(nE:Int))=true:=by simp
 go_wp2
 go_loopw [11] (fun z wr=>∃i:Nat,i<=nE/\z=ab i/\Hid (Below W9.heap.size W9 wr)) (fun z _=>nE - (intOf z).toNat)
 case atStart=>exact⟨0,Nat.zero_le _,rfl,hid y28Z⟩
 case round=>
  clear x0 x1 x5;obtain⟨i,hi,rfl,hbr⟩:=hrel;obtain⟨W,rfl⟩:=qF (wr);have hX9:=(hbr.out.block xb hxl).trans HX.out;have x0:W.cell? (af xb 0)=some (.slice a1 nE k1):=(A0 hX9).trans rfl;have x1:W.cell? (af xb 1)=some (.slice a2 nE k2):=(A0 hX9).trans rfl;have x5:W.cell? (af xb 5)=some (.slice a5 nE k5):=(A0 hX9).trans rfl
  by_cases hlt:i<nE
  ·obtain⟨ed,hed⟩:∃e,E[i]?=some e:=⟨_,gE (by rw[HLn.out.1];exact hlt)⟩
   obtain⟨b1,c1,u,L,hrun,hloc,hc1,hb1l,hu,hL,hps,hou,hnew⟩:=wI HGd.out HP5.out.1.ok HP5.out.2 HTo.out hed;have hii:((i:Int)< (nE:Int)):=by omega
   have hk1:nE<=k1/\nE<=k2:=by
    obtain⟨_,_,e1,h1,_⟩:=HEd.out;injection e1 with _ _ e1
    obtain⟨_,_,e2,h2,_⟩:=HCos.out;injection e2 with _ _ e2
    have:=HLn.out.1;omega
   have hik1:(i:Int)<=(k1:Int):=by omega
   have hik2:(i:Int)<=(k2:Int):=by omega
   have hWs:W9.heap.size<=W.heap.size:=hbr.out.size;have hxw:xb<W.heap.size:=by omega
   have HBW:Hid (Below w6.heap.size w6 W):=hid (HB9.out.trans (hbr.out.mono HB9.out.size));obtain⟨n6,hn6⟩:=qE (b1.length+(nl - ed.loc));have HAp:Hid (Calls Tryz.prog 9 #[ac b,.slice arv nl crv,.slice a1 i k1,.slice a2 i k2] W.drew fun e w'=>(∃a6 k6,e=.returned (.tuple #[.slice a6 n6 k6,ab c1,.bool true])/\DR w' W.heap.size (.slice a6 n6 k6) ((b1++l.drop ed.loc).map A7))/\Below W.heap.size W w'):=hid (by
    have hq:Below W.heap.size W W.drew:=(Below.refl _ _).drew;have hE:=HLn.out.1;have hi2:i<=E.length:=by omega
    refine(eI HGd.out W.drew b _ _ _ l (E.take i) ed.loc b1 c1 ((HMk.out W HBW.out).below hq) H6.out.1 ((HRow.out W HBW.out).below hq) (by have:=HNl.out;omega) (by have:=HLn.out.2.1;omega) (by omega) (by rw[List.length_take];omega) (rV (((HEd.out.below hbr.out).mono hWs).below hq) hi2) (pI (((HCos.out.below hbr.out).mono hWs).below hq) hi2) hrun hloc).mono ?_;rintro e w' ⟨rv,h1,h2,h3⟩;obtain⟨a6,k6,h4⟩:=BI h2;rw[lM,lA,List.length_drop,HNl.out,hn6]at h4;subst h4;exact⟨⟨a6,k6,h1,h2⟩,hq.trans h3⟩)
   go_upto_region 12 with fail
   refine wp_region_held_drew (S:=fun w'=>w'.cell? (af xb 0)=some (.slice a1 nE k1)/\w'.cell? (af xb 1)=some (.slice a2 nE k2)) y1Z ⟨x0,x1⟩ (fun hH=>?_);refine tB 0 hH ?_;refine tL ?_;refine tB 1 hH ?_;refine tL ?_;refine tB 2 hH ?_;refine tL ?_;refine tB 3 hH ?_;refine tL ?_;refine tB 4 hH ?_;refine tL ?_;refine tB 5 hH ?_;refine tL ?_;refine tB 6 hH ?_;refine tL ?_;refine tB 7 hH ?_;refine tL ?_;refine tB 8 hH ?_;refine tL ?_;refine tB 9 hH ?_;refine tL ?_;refine tS 10 fun K hK=>?_
   refine tM ?_
   go_simp;refine HAp.out.mono ?_;rintro e w13 ⟨⟨a6,k6,rfl,ho6⟩,hb13⟩;try dsimp only
   refine hK.out _ _ ?_ fun hH=>?_
   ·exact⟨(hb13.cell (by exact hxw)).trans x0,(hb13.cell (by exact hxw)).trans x1⟩
   clear hK K;refine tL ?_;refine tB 11 hH ?_;refine tL ?_;refine tB 12 hH ?_;refine tL ?_;refine tB 13 hH ?_;refine tL ?_;refine tB 14 hH ?_;refine tL ?_;refine tB 15 hH ?_;refine tL ?_;refine tB 16 hH ?_;refine tL ?_;refine tB 17 hH ?_;refine tL ?_;refine wpAnyH_done y1Z ?_ _;clear hH x0 x1 x5;have HB13:Hid (Below W.heap.size W w13):=hid hb13;have HO6:=hid ho6;clear hb13 ho6 HAp hX9;obtain⟨g1,hg1,hgB,q0,q1,q3⟩:=vG HEd.out hed;have HG1:Hid (a1=some (af g1 0)/\g1<W9.heap.size):=hid ⟨hg1,hgB⟩;have hb9:Below W9.heap.size W9 w13:=hbr.out.trans (HB13.out.mono hWs);have c0:w13.cell? (af g1 (i*4))=some (ab ed.loc):=(hb9.cell (by exact hgB)).trans q0;have hX13:=(hb9.block xb hxl).trans HX.out;have z0:w13.cell? (af xb 0)=some (.slice a1 nE k1):=(A0 hX13).trans rfl;rw[hg1]at z0;have HQ13:Hid (W9.cell? (af g1 (i*4+1))=some (ab ed.kind)/\W9.cell? (af g1 (i*4+3))=some (.string (wdM m ed.new))):=hid ⟨q1,q3⟩
   clear q0 q1 q3 hX13 hgB hg1;have HB9w:=hid hb9;clear hb9;have hnl:=HNl.out;obtain⟨lc,hlc⟩:=qE (ed.loc);rw[hlc]at c0;obtain⟨tl,htl⟩:=qE (nl - lc);obtain⟨n1,hn1⟩:=qE (b1.length);have hle:lc+tl=nl/\n6=n1+tl:=by omega
   have HLe0:Hid (b1.length=n1/\ed.loc=lc/\lc+tl=nl/\n6=n1+tl):=hid ⟨hn1,hlc,hle⟩;have hb1n:n1<=10000:=by have:=HLn.out.2.1;omega
   have w1:IntKind.i64.wrap ((nl:Int) - (lc:Int))=(tl:Int):=by rw[w64];omega
   have w2:IntKind.i64.wrap ((n6:Int) - (tl:Int))=(n1:Int):=by rw[w64];omega
   have t0:¬((tl:Int)<0):=by omega
   have t1:¬((n6:Int)< (tl:Int)):=by omega
   clear hn6 hlc htl hn1 hle hnl;have hk6:n6<=k6:=by
    obtain⟨ad,cap,e1,h1⟩:=DE HO6.out;injection e1 with _ e1 e2
    have:=HLe0.out;omega
   have hnk:((n1:Int)<=(k6:Int)):=by have:=HLe0.out.2.2.2;omega
   by_cases h40:40<=n1
   ·have h40i:(40:Int)<=(n1:Int):=by omega
    go_wp2_with fail
    go_roundw
    case rel=>exact⟨i+1,by omega,by go_num,hid (hbr.out.trans (HB13.out.mono hWs))⟩
    case measure=>simp[intOf];omega
   ·have h40i:¬((40:Int)<=(n1:Int)):=by omega
    have hb613:Below w6.heap.size w6 w13:=HBW.out.trans (HB13.out.mono HBW.out.size);obtain⟨gR,cR,gP,cP,gD,cD,gS,cS,hC⟩:=VL (HMk.out w13 hb613);have HC:=hid hC;clear hC;obtain⟨nT,hnT⟩:=qE (m.puts.length);have HNT:Hid (m.puts.length=nT):=hid hnT;clear hnT
    go_upto_region 18 with fail
    clear z0 c0;go_wp2
    go_loopw [17] (fun z wr=>∃t:Nat,t<=nT/\z=ab t/\Hid (Below w13.heap.size w13 wr)) (fun z _=>nT - (intOf z).toNat)
    case atStart=>exact⟨0,Nat.zero_le _,rfl,hid (Below.refl _ _)⟩
    case round=>
     obtain⟨t,ht,rfl,hbt⟩:=hrel;obtain⟨V,rfl⟩:=qF (wr);have m1:=(HC.out V hbt.out).c1;rw[HNT.out]at m1
     by_cases hlt2:t<nT
     ·have hnt:((t:Int)< (nT:Int)):=by omega
      have htp:t<m.puts.length:=by rw[HNT.out];exact hlt2
      have hnT6:nT<=6:=by have:=HGd.out.t6;rw[HNT.out]at this;exact this
      have HLe:Hid (∀W,Calls Tryz.prog 10 #[ab t] W fun e w'=>e=.returned (.string (A7 t))/\W=w'):=hid fun W=>GD t (by omega) W
      have hrw:=VZ HO6.out (lR_ _);obtain⟨_,_,hrwe,_,hlc⟩:=hrw;injection hrwe with hr1 hr2 hr3
      clear hr2;subst hr1;subst hr3;have hl6:(b1++l.drop ed.loc).length=n6:=by
       rw[lA,List.length_drop,HNl.out,HLe0.out.1,HLe0.out.2.1];have:=HLe0.out.2.2;omega
      obtain⟨b0,hb0⟩:=qE (V.heap.size);obtain⟨hno1,hlen1,hnews1,hone1⟩:=NA (w:=w13) (V:=V) (l:=b1++l.drop ed.loc) (adl:=a6) (AD:=a6) (nl:=n6) (cpl:=k6) (here:=0) (loc:=n1) hl6 hk6 (Nat.zero_le _) (by have:=HLe0.out.2.2.2;omega) hbt.out (fun h0=>hlc (by rw[lM,hl6];exact h0)) (by split;rfl;cases a6 <;> simp[Addr.add]);have hb1t:(b1++l.drop ed.loc).take n1=b1:=by rw[<-HLe0.out.1];simp
      rw[Nat.sub_zero]at hno1;rw[Nat.sub_zero,List.drop_zero,hb1t]at hlen1 hnews1 hone1;obtain⟨P1,hP1⟩:=qE ((b1.map A7).map Value.string);rw[hP1]at hlen1 hnews1 hone1;have HP1:=hid (And.intro hno1 (And.intro hlen1 (And.intro hnews1 (And.intro hone1 hP1))));clear hno1 hlen1 hnews1 hone1 hP1 hlc hb1t hl6
      go_wp2_with (at_builtin;refine FE rfl _ _ 30 rfl b0 9 iS (.string ByteArray.empty) 1 16 Tryz.underlying30 hiS hzS0 hzS1 hzS2 rfl (by decide) _ _ _ rfl (World.ownsRow_nil V b0 9 1) a6 n1 k6 P1 rfl HP1.out.1 HP1.out.2.1 HP1.out.2.2.1 HP1.out.2.2.2.1 ?h63 ?hby ?hba ?_)
      case h63=>unfold maxLen;omega
      case hby=>omega
      case hba=>omega
      intro v22 W22 hown22 hgrow22;obtain⟨a22,c22,rfl⟩:=BI hown22;have HB22:Hid (Below b0 V W22):=hid ((Below.refl b0 V).grown hgrow22 (by omega) (fun j hj=>by cases hj));have H22:Hid (W22.ownsRow b0 9 1 (.slice a22 n1 c22) n1 P1):=hid hown22;clear hown22 hgrow22;have hW22:b0<=W22.heap.size:=by have:=HB22.out.size;omega
      obtain⟨n2,hn2⟩:=qE (n1+1)
      go_wp2_with (first
       | (go_at_call 10;refine(HLe.out _).mono ?_;rintro e w' ⟨rfl,rfl⟩)
       | (at_builtin;refine wpList_append_lies _ rfl _ _ 30 rfl b0 9 iS (.string ByteArray.empty) 1 16 Tryz.underlying30 hiS hzS0 hzS1 hzS2 rfl (by decide) _ _ _ rfl (H22.out.alloc _) (af W22.heap.size 0) 1 1 [.string (A7 t)] rfl rfl (World.news_of_block (heap_alloc_new W22 _)) ?c2 (lR_ 1) ?c3 ?c4 ?c5 _ rfl ?_))
      case c2=>intro u hu;simp at hu;subst hu;rfl
      case c3=>unfold maxLen;omega
      case c4=>omega
      case c5=>simp;omega
      intro g23 cap23 W23 hown23 hgrow23 hat23 hlt23;have HB23:Hid (Below b0 V W23):=hid ((HB22.out.alloc hW22 (.cells #[.string (A7 t)] 9)).grown hgrow23 y2Z (fun j hj=>(H22.out.lt j hj).1))
      try rw[hn2]at hown23
      have H23:Hid (W23.ownsRow b0 9 1 (ae g23 n2 cap23) n2 (P1++ [.string (A7 t)])):=hid hown23
      try rw[hn2]
      clear hown23 hgrow23 hat23 hlt23 hW22;have HN2:Hid (n1+1=n2):=hid hn2;clear hn2;have HMr:DR W23 b0 (ae g23 n2 cap23) ((b1++ [t]).map A7):=by
       have h:=H23.out;rw[<-HP1.out.2.2.2.2]at h;have e1:((b1++ [t]).map A7).length=n2:=by rw[lM,lA,HLe0.out.1,List.length_singleton,HN2.out]
       unfold DR EW;rw[e1,List.map_append,List.map_append];exact h
      have hb523:Below w5.heap.size w5 W23:=HW6.out.trans ((hb613.trans ((hbt.out.trans ((by rw[hb0];exact HB23.out:Below V.heap.size V W23).mono hbt.out.size)).mono hb613.size)).mono HW6.out.size);have HRd:Hid (Calls Tryz.prog 11 #[ac gp,ae g23 n2 cap23] W23 fun e w'=>(∃(n:Nat) (a:Option Addr) (k:Nat) (st:Int),e=.returned (.tuple #[.slice a n k,ab st,ab 0])/\(0<n\/st=(n2:Int)↔(BB T.rul L t).isSome=true))/\Below W23.heap.size W23 w'):=hid (by
       have h:=kJ HGd.out (HP5.out.1.below hb523) HP5.out.2 (fun x hx=>hrun.toks H6.out.1 x hx) htp hL (VZ HMr (lR_ _)) (by have:=HLe0.out.1;omega);rw[HLe0.out.1,HN2.out]at h;exact h)
      obtain⟨G,hG⟩:=qE (decide ((BB T.rul L t).isSome=true));have HG:=hid hG;have HB23b:Hid (Below w13.heap.size w13 W23):=hid (hbt.out.trans ((by rw[hb0];exact HB23.out:Below V.heap.size V W23).mono hbt.out.size));clear HMr hb523 H22 H23 HB22 HB23 hG m1
      go_upto_region 25 with(go_at_call 11;refine HRd.out.mono ?_;rintro e w24 ⟨⟨tn,ta,tk,st,rfl,hgo⟩,hb24⟩;have HGo:=hid hgo;have HB24:Hid (Below W23.heap.size W23 w24):=hid hb24;clear hgo hb24 HRd)
      go_cut [22] (fun s22 wx=>s22=.bool G/\w24=wx)
      case first=>
       by_cases h0:0<tn
       ·have h0i:((tn:Int)>0):=by omega
        have hGt:G=true:=by rw[<-HG.out];exact decide_eq_true (HGo.out.1 (.inl h0))
        go_wp2_with fail
        go_meet
        exact⟨by rw[hGt],rfl⟩
       ·have h0i:¬((tn:Int)>0):=by omega
        have hst:(st==(n2:Int))=G:=by
         rw[<-HG.out]
         by_cases hs:st=(n2:Int)
         ·rw[decide_eq_true (HGo.out.1 (.inr hs))];simpa using hs
         ·rw[decide_eq_false (fun h=>(HGo.out.2 h).elim h0 hs)];simpa using hs
        go_wp2_with fail
        go_meet
        exact⟨rfl,rfl⟩
      case rest=>
       obtain⟨rfl,rfl⟩:=hcut;obtain⟨au,ku,hu0⟩:=BI hou;subst hu0;obtain⟨XW,hXW⟩:=qE (IZ T L);have HSd:Hid ((XW.any fun x=>x.toList==(A7 t).toList)=G):=hid (by
        rw[<-HG.out,<-hXW,Bool.eq_iff_iff,List.any_eq_true,decide_eq_true_iff,<-pT HGd.out HP5.out.2 HP5.out.1.ok hps htp];refine⟨fun⟨x,h1,h2⟩=>?_,fun h=>⟨_,h,by simp⟩⟩;rw[QJ]at h2;rw[<-of_decide_eq_true h2];exact h1)
       have hou9:=HTo9.out _ _ hou;unfold DR at hou9;rw[hXW]at hou9 hu;obtain⟨ne,hne⟩:=qE (XW.length);have hne21:ne<=21:=by rw[<-hne,<-hXW];unfold IZ G6;rw[lM];exact VS _
       rw[hne]at hou9 hu;have HU:Hid (W9.ownsRow w6.heap.size 9 1 (.slice au ne ku) ne (EW XW)):=hid hou9;have HB924:Hid (Below W9.heap.size W9 w24):=hid (HB9w.out.trans ((HB23b.out.trans (HB24.out.mono HB23b.out.size)).mono HB9w.out.size));have hxr:=Y3 HTo.out.xr HB9b.out;have hxl5:=HTo.out.xl.1;rw[HLn.out.1]at hxl5;rw[hxl5]at hxr;obtain⟨g5,c5,h5,_,hg5,hk5⟩:=AX hxr (by omega);injection h5 with e1 e2 e3
       subst e1;subst e3;have hix:i<nE*1:=by omega
       have HE5:Hid (g5<W9.heap.size/\W9.cell? (af g5 i)=some (.slice au ne ku)):=hid ⟨hg5,(World.ownsRow.cellAt hxr i hix).trans hu⟩;have hnk5:nE<=k5:=by omega
       have HNe:Hid (XW.length=ne):=hid hne;clear hou hou9 hu hXW hne hxr hxl5 e2 hg5 hk5 hix HGl HV2 hiS hzS0 hzS1 hzS2 HRow HCos HTo9 HO6 HP1 HN2 HC HMk HNl HBW HB13 HB8;go_wp2
       go_loopw [23,24] (fun s z wr=>∃(k:Nat) (sd:Bool),k<=ne/\s=.bool sd/\z=ab k/\Hid (sd=(XW.take k).any fun x=>x.toList==(A7 t).toList)/\Hid (Below w24.heap.size w24 wr)) (fun _ z _=>ne - (intOf z).toNat)
       case atStart=>exact⟨0,false,Nat.zero_le _,rfl,rfl,hid (by simp),hid (Below.refl _ _)⟩
       case round=>
        obtain⟨k,sd,hk,rfl,rfl,hsd,hbk⟩:=hrel;obtain⟨U,rfl⟩:=qF (wr);have hb9U:Below W9.heap.size W9 U:=HB924.out.trans (hbk.out.mono HB924.out.size);have hXU:=(hb9U.block xb hxl).trans HX.out;have y5:U.cell? (af xb 5)=some (ae g5 nE k5):=(A0 hXU).trans rfl;have yi:U.cell? (af g5 i)=some (.slice au ne ku):=(hb9U.cell (by exact HE5.out.1)).trans HE5.out.2;have HB9U:=hid hb9U;have HXU:=hid hXU;clear hb9U hXU
        by_cases hlk:k<ne
        ·obtain⟨xk,hxk⟩:∃x,XW[k]?=some x:=⟨_,gE (by rw[HNe.out];exact hlk)⟩
         have hki:((k:Int)< (ne:Int)):=by omega
         obtain⟨gu,cu,h7,_,hgu,hku⟩:=AX HU.out (by omega);injection h7 with e1 e2 e3
         subst e1;subst e3;have yk:U.cell? (af gu k)=some (.string xk):=by
          refine(HB9U.out.cell (by exact hgu)).trans ((World.ownsRow.cellAt HU.out k (by omega)).trans ?_);unfold EW;rw[gM,hxk];rfl
         have HXk:=hid hxk;have hnku:ne<=ku:=by have:=HNe.out;omega
         clear hgu hku e2 hxk
         go_upto_region 30 with fail
         have hxbU:xb<U.heap.size:=by have:=HB9U.out.size;omega
         have hg5U:g5<U.heap.size:=by have:=HB9U.out.size;have:=HE5.out.1;omega
         cases sd
         case true=>
          refine wp_region_held_drew (S:=fun w'=>w'.cell? (af xb 5)=some (ae g5 nE k5)) y1Z y5 (fun hH=>?_);refine tB 0 hH ?_;refine tL ?_;refine tB 1 hH ?_;refine tL ?_;refine wpAnyH_take (i:=2) (v:=undef) rfl y1Z y1Z y1Z (fun _ _ _ h=>h) (Or.inr ⟨by rfl,rfl⟩) hH ?_;refine tL ?_;refine wpAnyH_take (i:=3) (v:=undef) rfl y1Z y1Z y1Z (fun _ _ _ h=>h) (Or.inr ⟨by rfl,rfl⟩) hH ?_;refine tL ?_;refine wpAnyH_take (i:=4) (v:=undef) rfl y1Z y1Z y1Z (fun _ _ _ h=>h) (Or.inr ⟨by rfl,rfl⟩) hH ?_;refine tL ?_;refine wpAnyH_take (i:=5) (v:=undef) rfl y1Z y1Z y1Z (fun _ _ _ h=>h) (Or.inr ⟨by rfl,rfl⟩) hH ?_;refine tL ?_;refine wpAnyH_take (i:=6) (v:=undef) rfl y1Z y1Z y1Z (fun _ _ _ h=>h) (Or.inr ⟨by rfl,rfl⟩) hH ?_
          refine tL ?_;refine wpAnyH_take (i:=7) (v:=undef) rfl y1Z y1Z y1Z (fun _ _ _ h=>h) (Or.inr ⟨by rfl,rfl⟩) hH ?_;refine tL ?_;refine wpAnyH_take (i:=8) (v:=undef) rfl y1Z y1Z y1Z (fun _ _ _ h=>h) (Or.inr ⟨by rfl,rfl⟩) hH ?_;refine tL ?_;refine wpAnyH_take (i:=9) (v:=undef) rfl y1Z y1Z y1Z (fun _ _ _ h=>h) (Or.inr ⟨by rfl,rfl⟩) hH ?_;refine tL ?_;refine wpAnyH_take (i:=10) (v:=undef) rfl y1Z y1Z y1Z (fun _ _ _ h=>h) (Or.inr ⟨by rfl,rfl⟩) hH ?_;refine tL ?_;refine wpAnyH_take (i:=11) (v:=undef) rfl y1Z y1Z y1Z (fun _ _ _ h=>h) (Or.inr ⟨by rfl,rfl⟩) hH ?_;refine tL ?_;refine wpAnyH_take (i:=12) (v:=undef) rfl y1Z y1Z y1Z (fun _ _ _ h=>h) (Or.inr ⟨by rfl,rfl⟩) hH ?_;refine tL ?_
          refine tB 13 hH ?_;refine tL ?_;refine tB 14 hH ?_;refine tL ?_;refine wpAnyH_done y1Z ?_ _;clear hH y5 yi yk;refine inB ?_;go_wp2
          go_roundw
          case rel=>
           refine⟨k+1,true,by omega,rfl,by go_num,hid ?_,hid (hbk.out.trans y28Z)⟩;have h1:=hsd.out;rw[List.take_add_one,List.any_append,<-h1];rfl
          case measure=>simp[intOf];omega
         case false=>
          refine wp_region_held_drew (S:=fun w'=>w'.cell? (af xb 5)=some (ae g5 nE k5)/\w'.cell? (af g5 i)=some (ae gu ne ku)/\w'.cell? (af gu k)=some (.string xk)) y1Z ⟨y5,yi,yk⟩ (fun hH=>?_);refine tB 0 hH ?_;refine tL ?_;refine tB 1 hH ?_;refine tL ?_;refine tB 2 hH ?_;refine tL ?_;refine tB 3 hH ?_;refine tL ?_;refine tB 4 hH ?_;refine tL ?_;refine tB 5 hH ?_;refine tL ?_;refine tB 6 hH ?_;refine tL ?_;refine tB 7 hH ?_;refine tL ?_;refine tB 8 hH ?_;refine tL ?_;refine tB 9 hH ?_;refine tL ?_;refine tB 10 hH ?_;refine tL ?_;refine tS 11 fun K hK=>?_
          refine tM ?_
          go_simp;refine(HLe.out _).mono ?_;rintro e w' ⟨rfl,rfl⟩;try dsimp only
          refine hK.out _ _ ?_ fun hH=>?_
          ·exact⟨y5,yi,yk⟩
          clear hK K;refine tL ?_;refine tB 12 hH ?_;refine tL ?_;refine tB 13 hH ?_;refine tL ?_;refine tB 14 hH ?_;refine tL ?_;refine wpAnyH_done y1Z ?_ _;clear hH y5 yi yk;refine inB ?_;go_wp2
          go_roundw
          case rel=>
           refine⟨k+1,xk.toList==(A7 t).toList,by omega,rfl,by go_num,hid ?_,hid (hbk.out.trans y28Z)⟩;have h1:=hsd.out;rw[List.take_add_one,List.any_append,<-h1,HXk.out];simp
          case measure=>simp[intOf];omega
        ·have hki:¬((k:Int)< (ne:Int)):=by omega
         have hsG:G=sd:=by rw[hsd.out,List.take_of_length_le (by rw[HNe.out];omega)];exact HSd.out.symm
         subst hsG
         go_upto_region 31 with fail
         have HB13U:Hid (Below w13.heap.size w13 U):=hid (HB23b.out.trans ((HB24.out.trans (hbk.out.mono HB24.out.size)).mono HB23b.out.size));have hxbU:xb<U.heap.size:=by have:=HB9U.out.size;omega
         have hg1U:g1<U.heap.size:=by have:=HB9U.out.size;have:=HG1.out.2;omega
         have hnk1:=hk1.1;have y0:U.cell? (af xb 0)=some (ae g1 nE k1):=by
          have h:U.cell? (af xb 0)=some (.slice a1 nE k1):=(A0 HXU.out).trans rfl;rw[HG1.out.1]at h;exact h
         have y1:U.cell? (af g1 (i*4+1))=some (ab ed.kind):=(HB9U.out.cell (by exact HG1.out.2)).trans HQ13.out.1;have y3:U.cell? (af g1 (i*4+3))=some (.string (wdM m ed.new)):=(HB9U.out.cell (by exact HG1.out.2)).trans HQ13.out.2;have hfit:ed.new<=m.puts.length/\ed.kind<=3:=by
          have h:=HTo.out.run.fit ed (mG hed);have hN:T.N.nT=m.puts.length:=HP5.out.2.nT;rw[<-hN]
          rcases h with⟨h1,_,h2,_⟩ | ⟨h1,_,h2,_⟩ | ⟨h1,_,h2,_⟩
          ·omega
          ·omega
          ·omega
         have HNw:Hid (ed.kind≠2->wdM m ed.new=A7 t->G=true):=hid fun h1 h2=>by
          have h3:=fM HGd.out hfit.1 htp h2;have h4:=hnew h1;rw[h3]at h4;rw[<-HG.out];exact decide_eq_true h4
         obtain⟨kd,hkd⟩:=qE (ed.kind);obtain⟨sw,hsw⟩:=qE (wdM m ed.new);rw[hkd]at y1 HNw;rw[hsw]at y3 HNw;have hkd3:kd<=3:=by omega
         clear hfit hkd hsw y5 yi
         by_cases hk2:kd=2
         ·have hk2i:((kd:Int)==2)=true:=by rw[hk2];rfl
          have hk2j:((kd:Int) !=2)=false:=by rw[hk2];rfl
          have hk2e:((kd:Int)=2):=by omega
          have hGG:(G !=G)=false:=by cases G <;> rfl
          have hGG2:(G==G)=true:=by cases G <;> rfl
          refine wp_region_held_drew (S:=fun w'=>w'.cell? (af xb 0)=some (ae g1 nE k1)/\w'.cell? (af g1 (i*4+1))=some (ab kd)) y1Z ⟨y0,y1⟩ (fun hH=>?_);refine tB 0 hH ?_;refine tL ?_;refine tB 1 hH ?_;refine tL ?_;refine tB 2 hH ?_;refine tL ?_;refine tB 3 hH ?_;refine tL ?_;refine tB 4 hH ?_;refine tL ?_;refine tB 5 hH ?_;refine tL ?_;refine tB 6 hH ?_;refine tL ?_;refine tB 7 hH ?_;refine tL ?_;refine tB 8 hH ?_;refine tL ?_;refine tB 9 hH ?_;refine tL ?_;refine tB 10 hH ?_;refine tL ?_;refine tB 11 hH ?_;refine tL ?_;refine tB 12 hH ?_;refine tL ?_;refine tB 13 hH ?_;refine tL ?_;refine tB 14 hH ?_;refine tL ?_;refine tB 15 hH ?_;refine tL ?_;refine wpAnyH_take (i:=16) (v:=undef) rfl y1Z y1Z y1Z (fun _ _ _ h=>h) (Or.inr ⟨by rfl,rfl⟩) hH ?_;refine tL ?_;refine wpAnyH_take (i:=17) (v:=undef) rfl y1Z y1Z y1Z (fun _ _ _ h=>h) (Or.inr ⟨by rfl,rfl⟩) hH ?_
          refine tL ?_;refine wpAnyH_take (i:=18) (v:=undef) rfl y1Z y1Z y1Z (fun _ _ _ h=>h) (Or.inr ⟨by rfl,rfl⟩) hH ?_;refine tL ?_;refine wpAnyH_take (i:=19) (v:=undef) rfl y1Z y1Z y1Z (fun _ _ _ h=>h) (Or.inr ⟨by rfl,rfl⟩) hH ?_;refine tL ?_;refine wpAnyH_take (i:=20) (v:=undef) rfl y1Z y1Z y1Z (fun _ _ _ h=>h) (Or.inr ⟨by rfl,rfl⟩) hH ?_;refine tL ?_;refine wpAnyH_take (i:=21) (v:=undef) rfl y1Z y1Z y1Z (fun _ _ _ h=>h) (Or.inr ⟨by rfl,rfl⟩) hH ?_;refine tL ?_;refine wpAnyH_take (i:=22) (v:=undef) rfl y1Z y1Z y1Z (fun _ _ _ h=>h) (Or.inr ⟨by rfl,rfl⟩) hH ?_;refine tL ?_;refine wpAnyH_take (i:=23) (v:=undef) rfl y1Z y1Z y1Z (fun _ _ _ h=>h) (Or.inr ⟨by rfl,rfl⟩) hH ?_;refine tL ?_
          refine wpAnyH_take (i:=24) (v:=undef) rfl y1Z y1Z y1Z (fun _ _ _ h=>h) (Or.inr ⟨by rfl,rfl⟩) hH ?_;exact Mz38
         ·have hk2i:((kd:Int)==2)=false:=by rw[beq_eq_false_iff_ne];omega
          have hk2j:((kd:Int) !=2)=true:=by rw[bne,hk2i];rfl
          by_cases hsl:sw=A7 t
          ·have hGt:G=true:=HNw.out hk2 hsl
           subst hGt;have hse:(sw.toList==(A7 t).toList)=true:=by rw[hsl];simp
           clear hsl;refine wp_region_held_drew (S:=fun w'=>w'.cell? (af xb 0)=some (ae g1 nE k1)/\w'.cell? (af g1 (i*4+1))=some (ab kd)/\w'.cell? (af g1 (i*4+3))=some (.string sw)) y1Z ⟨y0,y1,y3⟩ (fun hH=>?_);refine tB 0 hH ?_;refine tL ?_;refine tB 1 hH ?_;refine tL ?_;refine tB 2 hH ?_;refine tL ?_;refine tB 3 hH ?_;refine tL ?_;refine tB 4 hH ?_;refine tL ?_;refine tB 5 hH ?_;refine tL ?_;refine tB 6 hH ?_;refine tL ?_;refine tB 7 hH ?_;refine tL ?_;refine tB 8 hH ?_;refine tL ?_;refine tB 9 hH ?_;refine tL ?_;refine tB 10 hH ?_;refine tL ?_;refine tB 11 hH ?_;refine tL ?_;refine tB 12 hH ?_;refine tL ?_;refine tB 13 hH ?_;refine tL ?_;refine tB 14 hH ?_;refine tL ?_;refine tB 15 hH ?_;refine tL ?_;refine tB 16 hH ?_;refine tL ?_;refine tB 17 hH ?_;refine tL ?_;refine tB 18 hH ?_;refine tL ?_;refine tB 19 hH ?_;refine tL ?_;refine tB 20 hH ?_;refine tL ?_;refine tB 21 hH ?_
           refine tL ?_;refine tB 22 hH ?_;refine tL ?_;refine tS 23 fun K hK=>?_
           refine tM ?_
           go_simp;refine(HLe.out _).mono ?_;rintro e w' ⟨rfl,rfl⟩;try dsimp only
           refine hK.out _ _ ?_ fun hH=>?_
           ·exact⟨y0,y1,y3⟩
           clear hK K;refine tL ?_;refine tB 24 hH ?_;refine tL ?_;refine tB 25 hH ?_;refine tL ?_;refine tB 26 hH ?_;refine tL ?_;refine tB 27 hH ?_;refine tL ?_;refine tB 28 hH ?_;refine tL ?_;refine tB 29 hH ?_;refine tL ?_;refine tB 30 hH ?_;refine tL ?_;refine wpAnyH_done y1Z ?_ _;clear hH y0 y1 y3
           go_wp2_with fail
           go_roundw
           case rel=>exact⟨t+1,by omega,by go_num,hid (by first |exact HB13U.out |exact HB13U.out.drew)⟩
           case measure=>simp[intOf];omega
          ·have hse:(sw.toList==(A7 t).toList)=false:=by rw[QJ];exact decide_eq_false hsl
           clear hsl;have hGG:(G !=G)=false:=by cases G <;> rfl
           have hGG2:(G==G)=true:=by cases G <;> rfl
           refine wp_region_held_drew (S:=fun w'=>w'.cell? (af xb 0)=some (ae g1 nE k1)/\w'.cell? (af g1 (i*4+1))=some (ab kd)/\w'.cell? (af g1 (i*4+3))=some (.string sw)) y1Z ⟨y0,y1,y3⟩ (fun hH=>?_);refine tB 0 hH ?_;refine tL ?_;refine tB 1 hH ?_;refine tL ?_;refine tB 2 hH ?_;refine tL ?_;refine tB 3 hH ?_;refine tL ?_;refine tB 4 hH ?_;refine tL ?_;refine tB 5 hH ?_;refine tL ?_;refine tB 6 hH ?_;refine tL ?_;refine tB 7 hH ?_;refine tL ?_;refine tB 8 hH ?_;refine tL ?_;refine tB 9 hH ?_;refine tL ?_;refine tB 10 hH ?_;refine tL ?_;refine tB 11 hH ?_;refine tL ?_;refine tB 12 hH ?_;refine tL ?_;refine tB 13 hH ?_;refine tL ?_;refine tB 14 hH ?_;refine tL ?_;refine tB 15 hH ?_;refine tL ?_;refine tB 16 hH ?_;refine tL ?_;refine tB 17 hH ?_;refine tL ?_;refine tB 18 hH ?_;refine tL ?_;refine tB 19 hH ?_;refine tL ?_;refine tB 20 hH ?_;refine tL ?_;refine tB 21 hH ?_;refine tL ?_
           refine tB 22 hH ?_;refine tL ?_;refine tS 23 fun K hK=>?_
           refine tM ?_
           go_simp;refine(HLe.out _).mono ?_;rintro e w' ⟨rfl,rfl⟩;try dsimp only
           refine hK.out _ _ ?_ fun hH=>?_
           ·exact⟨y0,y1,y3⟩
           clear hK K;refine tL ?_;refine tB 24 hH ?_;exact Mz38
     ·have hnt:¬((t:Int)< (nT:Int)):=by omega
      go_wp2_with fail
      go_roundw
      case rel=>exact⟨i+1,by omega,by go_num,hid (hbr.out.trans ((HB13.out.trans (hbt.out.mono HB13.out.size)).mono hWs))⟩
      case measure=>simp[intOf];omega
  ·have hni:¬((i:Int)< (nE:Int)):=by omega
   go_wp2;go_ret;exact⟨rfl,HW5.out.trans ((HW6.out.trans ((HB9.out.trans (hbr.out.mono HB9.out.size)).mono HW6.out.size)).mono HW5.out.size)⟩
end Go.Proofs.YtjjggdcnpndgjabGreatDoor
