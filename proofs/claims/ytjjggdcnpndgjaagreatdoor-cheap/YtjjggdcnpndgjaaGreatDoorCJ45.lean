import Derived.Test.YtjjggdcnpndgjaaGreatDoorCJ44
set_option linter.unusedSimpArgs false
set_option maxHeartbeats 16000000
set_option maxRecDepth 100000
namespace Go.Proofs.YtjjggdcnpndgjaaGreatDoor
open Go.RowKit Go.Shelf
variable {B b0 i j n:Nat}{E:List Ab}{L a b:List Nat}{N:NG}{W w:World}{m:Mk}{v:Value}
def Q4 (N:NG) (a b:List Nat) (i:Nat) (L:List Nat) (n:Nat):Prop:=∀k,k<n->Al N (a.take i) (b.take k) (Ar L k)/\Ar L k<=9*(i+k)
theorem gK {v:Nat} (h:Q4 N a b i L n) (hn:n<L.length) (hv:Al N (a.take i) (b.take n) v) (hb:v<=9*(i+n)):Q4 N a b i (L.set n v) (n+1):=by
 intro k hk;rw[XQ]
 by_cases e:k=n
 ·subst e
  simp only[hn,and_self,xZ];exact⟨hv,hb⟩
 ·have:¬(n=k/\n<L.length):=λh=>e h.1.symm
  have h1:=h k (by omega);split
  ·rename_i h2;exact absurd (by omega) e
  ·exact h1
theorem dG {g:Nat}{ok:List Nat} (hb:Below b0 w W) (h:W.ownsRow b0 3 1 (ae g n n) n (KO ok)) (j v:Nat):
  (W.setCell (af g j) (ab (v:Int))).ownsRow b0 3 1 (ae g n n) n (KO (ok.set j v))/\Below b0 w (W.setCell (af g j) (ab (v:Int))):=by
 rw[sV];exact⟨(h.stored j (ab v)).1,hb.setCell (p:=(af g j)) (h.lt g rfl).1 _⟩
theorem GS {g:Nat}{ok:List Nat} (h:W.ownsRow b0 3 1 (ae g n n) n (KO ok)) (hl:ok.length=n)  (hj:j<n):W.cell? (af g j)=some (ab (Ar ok j))/\W.frozen? (af g j)=false:=by
 refine⟨?_,h.frozenAt j⟩;rw[h.cellAt j (by omega)];exact vL (by omega)
theorem YS (W:World) (b0 n:Nat) (hb:b0<=W.heap.size) (hn:n<=1000000):(W.alloc (.cells (madeCells #[ab 0] n) 3)).ownsRow b0 3 1 (ae W.heap.size n n) n (KO (List.replicate n 0)):=by
 have h:=LM W (madeCells (ab 0).cells (n*1)) n 1 3 b0 hb Bg (by rw[vh]);rw[pR,yG]at h;exact h
theorem nI {k:Nat} (h:k<n):Ar (List.replicate n 0) k=0:=by
 unfold Ar;rw[Af,nj,ay h];rfl
theorem IC {l:List Nat}{x:Nat} (h:l[i]?=some x):l.take (i+1)=l.take i++ [x]:=by rw[sr,h];rfl
structure Tn (N:NG) (a b:List Nat) (w W:World) (b0 gc gd n i j:Nat) (L M:List Nat):Prop where
 c:W.ownsRow b0 3 1 (ae gc n n) n (KO L)
 d:W.ownsRow b0 3 1 (ae gd n n) n (KO M)
 ne:gc≠gd
 cl:L.length=n
 dl:M.length=n
 ca:Q4 N a b i L n
 da:Q4 N a b (i+1) M j
 On:Below b0 w W
theorem Tn.drewN {gc gd:Nat}{M:List Nat} (h:Tn N a b w W b0 gc gd n i j L M) (q:Nat):Tn N a b w (W.drewN q) b0 gc gd n i j L M:=⟨h.c,h.d,h.ne,h.cl,h.dl,h.ca,h.da,ox h.On q⟩
theorem Tn.store {gc gd v:Nat}{M:List Nat} (h:Tn N a b w W b0 gc gd n i j L M) (hj:j<n) (hv:Al N (a.take (i+1)) (b.take j) v) (hb:v<=9*(i+1+j)):Tn N a b w (W.setCell (af gd j) (ab (v:Int))) b0 gc gd n i (j+1) L (M.set j v):=by
 obtain⟨h1,h2⟩:=dG h.On h.d j v;refine⟨AC h.c ((A5.refl W [gd]).setCell (p:=(af gd j)) (by simp) _) (λg hg hm=>h.ne ?_),h1,h.ne,h.cl,by rw[yu];exact h.dl,h.ca,gK h.da (by rw[h.dl];exact hj) hv hb,h2⟩;have e1:gc=g:=by simpa[Value.ownBlock] using hg
 rw[e1,mS.1 hm]
theorem bL  (hm:m.Good) (w:World) (mb:Nat) (av bv:Value) (a b:List Nat) (hM:Gf w w.heap.size mb m) (ha:∀t∈a,t<m.zJ.length) (hb:∀t∈b,t<m.zJ.length) (hav:Ky w w.heap.size av (a.map AB)) (hbv:Ky w w.heap.size bv (b.map AB)) (ha1:a.length<=1000) (hb1:b.length<=1000):
  Calls Tryz.prog 42 #[ac mb,av,bv] w λe w'=>∃d:Nat,e=.returned (ab d)/\Al (zR m) a b d/\Below w.heap.size w w':=by
 obtain⟨iI,Ii,Ij,Ik,Il⟩:=iy Tryz.info3;obtain⟨gR,cR,gP,cP,gD,cD,gS,cS,hC⟩:=WN hM;obtain⟨nT,Ac⟩:=qE (m.zJ.length);obtain⟨b0,hb0⟩:=qE (w.heap.size);obtain⟨ada,cpa,rfl,hca,hac⟩:=hav;obtain⟨adb,cpb,rfl,hcb,hbc⟩:=hbv;obtain⟨na,hna⟩:=qE (a.length);obtain⟨nb,hnb⟩:=qE (b.length);rw[lM]at hca hcb hac hbc ⊢;rw[lM];rw[hna]at hca hac ha1 ⊢;rw[hnb]at hcb hbc hb1 ⊢;rw[hb0]at hC hac hbc ⊢;have Wq:=hm.t6;have HL:Hid (m.Good/\m.zJ.length=nT/\a.length=na/\b.length=nb/\w.heap.size=b0):=hid ⟨hm,Ac,hna,hnb,hb0⟩;have Vj:Hid (∀(i:Nat) x,a[i]?=some x->x<nT):=hid λi x h=>by rw[<-Ac];exact ha x (mG h)
 have HTb:Hid (∀(i:Nat) x,b[i]?=some x->x<nT):=hid λi x h=>by rw[<-Ac];exact hb x (mG h)
 rw[Ac]at Wq;have HC:Hid (∀W,Below b0 w W->W.cell? (af mb 1)=some (ae gP nT cP)/\W.cell? (af mb 2)=some (ae gD nT cD)/\W.cell? (af mb 3)=some (ae gS nT cS)/\
   (∀t,t<nT->W.cell? (af gP t)=some (ab ((zR m).put t:Nat))/\(zR m).put t<=9)/\(∀t,t<nT->W.cell? (af gD t)=some (ab ((zR m).drop t:Nat))/\(zR m).drop t<=9)/\
   ∀i,i<nT->∃gs cs,W.cell? (af gS i)=some (ae gs nT cs)/\∀j,j<nT->W.cell? (af gs j)=some (ab ((zR m).swp i j:Nat))/\(zR m).swp i j<=9):=hid λW hb=>by
  have h:=hC W hb;rw[<-Ac];refine⟨h.c1,h.c2,h.c3,λt ht=>⟨h.zJ t ht,(hm.Ph ht).2⟩,λt ht=>⟨h.Ai t ht,(JB hm.d1 (by rw[hm.dl];exact ht)).2⟩,λi hi=>?_⟩;obtain⟨gs,cs,h1,_,_,h2⟩:=h.swaps i hi;exact⟨gs,cs,h1,λj hj=>⟨h2 j hj,hm.ad5 i j⟩⟩
 have HA:Hid (0<na->∃g off,ada=some (af g off)/\∀(i:Nat) x,a[i]?=some x->∀W,Below b0 w W->W.cell? (af g (off+i))=some (.string (AB x))):=hid λh=>by
  obtain⟨g,off,h1,h2,h3⟩:=hac h;exact⟨g,off,h1,λi x hx W hb=>(hb.cell Vs).trans (h3 i (AB x) (by rw[gM,hx];rfl))⟩
 have HB:Hid (0<nb->∃g off,adb=some (af g off)/\∀(i:Nat) x,b[i]?=some x->∀W,Below b0 w W->W.cell? (af g (off+i))=some (.string (AB x))):=hid λh=>by
  obtain⟨g,off,h1,h2,h3⟩:=hbc h;exact⟨g,off,h1,λi x hx W hb=>(hb.cell Vs).trans (h3 i (AB x) (by rw[gM,hx];rfl))⟩
 clear hC hac hbc ha hb hm Ac hna hnb hM;obtain⟨n1,hn1⟩:=qE (nb+1)
 go_enter Tryz.func42,Tryz.ntmps42
 go_wp2_with (at_make;refine IP _ rfl _ _ 45 rfl 3 iI (ab 0) Tryz.underlying45 Ii Ij _ _ n1 rfl rfl (by omega) (by omega) (by rw[Il];omega) (by omega) ?_;rw[Ik])
 have hO1:=YS w b0 n1 (yU hb0.symm) (by omega);have He:Below b0 w (w.alloc (.cells (madeCells #[ab 0] n1) 3)):=(ah _ _).alloc (yU hb0.symm) _;obtain⟨W1,hW1⟩:=qE (w.alloc (.cells (madeCells #[ab 0] n1) 3));rw[hW1]at hO1 He ⊢;rw[hb0]at hO1
 try rw[hb0]
 have HO1:=hid hO1;have zL:=hid He;clear hO1 He hW1 hb0
 go_loopw [8] (λi wr=>∃(j:Nat) (L:List Nat),j<=nb/\i=ab j/\Hid (L.length=n1/\Q4 (zR m) a b 0 L (j+1))/\Hid (wr.ownsRow b0 3 1 (ae b0 n1 n1) n1 (KO L))/\Hid (Below b0 w wr)) (λi _=>nb - (intOf i).toNat)
 case atStart=>exact⟨0,_,dh _,rfl,hid ⟨yL,λk hk=>by
  obtain rfl:k=0:=by omega
  rw[nI (by omega)];exact⟨by simpa using Al.nil,dh _⟩⟩,HO1,zL⟩
 case round=>
  obtain⟨j,L,hj,rfl,hL,hown,hbr⟩:=hrel;obtain⟨W,rfl⟩:=qF (wr);clear HO1 zL
  by_cases hlt:j<nb
  ·obtain⟨y,hy⟩:∃y,b[j]?=some y:=⟨_,gE (by rw[HL.out.2.2.2.1];exact hlt)⟩
   have hyT:=HTb.out j y hy;obtain⟨gb,ob,rfl,hgb⟩:=HB.out (by omega);have cb:=hgb j y hy W hbr.out;obtain⟨c1,_,_,Vo,_,_⟩:=HC.out W hbr.out;obtain⟨cpy,hpy⟩:=Vo y hyT;obtain⟨cj,_⟩:=GS hown.out hL.out.1 (j:=j) (by omega);obtain⟨_,fj⟩:=GS hown.out hL.out.1 (j:=j+1) (by omega);obtain⟨cj1,_⟩:=GS hown.out hL.out.1 (j:=j+1) (by omega);have hd:=hL.out.2 j (by omega);have h3:=dG hbr.out hown.out (j+1) (Ar L j+(zR m).put y);have HD:Hid (Q4 (zR m) a b 0 (L.set (j+1) (Ar L j+(zR m).put y)) (j+1+1)):=hid (gK hL.out.2 (by rw[hL.out.1];omega) (by rw[IC hy];exact hd.1.agp y) (by omega));have Oc:=hd.2;obtain⟨x,hx⟩:=qE (Ar L j);obtain⟨p,hp⟩:=qE ((zR m).put y);obtain⟨x1,hx1⟩:=qE (Ar L (j+1));rw[hx1]at cj1;rw[hx]at cj Oc;rw[hp]at cpy hpy;rw[hx,hp]at h3 HD;obtain⟨j1,Rw⟩:=qE (j+1);rw[Rw]at h3 HD fj cj1;have hjw:IntKind.i64.wrap ((j:Int)+1)=(j1:Int):=by rw[Db];omega
   have hxw:IntKind.i64.wrap ((x:Int)+(p:Int))=((x+p:Nat):Int):=by rw[Db];omega
   have hi1:((j:Int)< (n1:Int)):=by omega
   have hi2:((j1:Int)< (n1:Int)):=by omega
   have Ea:((y:Int)< (nT:Int)):=by omega
   have hi4:((j:Int)< (nb:Int)):=by omega
   have H3:=hid h3;have HLL:=hid hL.out;clear h3 hd hgb Vo hx hp hx1 hown hL hy;go_wp2;refine AH (λw'=>w'.cell? (af b0 j)=some (ab x)/\w'.cell? (af mb 1)=some (ae gP nT cP)/\w'.cell? (af gb (ob+j))=some (.string (AB y))/\w'.cell? (af gP y)=some (ab p)) hmx yM ⟨cj,c1,cb,cpy⟩ (λhH=>?_);simp only[AG,BP,AR];refine tB 0 hH ?_;refine tB 1 hH ?_;refine tB 2 hH ?_;refine tB 3 hH ?_;refine tB 4 hH ?_;refine tB 5 hH ?_;refine tB 6 hH ?_;refine tB 7 hH ?_;refine tB 8 hH ?_;refine tB 9 hH ?_;refine tB 10 hH ?_;refine tB 11 hH ?_;refine tB 12 hH ?_;refine tB 13 hH ?_;refine tB 14 hH ?_;refine tL ?_;refine tS 15 λK hK=>?_
   refine tM ?_
   go_simp;refine(G7 y (by omega) _).mono ?_;rintro e w' ⟨rfl,rfl⟩;try dsimp only
   refine hK.out _ _ ?_ λhH=>?_
   ·exact hH
   clear hK K;refine tB 16 hH ?_;refine tB 17 hH ?_;refine tB 18 hH ?_;refine tB 19 hH ?_;refine tB 20 hH ?_;refine tL ?_;refine bq yM ?_ _;clear hH;show wpList _ _ _ _ _ _;go_wp2
   go_roundw
   case rel=>exact⟨j+1,L.set j1 (x+p),by omega,by go_num,hid ⟨by rw[yu];exact HLL.out.1,by rw[Rw];exact HD.out⟩,hid H3.out.1,hid H3.out.2.drew⟩
   case measure=>simp[intOf];omega
  ·have HL0:Hid (L.length=n1/\Q4 (zR m) a b 0 L n1):=hid ⟨hL.out.1,by rw[<-hn1,show nb=j by omega];exact hL.out.2⟩
   have hi4:¬((j:Int)< (nb:Int)):=by omega
   clear hL;go_wp2
   go_loopw [7,9] (λc q wr=>∃(i gc:Nat) (L:List Nat),i<=na/\q=ab i/\c=ae gc n1 n1/\Hid (L.length=n1/\Q4 (zR m) a b i L n1)/\Hid (wr.ownsRow b0 3 1 (ae gc n1 n1) n1 (KO L))/\Hid (Below b0 w wr)) (λ_ q _=>na - (intOf q).toNat)
   case atStart=>exact⟨0,b0,L,dh _,rfl,rfl,HL0,hown,hbr⟩
   case round=>
    clear hown hbr HL0;obtain⟨i,gc,L2,hi,rfl,rfl,hL2,hown,hbr⟩:=hrel;obtain⟨W2,rfl⟩:=qF (wr)
    by_cases Cu:i<na
    ·obtain⟨x,hx⟩:∃x,a[i]?=some x:=⟨_,gE (by rw[HL.out.2.2.1];exact Cu)⟩
     have Kf:=Vj.out i x hx;obtain⟨ga,oa,rfl,Sg⟩:=HA.out (by omega);have hW2:b0<=W2.heap.size:=by have:=hbr.out.size;have:=HL.out.2.2.2.2;omega
     have hi5:((i:Int)< (na:Int)):=by omega
     go_wp2_with (at_make;refine IP _ rfl _ _ 45 rfl 3 iI (ab 0) Tryz.underlying45 Ii Ij _ _ n1 rfl rfl (by omega) (by omega) (by rw[Il];omega) (by omega) ?_;rw[Ik])
     have hO3:=YS W2 b0 n1 hW2 (by omega);have hc3:=hown.out.alloc (.cells (madeCells #[ab 0] n1) 3);have Lu:=hbr.out.alloc hW2 (.cells (madeCells #[ab 0] n1) 3);have Er:=(hown.out.lt gc rfl).2;obtain⟨gd,hgd⟩:=qE (W2.heap.size);obtain⟨W3,hW3⟩:=qE (W2.alloc (.cells (madeCells #[ab 0] n1) 3));rw[hW3]at hO3 hc3 Lu ⊢;rw[hgd]at hO3 Er ⊢;have HS:Hid (Tn (zR m) a b w W3 b0 gc gd n1 i 0 L2 (List.replicate n1 0)):=hid ⟨hc3,hO3,by omega,hL2.out.1,yL,hL2.out.2,λk hk=>by omega,Lu⟩;clear hO3 hc3 Lu hW3 hgd Er hown hbr hL2 hW2;obtain⟨_,c2,_,_,hdr,_⟩:=HC.out W3 HS.out.On;obtain⟨cdx,hdx⟩:=hdr x Kf;have ca:=Sg i x hx W3 HS.out.On;obtain⟨c0,_⟩:=GS HS.out.c HS.out.cl (j:=0) (by omega);obtain⟨d0,f0⟩:=GS HS.out.d HS.out.dl (j:=0) (by omega);have hd:=HS.out.ca 0 (by omega);have h3:=HS.out.store (j:=0) (v:=Ar L2 0+(zR m).drop x) (by omega) (by rw[IC hx];exact hd.1.agq x) (by omega)
     have Oc:=hd.2;obtain⟨l0,hl0⟩:=qE (Ar L2 0);obtain⟨dx,aft⟩:=qE ((zR m).drop x);obtain⟨e0,he0⟩:=qE (Ar (List.replicate n1 0) 0);rw[he0]at d0;rw[hl0]at c0 Oc;rw[aft]at cdx hdx;rw[hl0,aft]at h3;have hxw:IntKind.i64.wrap ((l0:Int)+(dx:Int))=((l0+dx:Nat):Int):=by rw[Db];omega
     have hi1:0<n1:=by omega
     have Ea:((x:Int)< (nT:Int)):=by omega
     have H3:=hid h3;have HX:=hid hx;have HGA:=hid Sg;clear h3 hd Sg hdr hl0 aft he0 HS hx;refine AH (λw'=>w'.cell? (af gc 0)=some (ab l0)/\w'.cell? (af mb 2)=some (ae gD nT cD)/\w'.cell? (af ga (oa+i))=some (.string (AB x))/\w'.cell? (af gD x)=some (ab dx)) hmx yM ⟨c0,c2,ca,cdx⟩ (λhH=>?_);simp only[AG,BP,AR];refine tB 0 hH ?_;refine tB 1 hH ?_;refine tB 2 hH ?_;refine tB 3 hH ?_;refine tB 4 hH ?_;refine tB 5 hH ?_;refine tB 6 hH ?_;refine tB 7 hH ?_;refine tB 8 hH ?_;refine tB 9 hH ?_;refine tB 10 hH ?_;refine tB 11 hH ?_;refine tL ?_;refine tS 12 λK hK=>?_
     refine tM ?_
     go_simp;refine(G7 x (by omega) _).mono ?_;rintro e w' ⟨rfl,rfl⟩;try dsimp only
     refine hK.out _ _ ?_ λhH=>?_
     ·exact hH
     clear hK K;refine tB 13 hH ?_;refine tB 14 hH ?_;refine tB 15 hH ?_;refine tB 16 hH ?_;refine tB 17 hH ?_;refine tL ?_;refine bq yM ?_ _;clear hH;show wpList _ _ _ _ _ _;go_wp2;have Kc:Hid (Tn (zR m) a b w (W3.setCell (af gd 0) (ab ((l0:Int)+(dx:Int)))).drew b0 gc gd n1 i 1 L2 ((List.replicate n1 0).set 0 (l0+dx))):=hid (by
      have h1:=H3.out.drewN 1;rw[show((l0+dx:Nat):Int)=(l0:Int)+(dx:Int) from by omega]at h1;exact h1)
     obtain⟨W4,Be⟩:=qE ((W3.setCell (af gd 0) (ab ((l0:Int)+(dx:Int)))).drew);rw[Be]at Kc ⊢;clear Be H3 c0 c2 ca cdx d0 f0
     go_loopw [11] (λq wr=>∃(j:Nat) (M:List Nat),j<=nb/\q=ab j/\Hid (Tn (zR m) a b w wr b0 gc gd n1 i (j+1) L2 M)) (λq _=>nb - (intOf q).toNat)
     case atStart=>exact⟨0,_,dh _,rfl,Kc⟩
     case round=>
      clear Kc;obtain⟨j,M,hj,rfl,Iq⟩:=hrel;obtain⟨W,rfl⟩:=qF (wr)
      by_cases Fi:j<nb
      ·obtain⟨y,hy⟩:∃y,b[j]?=some y:=⟨_,gE (by rw[HL.out.2.2.2.1];exact Fi)⟩
       have hyT:=HTb.out j y hy;obtain⟨gb,ob,rfl,hgb⟩:=HB.out (by omega);have hBl:=Iq.out.On;have cay:=HGA.out i x HX.out W hBl;have cby:=hgb j y hy W hBl;obtain⟨c1,c2,c3,Vo,hdr,hsw⟩:=HC.out W hBl;obtain⟨cpy,hpy⟩:=Vo y hyT;obtain⟨cdx,hdx⟩:=hdr x Kf;obtain⟨gs,cs,csx,Tg⟩:=hsw x Kf;obtain⟨csy,hsy⟩:=Tg y hyT;obtain⟨cj,_⟩:=GS Iq.out.c Iq.out.cl (j:=j) (by omega);obtain⟨cj1,_⟩:=GS Iq.out.c Iq.out.cl (j:=j+1) (by omega);obtain⟨dj,_⟩:=GS Iq.out.d Iq.out.dl (j:=j) (by omega);obtain⟨dj1,fj1⟩:=GS Iq.out.d Iq.out.dl (j:=j+1) (by omega);obtain⟨a0,b0'⟩:=Iq.out.ca j (by omega);obtain⟨a1,b1'⟩:=Iq.out.ca (j+1) (by omega);obtain⟨a2,b2'⟩:=Iq.out.da j (by omega);have A1:Al (zR m) (a.take (i+1)) (b.take (j+1)) (Ar L2 (j+1)+(zR m).drop x):=by rw[IC HX.out];exact a1.agq x
       have A2:Al (zR m) (a.take (i+1)) (b.take (j+1)) (Ar M j+(zR m).put y):=by rw[IC hy];exact a2.agp y
       have A3:x=y->Al (zR m) (a.take (i+1)) (b.take (j+1)) (Ar L2 j):=λe=>by rw[IC HX.out,IC hy,e];exact a0.aiZ y
       have A4:(zR m).swp x y≠0->Al (zR m) (a.take (i+1)) (b.take (j+1)) (Ar L2 j+(zR m).swp x y):=λe=>by rw[IC HX.out,IC hy];exact a0.ai0 x y e
       obtain⟨j1,Rw⟩:=qE (j+1);obtain⟨l0,hl0⟩:=qE (Ar L2 j);obtain⟨l1,Mo⟩:=qE (Ar L2 (j+1));obtain⟨m0,hm0⟩:=qE (Ar M j);obtain⟨m1,hm1⟩:=qE (Ar M (j+1));obtain⟨p,hp⟩:=qE ((zR m).put y);obtain⟨dd,hdd⟩:=qE ((zR m).drop x);obtain⟨sw,afu⟩:=qE ((zR m).swp x y);rw[Mo,hdd]at A1;rw[hm0,hp]at A2;rw[hl0]at A3;rw[hl0,afu]at A4;rw[hl0]at cj b0';rw[Mo]at cj1 b1';rw[hm0]at dj b2';rw[hm1]at dj1;rw[hp]at cpy hpy;rw[hdd]at cdx hdx;rw[afu]at csy hsy;rw[Rw]at cj1 dj1 fj1;have heq:((AB x).toList==(AB y).toList)=decide (x=y):=OP x (by omega) y (by omega);have HAL:=hid (And.intro A1 (And.intro A2 (And.intro A3 A4)));have HJ:Hid (j+1=j1):=hid Rw;have hjw:IntKind.i64.wrap ((j:Int)+1)=(j1:Int):=by rw[Db];omega
       have hw1:IntKind.i64.wrap ((l1:Int)+(dd:Int))=((l1+dd:Nat):Int):=by rw[Db];omega
       have hw2:IntKind.i64.wrap ((m0:Int)+(p:Int))=((m0+p:Nat):Int):=by rw[Db];omega
       have hw3:IntKind.i64.wrap ((l0:Int)+(sw:Int))=((l0+sw:Nat):Int):=by rw[Db];omega
       have hi1:((j:Int)< (n1:Int)):=by omega
       have hi2:((j1:Int)< (n1:Int)):=by omega
       have Ea:((y:Int)< (nT:Int)):=by omega
       have hi4:((j:Int)< (nb:Int)):=by omega
       have hi6:((x:Int)< (nT:Int)):=by omega
       have CX:Hid (∀n,Calls Tryz.prog 45 #[.string (AB x)] (W.drewN n) λe w'=>e=.returned (ab x)/\w'=W.drewN n):=hid λn=>(G7 x (by omega) _).mono λ_ _ h=>⟨h.1,h.2.symm⟩
       have CY:Hid (∀n,Calls Tryz.prog 45 #[.string (AB y)] (W.drewN n) λe w'=>e=.returned (ab y)/\w'=W.drewN n):=hid λn=>(G7 y (by omega) _).mono λ_ _ h=>⟨h.1,h.2.symm⟩
       have hbd:l1+dd<=9*(i+1+j1)/\m0+p<=9*(i+1+j1)/\l0+sw<=9*(i+1+j1):=by omega
       have hsmall:9*(i+1+j1)<=100000:=by omega
       clear A1 A2 A3 A4 a0 a1 a2 Vo hdr hsw Tg hgb hBl hy hl0 Mo hm0 hm1 hp hdd afu Rw
       go_upto_region 14 with fail
       go_quiet ((go_at_call 45;exact(CX.out _).mono λ_ _ h=>⟨h.1,_,h.2⟩))
       go_upto_region 15 with fail
       go_quiet ((go_at_call 45;exact(CY.out _).mono λ_ _ h=>⟨h.1,_,h.2⟩))
       go_upto_if 113 with fail
       go_cut [12] (λs12 wx=>∃v q:Nat,s12=ab v/\Hid (Al (zR m) (a.take (i+1)) (b.take (j+1)) v)/\v<=9*(i+1+j1)/\wx=W.drewN q)
       case first=>
        by_cases Wk:((m0:Int)+(p:Int))< ((l1:Int)+(dd:Int))
        ·go_wp2
         go_meet
         exact⟨m0+p,_,by go_num,hid HAL.out.2.1,hbd.2.1,rfl⟩
        ·go_wp2
         go_meet
         exact⟨l1+dd,_,by go_num,hid HAL.out.1,hbd.1,rfl⟩
       case rest=>
        obtain⟨v1,q1,rfl,hv1,ahX,rfl⟩:=hcut
        go_upto_region 18 with fail
        go_quiet ((go_at_call 45;first |exact(CX.out _).mono λ_ _ h=>⟨h.1,_,h.2⟩ |exact(CY.out _).mono λ_ _ h=>⟨h.1,_,h.2⟩))
        obtain⟨q4,hq4⟩:∃q4,(W.drewN q1).drewN nq=W.drewN q4:=⟨_,wh ..⟩;rw[hq4];clear hq4
        go_upto_region 19 with fail
        go_cut [149] (λak5 wx=>∃(B:Bool) (q:Nat),ak5=.bool B/\(B=true->x=y)/\wx=W.drewN q)
        case first=>
         by_cases hxy:x=y
         ·rw[iz hxy]at heq
          go_quiet (fail)
          go_wp2
          go_meet
          exact⟨_,_,rfl,λ_=>hxy,by first |rfl |exact wh ..⟩
         ·rw[gy hxy]at heq
          go_quiet (fail)
          go_wp2
          go_meet
          exact⟨_,_,rfl,(λh=>by cases h),by first |rfl |exact wh ..⟩
        case rest=>
         obtain⟨B,q2,rfl,hB,rfl⟩:=hcut;have HBx:=hid hB;clear hB heq
         go_upto_if 149 with fail
         go_cut [12] (λs12 wx=>∃v q:Nat,s12=ab v/\Hid (Al (zR m) (a.take (i+1)) (b.take (j+1)) v)/\v<=9*(i+1+j1)/\wx=W.drewN q)
         case first=>
          cases B with
          |true=>
           have HXY:=hid (HAL.out.2.2.1 (HBx.out rfl));go_wp2
           go_meet
           exact⟨l0,_,rfl,HXY,by omega,rfl⟩
          |false=>
           go_wp2
           go_meet
           exact⟨v1,_,rfl,hv1,ahX,rfl⟩
         case rest=>
          obtain⟨v2,q3,rfl,hv2,ahY,rfl⟩:=hcut;have aax:Hid (∀v:Nat,v<=9*(i+1+j1)->Al (zR m) (a.take (i+1)) (b.take (j+1)) v->Tn (zR m) a b w ((W.setCell (af gd j1) (ab (v:Int))).drewN q3) b0 gc gd n1 i (j1+1) L2 (M.set j1 v)):=hid λv hv hA=>by
           have h1:=(Iq.out.store (j:=j+1) (v:=v) (by omega) hA (by rw[HJ.out];exact hv)).drewN q3;rw[HJ.out]at h1;exact h1
          clear cay cby c1 c2 c3 cpy cdx csx csy cj1 dj hv1 ahX hw1 hw2 CX CY
          rcases xx sw with h0 |h0
          ·have hs1:¬((0:Int)< (sw:Int)):=by omega
           go_wp2
           go_roundw
           case rel=>exact⟨j1,_,by have:=HJ.out;omega,rfl,hid (aax.out v2 ahY hv2.out)⟩
           case measure=>have:=HJ.out;simp[intOf];omega
          ·have hs1:((0:Int)< (sw:Int)):=by omega
           by_cases aa4:((l0:Int)+(sw:Int))< (v2:Int)
           ·have Pw:=hid (aax.out (l0+sw) hbd.2.2 (HAL.out.2.2.2 (by omega)))
            go_wp2
            go_roundw
            case rel=>exact⟨j1,_,by have:=HJ.out;omega,rfl,Pw⟩
            case measure=>have:=HJ.out;simp[intOf];omega
           ·go_wp2
            go_roundw
            case rel=>exact⟨j1,_,by have:=HJ.out;omega,rfl,hid (aax.out v2 ahY hv2.out)⟩
            case measure=>have:=HJ.out;simp[intOf];omega
      ·have hi4:¬((j:Int)< (nb:Int)):=by omega
       have HE:Hid (Q4 (zR m) a b (i+1) M n1):=hid (by rw[<-hn1,show nb=j by omega];exact Iq.out.da);go_wp2
       go_roundw
       case rel=>exact⟨i+1,gd,M,by omega,by go_num,rfl,hid ⟨Iq.out.dl,HE.out⟩,hid Iq.out.d,hid Iq.out.On⟩
       case measure=>simp[intOf];omega
    ·have hie:i=na:=by omega
     have hi5:¬((i:Int)< (na:Int)):=by omega
     obtain⟨c0,_⟩:=GS hown.out hL2.out.1 (j:=nb) (by omega);have hd:=hL2.out.2 nb (by omega);have hA:Al (zR m) a b (Ar L2 nb):=by
      have h1:=hd.1;rw[jk (by rw[HL.out.2.2.1];omega),jk (by rw[HL.out.2.2.2.1];omega)]at h1;exact h1
     have hi6:((nb:Int)< (n1:Int)):=by omega
     have HAA:=hid hA;clear hd hA;go_wp2;go_ret;exact⟨_,rfl,HAA.out,hbr.out⟩
theorem PJ.below {w':World} (h:PJ w B v m E) (hb:Below B w w'):PJ w' B v m E:=by
 obtain⟨ad,cap,h1,h2,h3⟩:=h;refine⟨ad,cap,h1,h2,λh0=>?_⟩;obtain⟨g,h4,h5,h6⟩:=h3 h0;refine⟨g,h4,h5,λk e hk=>?_⟩;obtain⟨k0,k1,k2,k3⟩:=h6 k e hk;exact⟨(hb.cell Lb).trans k0,(hb.cell Lb).trans k1,(hb.cell Lb).trans k2,(hb.cell Lb).trans k3⟩
theorem PJ.mono {B':Nat} (h:PJ w B v m E) (hB:B<=B'):PJ w B' v m E:=by
 obtain⟨ad,cap,h1,h2,h3⟩:=h;refine⟨ad,cap,h1,h2,λh0=>?_⟩;obtain⟨g,h4,h5,h6⟩:=h3 h0;exact⟨g,h4,by omega,h6⟩
theorem PW.below {w':World} (h:PW w B v E) (hb:Below B w w'):PW w' B v E:=by
 obtain⟨ad,cap,h1,h2,h3⟩:=h;refine⟨ad,cap,h1,h2,λh0=>?_⟩;obtain⟨g,h4,h5,h6⟩:=h3 h0;exact⟨g,h4,h5,λk e hk=>(hb.cell Lb).trans (h6 k e hk)⟩
theorem PW.mono {B':Nat} (h:PW w B v E) (hB:B<=B'):PW w B' v E:=by
 obtain⟨ad,cap,h1,h2,h3⟩:=h;refine⟨ad,cap,h1,h2,λh0=>?_⟩;obtain⟨g,h4,h5,h6⟩:=h3 h0;exact⟨g,h4,by omega,h6⟩
theorem uC {zH:Nat->Nat->Option (List Pt)} (hl:Wr zH) {ps:List Pt}{l:List Nat}{S:List GF} (h:Az zH ps l S):S.length<=2*l.length/\∀t rest,ps=.tok t::rest->S.length+1<=2*l.length:=by
 induction h with
 |nil=>exact⟨zn _,λt rest h=>by cases h⟩
 |tok _ ih=>exact⟨by simp only[lC];omega,λt rest _=>by simp only[lC];omega⟩
 |zi hk _ _ ih1 ih2=>
  obtain⟨rest,e⟩:=hl _ _ _ hk;have h1:=ih1.2 _ _ e;have h2:=ih2.1;exact⟨by simp only[lC,lA];omega,λt rest h=>by cases h⟩
theorem pK (v1 v2 v3:Value) (w:World) (hG:E2 w) (hT:TabAt 1 Lib.deBruijn32tab w) (h1:IQ w v1) (h2:IQ w v2) (h3:IQ w v3):
  Calls Tryz.prog 12 #[v1,v2,v3] w λe w'=>e=.returned (.bool true)/\Below w.heap.size w w':=by
 have Dh:1<w.heap.size:=bu _ _ (hT 0 (by decide));have HGl:Hid (∀W,Below w.heap.size w W->E2 W/\TabAt 1 Lib.deBruijn32tab W):=hid λW hb=>⟨hG.below hb hG.size,TabAt.below hT hb Dh⟩
 have Gn:Hid (∀W,Below w.heap.size w W->IQ W v2):=hid λW hb=>h2.below hb
 have Fo:Hid (∀W,Below w.heap.size w W->IQ W v3):=hid λW hb=>h3.below hb
 have HB:=hid (oJ v1 w h1);obtain⟨ad1,n1,akc,rfl,_⟩:=h1;obtain⟨ad2,n2,cap2,rfl,_⟩:=h2;obtain⟨ad3,n3,Cf,rfl,_⟩:=h3;clear hG hT Dh
 go_enter Tryz.func12,Tryz.ntmps12
 go_upto_region 2 with(go_at_call 27;refine HB.out.mono ?_;rintro e w1 ⟨b,m,rfl,hg,hM,hb1⟩;have Oy:=hid hg;have HM:=hid hM;have zL:=hid hb1;clear hg hM hb1 HB)
 obtain⟨s,hs⟩:=qE (DK m);have HT1:Hid (Calls Tryz.prog 29 #[ac b] w1 λe w'=>e=.returned (.string s)/\Below w1.heap.size w1 w'):=hid (by rw[<-hs];exact rK m Oy.out w1 b HM.out);have HCo:Hid (∀V,Below w1.heap.size w1 V->Calls Tryz.prog 35 #[.string s] V λe w'=>∃(gp:Nat) (T:Am),e=.returned (.tuple #[ac gp,ab 0])/\Q1 T w' gp/\Kz m T/\Below w1.heap.size w1 w'):=hid λV hb1=>by
  have hb:=zL.out.trans (hb1.mono zL.out.size);rw[<-hs];refine(bE Oy.out V (HGl.out V hb).1 (HGl.out V hb).2).mono ?_;rintro e w' ⟨gp,T,h1,h2,h3,h4,h5,h6,h7⟩;exact⟨gp,T,h1,h2,⟨h3,h4,h5,h6⟩,hb1.trans (h7.mono hb1.size)⟩
 clear hs
 go_upto_region 5 with(first
  | (go_at_call 29;refine HT1.out.mono ?_;rintro e w2 ⟨rfl,hb2⟩;have zO:Hid (Below w1.heap.size w1 w2):=hid hb2;clear hb2 HT1)
  | (go_at_call 35;refine(HCo.out _ zO.out).mono ?_;rintro e w5 ⟨gp,T,rfl,hp,ht,zP⟩;have HP5:=hid (And.intro hp ht);have Es:Hid (Below w1.heap.size w1 w5):=hid zP;clear zP hp ht zO))
 have Jo:Hid (Below w.heap.size w w5):=hid (zL.out.trans (Es.out.mono zL.out.size));have HRo:=hid (vU Oy.out w5 b _ ((HM.out.below Es.out).up Es.out.size) (Gn.out w5 Jo.out))
 go_upto_region 6 with(go_at_call 39;refine HRo.out.mono ?_;rintro e w6 ⟨l,rv,rfl,hlt,hl7,Cn,zU⟩;obtain⟨arv,crv,ak6⟩:=BO Cn;have H6:=hid (And.intro hlt (And.intro hl7 (And.intro Cn zU)));clear hlt hl7 Cn zU HRo)
 subst ak6;rw[lM]at H6;have HW6:Hid (Below w5.heap.size w5 w6):=hid H6.out.2.2.2;have Dl:Hid (∀V,Below w6.heap.size w6 V->Ky V V.heap.size (.slice arv l.length crv) (l.map AB)):=hid λV hb=>((i6 H6.out.2.2.1 (zn _)).below hb).mono hb.size
 obtain⟨nl,Ej⟩:=qE (l.length);have hl7:=H6.out.2.1
 try rw[lM]
 rw[Ej]at hl7 Dl
 try rw[Ej]
 have HNl:Hid (l.length=nl):=hid Ej;have HMd:Hid (Calls Tryz.prog 22 #[ac gp,.slice arv nl crv] w6 λe w'=>(∃a1 k1 a2 k2 a3 k3 a4 k4 a5 k5 E b' c S,e=.returned (.tuple #[.agg #[.slice a1 E.length k1,.slice a2 E.length k2,ab (c:Nat),.slice a3 b'.length k3,.slice a4 S.length k4,.slice a5 E.length k5],ab 0])/\wI m w' w6.heap.size l E b' c S (.slice a1 E.length k1) (.slice a2 E.length k2) (.slice a3 b'.length k3) (.slice a4 S.length k4))/\Below w6.heap.size w6 w'):=hid ((nJ Oy.out (HP5.out.1.below HW6.out) HP5.out.2 (HGl.out w6 (Jo.out.trans (HW6.out.mono Jo.out.size))).2 H6.out.1 (Dl.out w6 (ah _ _)) (by omega)).mono (by
   rintro e w' ⟨hb',⟨h,_⟩ | ⟨_,E,b',c,S2,ve,vc,vr,vt,vx,xs,X,h3,hM,hV⟩⟩
   ·omega
   ·obtain⟨a1,k1,rfl,_⟩:=hM.ed
    obtain⟨a2,k2,rfl,_⟩:=hM.co;obtain⟨a3,k3,h5⟩:=BO hM.wd;rw[lM]at h5;subst h5;obtain⟨a4,k4,rfl⟩:=BO hM.nd;obtain⟨a5,k5,h6⟩:=BO hV.xr;rw[hV.xl.1]at h6;subst h6;exact⟨⟨a1,k1,a2,k2,a3,k3,a4,k4,a5,k5,E,b',c,S2,h3,hM⟩,hb'⟩))
 clear Ej
 go_upto_region 7 with(go_at_call 22;refine HMd.out.mono ?_;rintro e w8 ⟨⟨a1,k1,a2,k2,a3,k3,a4,k4,a5,k5,E,b',c,S,rfl,h8⟩,Cm⟩;have Se:Hid (Below w6.heap.size w6 w8):=hid Cm;have H8:=hid h8;clear Cm h8 HMd)
 obtain⟨xb,Oc⟩:=qE (w8.heap.size);obtain⟨nE,Js⟩:=qE (E.length);obtain⟨nb,hnb⟩:=qE (b'.length);obtain⟨nS,Yd⟩:=qE (S.length);rw[Js,hnb,Yd]at H8
 try rw[Js]
 try rw[hnb]
 try rw[Yd]
 obtain⟨W9,Jm⟩:=qE (w8.alloc (.cells #[.slice a1 nE k1,.slice a2 nE k2,ab c,.slice a3 nb k3,.slice a4 nS k4,.slice a5 nE k5] 48));have hX:W9.heap[xb]?=some (.cells #[.slice a1 nE k1,.slice a2 nE k2,ab c,.slice a3 nb k3,.slice a4 nS k4,.slice a5 nE k5] 48 (0,0)):=by rw[<-Jm,<-Oc];exact bg w8 _
 have hB9:Below w8.heap.size w8 W9:=by rw[<-Jm];exact Aj (ah _ _)
 rw[Jm,Oc];have HB9:Hid (Below w6.heap.size w6 W9):=hid (Se.out.trans (hB9.mono Se.out.size));have HX:=hid hX;have hlen:=H8.out.run.afm (J5 Oy.out) H6.out.1;have Rq:=H8.out.c9;have Bp:nb<=10000/\nE<=9000:=by
  have h1:=hlen.1;have h2:=hlen.2;have:=HNl.out;omega
 have hSn:nS<=20000:=by
  have h1:=(uC (N6 Oy.out) H8.out.tree).1;omega
 have HMk:Hid (∀V,Below w6.heap.size w6 V->Gf V V.heap.size b m):=hid λV hb=>(HM.out.below (Es.out.trans ((HW6.out.trans (hb.mono HW6.out.size)).mono Es.out.size))).up (Es.out.trans ((HW6.out.trans (hb.mono HW6.out.size)).mono Es.out.size)).size
 have HAp:Hid (Calls Tryz.prog 40 #[ac b,.slice arv nl crv,.slice a1 nE k1,.slice a2 nE k2] W9 λe w'=>(∃a6 k6,e=.returned (.tuple #[.slice a6 nb k6,ab c,.bool true])/\BL w' W9.heap.size (.slice a6 nb k6) (b'.map AB))/\Below W9.heap.size W9 w'):=hid ((fG Oy.out W9 b _ _ _ l E l.length b' c (HMk.out W9 HB9.out) H6.out.1 (Dl.out W9 HB9.out) (by have:=HNl.out;omega) (by omega) (by omega) (by omega) ((H8.out.ed.below hB9).mono hB9.size) ((H8.out.co.below hB9).mono hB9.size) H8.out.run (zn _)).mono (by
  rintro e w' ⟨rv,h1,h2,h3⟩;rw[List.drop_length,fy]at h2;obtain⟨a6,k6,h4⟩:=BO h2;rw[lM,hnb]at h4;subst h4;exact⟨⟨a6,k6,h1,h2⟩,h3⟩))
 have x0:W9.cell? (af xb 0)=some (.slice a1 nE k1):=(A0 hX).trans rfl;have x1:W9.cell? (af xb 1)=some (.slice a2 nE k2):=(A0 hX).trans rfl;have hxl:xb<W9.heap.size:=ak hX;have Lm:Hid (E.length=nE/\b'.length=nb/\S.length=nS):=hid ⟨Js,hnb,Yd⟩;clear hX Jm Oc Js hnb Yd hlen;have adJ:=hid hB9;clear hB9
 go_upto_region 8 with(go_at_call 40;refine HAp.out.mono ?_;rintro e Ed ⟨⟨a6,k6,rfl,ahZ⟩,ah0⟩;have Ss:Hid (Below W9.heap.size W9 Ed):=hid ah0;have H10:=hid ahZ;clear ah0 ahZ HAp)
 have aaz:Ed.heap[xb]?=some (.cells #[.slice a1 nE k1,.slice a2 nE k2,ab c,.slice a3 nb k3,.slice a4 nS k4,.slice a5 nE k5] 48 (0,0)):=(Ss.out.block xb hxl).trans HX.out;have y0:Ed.cell? (af xb 0)=some (.slice a1 nE k1):=(A0 aaz).trans rfl;have y2:Ed.cell? (af xb 2)=some (ab c):=(A0 aaz).trans rfl;have y3:Ed.cell? (af xb 3)=some (.slice a3 nb k3):=(A0 aaz).trans rfl;have y4:Ed.cell? (af xb 4)=some (.slice a4 nS k4):=(A0 aaz).trans rfl;have y5:Ed.cell? (af xb 5)=some (.slice a5 nE k5):=(A0 aaz).trans rfl;have ah1:=hid aaz;clear x0 x1 aaz;have o1:BL Ed W9.heap.size (.slice a6 nb k6) (b'.map AB):=H10.out;have o2:BL Ed w6.heap.size (.slice a3 nb k3) (b'.map AB):=QX H8.out.wd (adJ.out.trans (Ss.out.mono adJ.out.size));have C1:Hid (Calls Tryz.prog 32 #[.slice a6 nb k6,.slice a3 nb k3] Ed λe w'=>e=.returned (.bool true)/\∃q',w'=Ed.drewN q'):=hid (QS Ed _ _ (b'.map AB) _ _ o1 o2 (by rw[lM];have:=Lm.out.2.1;omega))
 clear o1 o2;have hcc:((c:Int)==(c:Int))=true:=by simp
 have hee:((nE:Int)==(nE:Int))=true:=by simp
 go_upto_region 11 with(go_at_call 32;refine C1.out.mono ?_;rintro e w' ⟨rfl,q1,rfl⟩)
 have afv:Hid (Below w6.heap.size w6 Ed):=hid (HB9.out.trans (Ss.out.mono HB9.out.size));have HY:Hid (Calls Tryz.prog 41 #[ac b,.slice a4 nS k4,.string ⟨#[65]⟩] (Ed.drewN q1) λe w'=>(∃a7 k7 a8 k8,e=.returned (.tuple #[.slice a7 nb k7,.slice a8 0 k8,.bool true])/\BL w' Ed.heap.size (.slice a7 nb k7) (b'.map AB))/\Below Ed.heap.size Ed w'):=hid (by
  have hq:Below Ed.heap.size Ed (Ed.drewN q1):=ox (ah _ _) _;have hnd:KP Ed Ed.heap.size (.slice a4 nS k4) (S.map Iu):=uP (B:=w6.heap.size) (by rw[lM];exact QX H8.out.nd (adJ.out.trans (Ss.out.mono adJ.out.size))) (zn _);have h:=mH Oy.out b Ed.heap.size S.length (.zi 0) b' S (zn _) Oy.out.n1 H8.out.tree (Ed.drewN q1) (.slice a4 nS k4) [] ((HMk.out Ed afv.out).below hq) (zn _) (by rw[fy];exact hnd.below hq) (by have:=Lm.out.2.2;simp;omega) (by have:=Lm.out.2.1;omega);refine h.mono ?_;rintro e w' ⟨rv,rest,h1,h2,h3,h4⟩;obtain⟨a7,k7,h5⟩:=BO h2;rw[lM,Lm.out.2.1]at h5;subst h5;obtain⟨a8,k8,h6,_⟩:=h3;subst h6;exact⟨⟨a7,k7,a8,k8,h1,h2⟩,hq.trans h4⟩)
 clear y0 y2 y3 y5
 go_upto_region 12 with(go_at_call 41;refine HY.out.mono ?_;rintro e w11 ⟨⟨a7,k7,a8,k8,rfl,ah2⟩,ah3⟩;have afw:Hid (Below Ed.heap.size Ed w11):=hid ah3;have H11:=hid ah2;clear ah3 ah2 HY)
 clear y4;have C2:Hid (Calls Tryz.prog 32 #[.slice a7 nb k7,.slice a6 nb k6] w11 λe w'=>e=.returned (.bool true)/\∃q',w'=w11.drewN q'):=hid (QS w11 _ _ (b'.map AB) _ _ H11.out (QX H10.out afw.out) (by rw[lM];have:=Lm.out.2.1;omega))
 go_upto_region 15 with(go_at_call 32;refine C2.out.mono ?_;rintro e w' ⟨rfl,q2,rfl⟩)
 have acs:Hid (Below w6.heap.size w6 (w11.drewN q2)):=hid (ox (afv.out.trans (afw.out.mono afv.out.size)) q2);have adK:Hid (Below w.heap.size w w6):=hid (Jo.out.trans (HW6.out.mono Jo.out.size));obtain⟨Gc,aaq⟩:=qE (w11.drewN q2);rw[aaq]at acs ⊢;have HXb:Hid (Gc.cell? (af xb 2)=some (ab c)):=hid (by rw[<-aaq];exact((ox afw.out q2).cell (by exact ak ah1.out)).trans ((A0 ah1.out).trans rfl));have hxw:xb<Gc.heap.size:=bu _ _ HXb.out;clear aaq;have HSe:=hid (dD Oy.out Gc b _ (HMk.out Gc acs.out) (Fo.out Gc (adK.out.trans (acs.out.mono adK.out.size))))
 go_upto_region 16 with(go_at_call 36;refine HSe.out.mono ?_;rintro e Hg ⟨l2,S2,rv2,tv2,rfl,Fv,hl2,ak7,aa9,ah4,ah5⟩;obtain⟨ak8,ak9,ala⟩:=BO aa9;obtain⟨amM,amN,alb⟩:=BO ah4;have Ym:=hid (And.intro Fv (And.intro hl2 (And.intro aa9 ah5)));clear Fv hl2 ak7 aa9 ah4 ah5 HSe)
 subst ala;subst alb;rw[lM]at Ym
 try rw[lM]
 obtain⟨no,hno⟩:=qE (l2.length);rw[hno]at Ym
 try rw[hno]
 have Qr:Hid (Below w6.heap.size w6 Hg):=hid (acs.out.trans (Ym.out.2.2.2.mono acs.out.size));have HDi:Hid (Calls Tryz.prog 42 #[ac b,.slice arv nl crv,.slice ak8 no ak9] Hg.drew λe w'=>(∃d:Nat,e=.returned (ab d)/\(c:Int)<=(d:Int))/\Below Hg.heap.size Hg w'):=hid (by
  have hq:Below Hg.heap.size Hg Hg.drew:=(ah _ _).drew;have hr2:=((i6 Ym.out.2.2.1 (zn _)).below hq);have hl2:=dH Oy.out (Ym.out.1.der (MX m));refine(bL Oy.out Hg.drew b _ _ l l2 ((HMk.out Hg Qr.out).below hq) H6.out.1 hl2 ((Dl.out Hg Qr.out).below hq) hr2 (by have:=HNl.out;omega) (by rw[hno];have:=Ym.out.2.1;omega)).mono ?_;rintro e w' ⟨d,h1,h2,h3⟩;exact⟨⟨d,h1,by have:=H8.out.least l2 d (Ym.out.1.der (MX m)) h2;omega⟩,hq.trans h3⟩)
 have z2:Hg.cell? (af xb 2)=some (ab c):=(Ym.out.2.2.2.cell (by exact hxw)).trans HXb.out;have alc:xb<Hg.heap.size:=bu _ _ z2;refine dy (S:=λw'=>w'.cell? (af xb 2)=some (ab c)/\Below w6.heap.size w6 w') yM ⟨z2,Qr.out.drew⟩ (λhH=>?_);refine tB 0 hH ?_;refine tB 1 hH ?_;refine tB 2 hH ?_;refine tB 3 hH ?_;refine tB 4 hH ?_;refine tL ?_;refine tS 5 λK hK=>?_
 refine tM ?_
 go_simp;refine HDi.out.mono ?_;rintro e w13 ⟨⟨d,rfl,hcd⟩,ah6⟩;try dsimp only
 refine hK.out _ _ ?_ λhH=>?_
 ·exact⟨(ah6.cell (by exact alc)).trans z2,Qr.out.trans (ah6.mono Qr.out.size)⟩
 clear hK K;refine tB 6 hH ?_;refine tB 7 hH ?_;refine tL ?_;refine bq yM ?_ _;have HE:=hid hH.2;clear hH z2;go_wp2;go_ret;exact⟨rfl,adK.out.trans (HE.out.mono adK.out.size)⟩
end Go.Proofs.YtjjggdcnpndgjaaGreatDoor
