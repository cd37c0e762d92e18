import Derived.Test.YtjjggdcnpndgjabGreatDoorJ41
set_option linter.unusedSimpArgs false
set_option maxHeartbeats 8000000
set_option maxRecDepth 100000
namespace Go.Proofs.YtjjggdcnpndgjabGreatDoor
open Go.RowKit Go.Shelf
variable {N:NG}{T:Tab}{k1 k2 k3 k4:List Fa}{l:List Nat}{m:Mk}{n pb:Nat}{q:Nat->Bool}{rv:Value}{w:World}
theorem VN  (hI:T.In w) (hp:w.cell? (af pb 0)=some (ac T.tb)) (hTw:VA T.tws T.N.nT) (hl:∀t∈l,t<T.N.nT) (hrow:RwS w w.heap.size rv (l.map (nth T.tws))) (hn:l.length<=1000):
  Calls Tryz.prog 18 #[ac pb,rv] w fun e w'=>Below w.heap.size w w'/\((l.length<=40/\∃v,e=.returned (.tuple #[v,ab 0])/\D8 w' w.heap.size v l/\(l=[]->v=.slice none 0 0))\/(40<l.length/\e=.returned (.tuple #[.slice none 0 0,ab 10]))):=by
 have HN:Hid (∀V,Below w.heap.size w V->Calls Tryz.prog 25 #[.agg #[.slice T.adT T.N.nT T.capT,ae T.gN T.N.nN T.capN],rv] V fun e w'=>∃v,e=.returned (.tuple #[v,.bool true])/\(D8 w' V.heap.size v l/\(l=[]->v=.slice none 0 0))/\Below V.heap.size V w'):=hid fun V hb=>by
  have hIV:=hI.below hI.bd hb;exact dN hIV.fc.gr hIV.fc.ln hTw hl ((hrow.below hb).mono hb.size) hn
 obtain⟨d0,d1,_⟩:=hI.tv.heads;obtain⟨nT,hnT⟩:=qF (T.N.nT);obtain⟨nN,hnN⟩:=qF (T.N.nN);rw[<-hnT,<-hnN]at HN;rw[<-hnT]at d0;rw[<-hnN]at d1;obtain⟨ad,cap,rfl,hcap,_⟩:=hrow;obtain⟨n,hnn⟩:=qF (l.length);rw[lM,<-hnn]at HN hcap ⊢;clear hI hTw hl hnT hnN hnn hcap
 by_cases h40:40<n
 ·have hni:((40:Int)< (n:Int)):=by omega
  go_enter Tryz.func18,Tryz.ntmps18
  go_wp2
  go_ret2
  exact⟨Below.refl _ _,.inr ⟨h40,rfl⟩⟩
 ·have hni:¬((40:Int)< (n:Int)):=by omega
  go_enter Tryz.func18,Tryz.ntmps18
  go_wp2_with (go_at_call 25;refine(HN.out _ (Below.refl _ w)).mono ?_;rintro e w2 ⟨v,rfl,h1,h2⟩;have H2:=hid (And.intro h1 h2);clear h1 h2)
  go_ret2
  exact⟨H2.out.2,.inl ⟨by omega,v,rfl,H2.out.1⟩⟩
structure LU (T:Tab) (w:World) (pb:Nat):Prop where
 inn:T.In w
 ok:T.Ok
 pc:w.cell? (af pb 0)=some (ac T.tb)
 tws:VA T.tws T.N.nT
theorem LU.below {w':World} (h:LU T w pb) (hb:Below w.heap.size w w'):LU T w' pb:=⟨h.inn.below h.inn.bd hb,h.ok,A4 hb h.pc,h.tws⟩
theorem nV  (h:LU T w pb) (hl:∀t∈l,t<T.N.nT) (hrow:RwS w w.heap.size rv (l.map (nth T.tws))) (hn:l.length<=1000):
  Calls Tryz.prog 11 #[ac pb,rv] w fun e w'=>Below w.heap.size w w'/\((40<l.length/\e=.returned (.tuple #[.slice none 0 0,ab 0,ab 10]))\/(l.length<=40/\
   ((∃S v,TrL T.rul [.nam 0] l S/\e=.returned (.tuple #[v,ab (-1),ab 0])/\w'.ownsRow w.heap.size 142 3 v S.length (BR (S.map (N4 T))))\/
    (∃i:Nat,KU T l i/\e=.returned (.tuple #[.slice none 0 0,ab i,ab 0]))))):=by
 have HT:Hid (∀V,Below w.heap.size w V->Calls Tryz.prog 18 #[ac pb,rv] V fun e w'=>Below V.heap.size V w'/\((l.length<=40/\∃v,e=.returned (.tuple #[v,ab 0])/\D8 w' V.heap.size v l/\(l=[]->v=.slice none 0 0))\/(40<l.length/\e=.returned (.tuple #[.slice none 0 0,ab 10])))):=hid fun V hb=>VN (h.below hb).inn (h.below hb).pc h.tws hl ((hrow.below hb).mono hb.size) hn
 have HR:Hid (∀V v B,Below w.heap.size w V->D8 V B v l->(l=[]->v=.slice none 0 0)->Calls Tryz.prog 21 #[ac T.tb,v] V fun e w'=>Below V.heap.size V w'/\
   ((∃S v,TrL T.rul [.nam 0] l S/\e=.returned (.tuple #[v,ab (-1),ab 0])/\w'.ownsRow V.heap.size 142 3 v S.length (BR (S.map (N4 T))))\/
    (∃i:Nat,KU T l i/\e=.returned (.tuple #[.slice none 0 0,ab i,ab 0])))):=hid fun V v B hb hv hv2=>XK h.ok (h.below hb).inn ⟨hv.row (fun g hg=>CK hv hg),hv2⟩ hl (by omega)
 have HP:Hid (∀V,Below w.heap.size w V->V.cell? (af pb 0)=some (ac T.tb)):=hid fun V hb=>(h.below hb).pc
 clear h hl hrow
 go_enter Tryz.func11,Tryz.ntmps11
 go_upto_region 2 with(go_at_call 18;refine(HT.out _ (Below.refl _ w)).mono ?_;rintro e w2 ⟨hb2,(⟨h40,v,rfl,hv,hv2⟩ | ⟨h40,rfl⟩)⟩)
 ·have H2:=hid (And.intro hb2 (And.intro hv hv2))
  have cp:=HP.out w2 hb2;clear hb2 hv hv2
  go_wp2_with (go_at_call 21;refine(HR.out _ _ _ H2.out.1 H2.out.2.1 H2.out.2.2).mono ?_;rintro e w3 ⟨hb3,(⟨S,vt,hS,rfl,hvt⟩ | ⟨i,hi,rfl⟩)⟩)
  ·have H3:=hid (And.intro hb3 (And.intro hS hvt))
   clear hb3 hS hvt;go_wp2
   go_ret3
   exact⟨H2.out.1.trans (H3.out.1.mono H2.out.1.size),.inr ⟨h40,.inl ⟨S,vt,H3.out.2.1,rfl,OK H3.out.2.2 H2.out.1.size⟩⟩⟩
  ·have H3:=hid (And.intro hb3 hi)
   clear hb3 hi;go_wp2
   go_ret3
   exact⟨H2.out.1.trans (H3.out.1.mono H2.out.1.size),.inr ⟨h40,.inr ⟨i,H3.out.2,rfl⟩⟩⟩
 ·have H2:=hid hb2
  clear hb2;go_wp2
  go_ret3
  exact⟨H2.out,.inl ⟨h40,rfl⟩⟩
theorem p6 {rb:Nat}{a0 a1 a2 a3 a4 a5:Value} (h:w.heap[rb]?=some (.cells #[a0,a1,a2,a3,a4,a5] 36 (0,0))):
  (w.cell? (af rb 0)=some a0/\w.cell? (af rb 1)=some a1/\w.cell? (af rb 2)=some a2/\w.cell? (af rb 3)=some a3/\w.cell? (af rb 4)=some a4/\w.cell? (af rb 5)=some a5)/\
  (w.frozen? (af rb 0)=false/\w.frozen? (af rb 1)=false/\w.frozen? (af rb 2)=false/\w.frozen? (af rb 3)=false/\w.frozen? (af rb 4)=false/\w.frozen? (af rb 5)=false):=
 ⟨⟨(A0 h).trans rfl,(A0 h).trans rfl,(A0 h).trans rfl,(A0 h).trans rfl,(A0 h).trans rfl,(A0 h).trans rfl⟩,A3 h,A3 h,A3 h,A3 h,A3 h,A3 h⟩
theorem M9.away {w':World}{B B' rb:Nat}{row:List Nat}{E:List EdP}{b:List Nat}{c:Nat}{S:List IM}{ve vc vr vt vx:Value}{xs:List Value}{X:List (List ByteArray)} (h:M9 T w B row E b c S ve vc vr vt vx xs X) (hk:A1 w w' [rb]) (hr:∃cs f,w.heap[rb]?=some (.cells cs 36 f)) (hB:B'<=B):M9 T w' B' row E b c S ve vc vr vt vx xs X:=by
 have hoff:∀{e sz n:Nat}{v:Value}{l:List Value},w.ownsRow B e sz v n l->e≠36->w'.ownsRow B' e sz v n l:=fun h h1=>OK (aD h hk (fun q hq=>by
  obtain⟨cs,f,h2⟩:=hr;rw[mS.1 hq];exact⟨_,_,_,h2,h1⟩)) hB
 exact⟨h.run,h.tree,h.least,hoff h.ed (by decide),hoff h.co (by decide),hoff h.wd (by decide),hoff h.nd (by decide),hoff h.xr (by decide),h.xl,fun i u l h1 h2=>hoff (h.xw i u l h1 h2) (by decide),h.ex⟩
theorem kO  (h:LU T w pb) (hTab:∀V,Below w.heap.size w V->TabAt 0 Lib.deBruijn32tab V) (hl:∀t∈l,t<T.N.nT) (hrow:RwS w w.heap.size rv (l.map (nth T.tws))) (hn:l.length<=1000) (hr0:0< (BD T.N.rules).1.length) (hex:l.length<=40->∃b c,Der T.N [.nam 0] b/\Al T.N l b c/\c<=9000):
  Calls Tryz.prog 8 #[ac pb,rv] w fun e w'=>Below w.heap.size w w'/\((40<l.length/\e=.returned (.tuple #[.agg #[.slice none 0 0,.slice none 0 0,ab 0,.slice none 0 0,.slice none 0 0,.slice none 0 0],ab 10]))\/(l.length<=40/\
   ∃E b c S ve vc vr vt vx xs X,e=.returned (.tuple #[.agg #[ve,vc,ab (c:Nat),vr,vt,vx],ab 0])/\M9 T w' w.heap.size l E b c S ve vc vr vt vx xs X)):=by
 have HT:Hid (∀V,Below w.heap.size w V->Calls Tryz.prog 18 #[ac pb,rv] V fun e w'=>Below V.heap.size V w'/\((l.length<=40/\∃v,e=.returned (.tuple #[v,ab 0])/\D8 w' V.heap.size v l/\(l=[]->v=.slice none 0 0))\/(40<l.length/\e=.returned (.tuple #[.slice none 0 0,ab 10])))):=hid fun V hb=>VN (h.below hb).inn (h.below hb).pc h.tws hl ((hrow.below hb).mono hb.size) hn
 have HM:Hid (∀V v B,l.length<=40->Below w.heap.size w V->D8 V B v l->Calls Tryz.prog 19 #[ac T.tb,v] V fun r w'=>∃a1 n1 k1 a2 n2 k2 a3 n3 k3 a4 n4 k4 a5 n5 k5 E b c S xs X,r=.returned (.tuple #[.agg #[.slice a1 n1 k1,.slice a2 n2 k2,ab (c:Nat),.slice a3 n3 k3,.slice a4 n4 k4,.slice a5 n5 k5],ab 0])/\M9 T w' V.heap.size l E b c S (.slice a1 n1 k1) (.slice a2 n2 k2) (.slice a3 n3 k3) (.slice a4 n4 k4) (.slice a5 n5 k5) xs X/\Below V.heap.size V w'):=hid fun V v B h40 hb hv=>by
  refine(pR (h.below hb).inn h.ok (fun V' hb'=>hTab V' (hb.trans (hb'.mono hb.size))) (hv.row (fun g hg=>CK hv hg)) hl (by omega) hr0 (hex h40)).mono ?_;rintro r w' ⟨E,b,c,S,ve,vc,vr,vt,vx,xs,X,rfl,htd,hb3⟩;obtain⟨a1,k1,rfl⟩:=BI htd.ed;obtain⟨a2,k2,rfl⟩:=BI htd.co;obtain⟨a3,k3,rfl⟩:=BI htd.wd;obtain⟨a4,k4,rfl⟩:=BI htd.nd;obtain⟨a5,k5,rfl⟩:=BI htd.xr;exact⟨_,_,_,_,_,_,_,_,_,_,_,_,_,_,_,E,b,c,S,xs,X,rfl,htd,hb3⟩
 have HP:Hid (∀V,Below w.heap.size w V->V.cell? (af pb 0)=some (ac T.tb)):=hid fun V hb=>(h.below hb).pc
 clear h hl hrow hTab hr0 hex
 go_enter Tryz.func8,Tryz.ntmps8
 go_upto_region 1 with fail
 obtain⟨W1,hW1⟩:=qE (w.alloc (.cells #[.slice none 0 0,.slice none 0 0,ab 0,.slice none 0 0,.slice none 0 0,.slice none 0 0] 36));have hb1:Below w.heap.size w W1:=by rw[<-hW1];exact(Below.refl _ w).alloc (lR_ _) _
 have hr1:W1.heap[w.heap.size]?=some (.cells #[.slice none 0 0,.slice none 0 0,ab 0,.slice none 0 0,.slice none 0 0,.slice none 0 0] 36 (0,0)):=by rw[<-hW1];exact World.alloc_heap_new w _
 have hs1:w.heap.size<W1.heap.size:=lt_of_block hr1;rw[hW1];have HB1:=hid hb1;have HR1:=hid hr1;clear hW1 hb1 hr1
 go_upto_region 2 with(go_at_call 18;refine(HT.out _ HB1.out).mono ?_;rintro e w2 ⟨hb2,(⟨h40,v,rfl,hv,hv2⟩ | ⟨h40,rfl⟩)⟩)
 ·have H2:=hid (And.intro hb2 hv)
  have hw2:Below w.heap.size w w2:=HB1.out.trans (hb2.mono (by omega));have cp:=HP.out w2 hw2;have HW2:=hid hw2;have hs2:=hb2.size;have hs2:W1.heap.size<=w2.heap.size:=hs2;clear hb2 hv hv2 hw2;have HRb:Hid (∀V,Below w2.heap.size w2 V->V.heap[w.heap.size]?=some (.cells #[.slice none 0 0,.slice none 0 0,ab 0,.slice none 0 0,.slice none 0 0,.slice none 0 0] 36 (0,0))):=hid fun V hb=>(hb.block w.heap.size (by omega)).trans ((H2.out.1.block w.heap.size hs1).trans HR1.out)
  go_wp2_with (go_at_call 19;refine(HM.out _ _ _ h40 HW2.out H2.out.2).mono ?_;rintro e w3 ⟨a1,n1,k1,a2,n2,k2,a3,n3,k3,a4,n4,k4,a5,n5,k5,E,b,c,S,xs,X,rfl,htd,hb3⟩;have H3:=hid (And.intro htd hb3);obtain⟨⟨b0,b1,b2,b3,b4,b5⟩,g0,g1,g2,g3,g4,g5⟩:=p6 (HRb.out w3 hb3);clear htd hb3)
  have hrow:=(A5 (j:=5) (A5 (j:=4) (A5 (j:=3) (A5 (j:=2) (A5 (j:=1) (A5 (j:=0) (HRb.out w3 H3.out.2) (.slice a1 n1 k1)) (.slice a2 n2 k2)) (ab c)) (.slice a3 n3 k3)) (.slice a4 n4 k4)) (.slice a5 n5 k5));have hkF:A1 w3 ((((((w3.setCell (af w.heap.size 0) (.slice a1 n1 k1)).setCell (af w.heap.size 1) (.slice a2 n2 k2)).setCell (af w.heap.size 2) (ab c)).setCell (af w.heap.size 3) (.slice a3 n3 k3)).setCell (af w.heap.size 4) (.slice a4 n4 k4)).setCell (af w.heap.size 5) (.slice a5 n5 k5)) [w.heap.size]:=((((((A1.refl w3 _).setCell (by simp) _).setCell (by simp) _).setCell (by simp) _).setCell (by simp) _).setCell (by simp) _).setCell (by simp) _;refine bodyPost_ret (K0 (p:=4) (t:=5) (ty:=36) rfl _ _ w.heap.size _ _ _ _ rfl hrow Tryz.underlying36 rfl y1Z) rfl ?_;refine⟨(HW2.out.trans (H3.out.2.mono HW2.out.size)).trans (hkF.below (by have:=HW2.out.size;have:=H3.out.2.size;omega) (fun q hq=>by rw[mS.1 hq];exact lR_ _)),.inr ⟨h40,E,b,c,S,_,_,_,_,_,xs,X,rfl,H3.out.1.away hkF ⟨_,_,HRb.out w3 H3.out.2⟩ (by omega)⟩⟩
 ·have H2:=hid hb2
  have hr2:=(hb2.block w.heap.size hs1).trans HR1.out;have b0:=(A0 (j:=0) hr2).trans rfl;have b1:=(A0 (j:=1) hr2).trans rfl;have b2:=(A0 (j:=2) hr2).trans rfl;have b3:=(A0 (j:=3) hr2).trans rfl;have b4:=(A0 (j:=4) hr2).trans rfl;have b5:=(A0 (j:=5) hr2).trans rfl;have g0:=A3 (j:=0) hr2;have g1:=A3 (j:=1) hr2;have g2:=A3 (j:=2) hr2;have g3:=A3 (j:=3) hr2;have g4:=A3 (j:=4) hr2;have g5:=A3 (j:=5) hr2;have HR2:=hid hr2;clear hb2 hr2;go_wp2;have hrow:=(A5 (j:=5) (A5 (j:=4) (A5 (j:=3) (A5 (j:=2) (A5 (j:=1) (A5 (j:=0) HR2.out (.slice none 0 0)) (.slice none 0 0)) (ab 0)) (.slice none 0 0)) (.slice none 0 0)) (.slice none 0 0));have hkF:A1 w2 ((((((w2.setCell (af w.heap.size 0) (.slice none 0 0)).setCell (af w.heap.size 1) (.slice none 0 0)).setCell (af w.heap.size 2) (ab 0)).setCell (af w.heap.size 3) (.slice none 0 0)).setCell (af w.heap.size 4) (.slice none 0 0)).setCell (af w.heap.size 5) (.slice none 0 0)) [w.heap.size]:=((((((A1.refl w2 _).setCell (by simp) _).setCell (by simp) _).setCell (by simp) _).setCell (by simp) _).setCell (by simp) _).setCell (by simp) _
  refine bodyPost_ret (K0 (p:=4) (t:=5) (ty:=36) rfl _ _ w.heap.size _ _ _ _ rfl hrow Tryz.underlying36 rfl y1Z) rfl ?_;have hw2:Below w.heap.size w w2:=HB1.out.trans (H2.out.mono (by omega));exact⟨hw2.trans (hkF.below hw2.size (fun q hq=>by rw[mS.1 hq];exact lR_ _)),.inl ⟨h40,rfl⟩⟩
theorem kM {P:List Ln}{G:Gr} (h:GOk P G):∀i,i< (ngL P).nN->nmW (pgL (D4 P) P) i=nth G.names i:=by
 intro i hi;rw[MV]at hi;unfold nmW nth;rw[h.g.names,gD_,gD_,Int.toNat_natCast];unfold pgL;rw[gM,gE hi];simp[G0,hi,T4]
theorem kN (s:ByteArray) (w:World) (hG:DS w) (hs:s.size<=9223372036854775807) (he:(GN s).1=0):
  Calls Tryz.prog 35 #[.string s] w fun e w'=>∃adT capT gN capN,e=.returned (.tuple #[.agg #[.slice adT (ngL (AF (AG s 0).1)).nT capT,ae gN (ngL (AF (AG s 0).1)).nN capN],ab 0])/\(∀W'',(∀q,w.heap.size<=q->q<w'.heap.size->W''.heap[q]?=w'.heap[q]?)->PGr W'' w'.heap.size (ngL (AF (AG s 0).1)) (L6 (AF (AG s 0).1)) (pgL (D4 (AF (AG s 0).1)) (AF (AG s 0).1)) adT capT gN capN)/\Below w.heap.size w w':=by
 have hp:(E8 s).1=0:=by rw[QD];exact he
 have h4:s.size<=4000:=by
  rcases Nat.lt_or_ge 4000 s.size with h |h
  ·unfold E8 at hp;rw[if_pos h]at hp;cases hp
  ·exact h
 exact qQ s w hG hs (d9 s) hp _ _ _ (fun W B v pv hb hV=>kW _ _ (UG s he) (d9 s h4) W (hG.below hb hG.size) B v pv hV)
structure N9 (N:NG) (k1 k2 k3 k4:List Fa):Prop where
 fd:S9 N k1 k2
 i3:I4 N k2 k3
 s3:∀r∈N.rules,EE k3 r=k3
 i4:F9 N k3 k4
 s4:∀r∈N.rules,EK k4 r=k4
theorem WW  (hN:N.Ok)  (h:S9 N k1 k2):emP k2=bAt (BN N false):=by
 funext n
 obtain⟨_,h2,_⟩:=VR hN h.i1 h.s1;have h3:=h2.unique (LM N hN false).1 n;rw[<-h3];unfold emP;rw[h.i2.fl]
theorem N9.em  (hN:N.Ok)  (h:N9 N k1 k2 k3 k4):emP k4=bAt (BN N false):=by
 rw[MZ h.i4.fl,MZ h.i3.fl,WW hN h.fd]
theorem N9.first  (hN:N.Ok)  (h:N9 N k1 k2 k3 k4) (n t:Nat):(AL k4 n).testBit t=col (IU N (bAt (BN N false))) t n:=by
 have h1:=jR hN h.i3 h.s3 t;rw[WW hN h.fd]at h1;rw[h.i4.fh];exact h1.unique ((PU N hN _).2 t) n
theorem N9.follow  (hN:N.Ok) (hT:N.nT<=20)  (h:N9 N k1 k2 k3 k4) (n t:Nat):(B2 k4 n).testBit t=col (OG N (IU N (bAt (BN N false))) (bAt (BN N false))) t n:=by
 have h1:=dI hN hT h.i4 h.s4 t;rw[MZ h.i3.fl,WW hN h.fd]at h1;have h2:(fun n=>(AL k3 n).testBit t)=col (IU N (bAt (BN N false))) t:=by
  funext n
  rw[<-h.first hN n t,h.i4.fh]
 rw[h2]at h1;exact h1.unique ((jS N hN _ (PU N hN _).1 _).2 t) n
theorem ML {i:Nat} (h:J0 n q=some i):i<n/\q i=false/\∀j,j<i->q j=true:=by
 unfold J0 at h;rw[List.find?_eq_some_iff_getElem]at h;obtain⟨h1,m,hm,h2,h3⟩:=h;simp at hm h2;subst h2;refine⟨hm,by simpa using h1,fun j hj=>?_⟩;have:=h3 j hj;simpa using this
theorem XC  (h:J0 n q=none):∀j,j<n->q j=true:=by
 intro j hj;unfold J0 at h;rw[List.find?_eq_none]at h;have:=h j (List.mem_range.2 hj);simpa using this
theorem TD {p:Fa->Bool}{k:List Fa} (hl:k.length=n) (h:∀(i:Nat) a,k[i]?=some a->p a= !q i):DB p k=match J0 n q with
  |some i=>(i:Int)
  |none=> -1:=by
 cases ho:J0 n q with
 |some i=>
  obtain⟨h1,h2,h3⟩:=ML ho;refine eU (a:=k[i]) (gE (by omega)) ?_ (fun m b hm hb=>?_)
  ·rw[h i _ (gE (by omega)),h2];rfl
  ·rw[h m b hb,h3 m hm];rfl
 |none=>
  refine eV fun m b hb=>?_
  rw[h m b hb,XC ho m (by have:=(gS_.1 hb).1;omega)];rfl
theorem iX {G:Gr} (hN:N.Ok) {pg:List Nm} (h:S9 N k1 k2) (hnm:∀i,i<N.nN->nmW pg i=nth G.names i):FG pg k2=OE G N:=by
 obtain⟨l1,_,l3⟩:=VR hN h.i1 h.s1;have e1:=fun n=>l1.unique (LM N hN true).1 n
 have e2:=fun n=>(i8 hN h.i2 h.s2).unique (VI N hN).1 n
 have e3:=fun n=>l3.unique (SQ N hN).1 n
 have hle:=h.i1.le;have i1:=TD (p:=fp1) (q:=bAt (BN N true)) h.i2.len (fun i a ha=>by
  have h1:=ZF ha;rw[h.i2.fl]at h1;rw[<-e1 i,h1];unfold fp1
  by_cases hz:a.least=202
  ·simp[hz]
  ·have:((a.least:Int)==202)=false:=by simp;omega
   rw[this];simp[hz])
 have i2:=TD (p:=fp2) (q:=bAt (IP N)) h.i2.len (fun i a ha=>by
  rw[<-e2 i,sA ha];rfl)
 unfold FG OE;rw[i1,i2];cases h1:J0 N.nN (bAt (BN N true))with
 |some i=>
  simp only;rw[if_pos (by omega),hnm i (ML h1).1]
 |none=>
  simp only;rw[if_neg (by decide)];cases h2:J0 N.nN (bAt (IP N))with
  |some i=>
   simp only;rw[if_pos (by omega),hnm i (ML h2).1]
  |none=>
   simp only;rw[if_neg (by decide)];have i3:=TD (p:=fp3) (q:=fun i=>decide (lAt (JL N) i<=200)) h.i2.len (fun i a ha=>by
    have h3:=ZF ha;rw[h.i2.fl]at h3;have hi:i<N.nN:=by rw[<-h.i2.len];exact(gS_.1 ha).1
    have h4:=XC h1 i hi;rw[<-e1 i]at h4;have h5:=of_decide_eq_true h4;have h6:=e3 i;have h7:=hle i;rw[h3]at h5 h6 h7;simp only[<-h6];unfold fp3
    by_cases hz:a.least=201
    ·simp[hz]
    ·have h8:((a.least:Int)==201)=false:=by simp;omega
     rw[h8];have h9:min a.least 201<=200:=by omega
     simp[h9])
   rw[i3];cases h3:J0 N.nN (fun i=>decide (lAt (JL N) i<=200))with
   |some i=>
    simp only;rw[if_pos (by omega),hnm i (ML h3).1]
   |none=>
    simp only;rw[if_neg (by decide)]
theorem iV (s:ByteArray) (w:World) (Q:World->Nat->Prop) (hQ:∀w1 w2 t,Q w1 t->Below w1.heap.size w1 w2->Q w2 t)
  (hR:Calls Tryz.prog 16 #[.string s] w fun e w'=>∃tb pn pr po pt,e=.returned (.tuple #[ac tb,.agg #[.string pn,ab pr,ab po,.string pt],ab 0])/\Q w' tb/\Below w.heap.size w w'):
  Calls Tryz.prog 5 #[.string s] w fun e w'=>∃gp,e=.returned (.tuple #[ac gp,ab 0])/\(∃tb,w'.cell? (af gp 0)=some (ac tb)/\Q w' tb)/\Below w.heap.size w w':=by
 have HR:=hid hR;have HQ:=hid hQ;clear hR hQ
 go_enter Tryz.func5,Tryz.ntmps5
 go_wp2_with (go_at_call 16;refine HR.out.mono ?_;rintro e w2 ⟨tb,pn,pr,po,pt,rfl,hq,hb2⟩;have HB:=hid hb2;have HQ2:=hid hq;clear hb2 hq HR)
 go_ret2
 have hbx:=BG (w2.alloc (.cells #[.string pn,ab pr,ab po,.string pt] 56)) #[ac tb] 60 0;rw[World.size_alloc]at hbx;refine⟨_,rfl,⟨tb,hbx,HQ.out _ _ _ HQ2.out (bal (bal (Below.refl _ _)))⟩,bal (bal HB.out)⟩
section
def S1 (i:Nat):Nat->Nat->Nat->Prop:=fun x _ _=>x<i
def S2 (i k:Nat):Nat->Nat->Nat->Prop:=fun x y _=>x<i\/x=i/\y<k
def S3 (i k t:Nat):Nat->Nat->Nat->Prop:=fun x y z=>x<i\/x=i/\(y<k\/y=k/\z<t)
section
variable {H S S':Nat->Nat->Nat->Prop}{a:Bool}{i k t n:Nat}
end
end
section
theorem mB (pg:List Nm):PM pg=SA (pg.map (·.2)) 0:=by
 unfold PM SA;rw[List.zipIdx_map,List.flatMap_map];rfl
section
variable {N:NG}{L:List (List (List Pt))}
end
end
abbrev PT (s:ByteArray):List Ln:=AF (AG s 0).1
abbrev NT (s:ByteArray):NG:=ngL (PT s)
abbrev WT (s:ByteArray):List ByteArray:=L6 (PT s)
abbrev GT (s:ByteArray):List Nm:=pgL (D4 (PT s)) (PT s)
abbrev vV (s:ByteArray):ByteArray × Int:=OE (GN s).2.2 (NT s)
theorem pU {s:ByteArray} (he:(GN s).1=0) (n:Nat) (nm:Nm) (r:Nat) (ps:List Pt) (hn:(GT s)[n]?=some nm) (hr:nm.2[r]?=some ps):ps.length<=8/\AY (NT s) ps:=by
 have hg:=UG s he;have hR:=aY hg;refine⟨?_,?_⟩
 ·unfold GT pgL at hn
  rw[gM]at hn;cases hx:(AM (PT s))[n]? with
  |none=>rw[hx]at hn;cases hn
  |some x=>
   rw[hx]at hn;injection hn with hn
   subst hn;unfold T4 at hr;rw[gM]at hr;cases hy:(A9 x.2.2)[r]? with
   |none=>rw[hy]at hr;cases hr
   |some y=>
    rw[hy]at hr;injection hr with hr
    subst hr;rw[lM];exact lT_ (WN (mG hy)) (hg.long x (mG hx))
 ·have h1:(n,ps)∈(NT s).rules:=by
   show(n,ps)∈PM (GT s);rw[mB];have h2:=aO ((GT s).map (·.2)) 0 n r nm.2 ps (by rw[gM,hn];rfl) hr;rw[Nat.zero_add]at h2;exact mG h2
  exact hR.ok.ps h1
theorem iK (s:ByteArray) (w:World) (hG:DS w) (hs:s.size<=9223372036854775807) (he:(GN s).1=0):
  Calls Tryz.prog 22 #[.string s] w fun e w'=>wE (NT s) (WT s) (GT s) w e w':=
 rK s w _ _ _ (fun W hb=>kN s W (hG.below hb hG.size) hs he)
theorem jZ (s:ByteArray) (w:World) (hG:DS w) (hT:TabAt 0 Lib.deBruijn32tab w) (hs:s.size<=9223372036854775807) (he:(GN s).1=0) (hz:(vV s).2=0):
  Calls Tryz.prog 16 #[.string s] w fun e w'=>Below w.heap.size w w'/\
   ((∃(n q r t:Nat) (nm:Nm),e=.returned (.tuple #[.pointer none,.agg #[.string nm.1,ab q,ab r,.string (CX (WT s) (NT s).nT t)],ab 9])/\(GT s)[n]?=some nm/\wW (NT s) ((GT s).map (·.2)) n q r t)\/
    (∃tb k4,e=.returned (.tuple #[ac tb,.agg #[.string ByteArray.empty,ab 0,ab 0,.string ByteArray.empty],ab 0])/\(∃k1 k2 k3,N9 (NT s) k1 k2 k3 k4)/\kA (NT s) (WT s) (GT s) k4 w' tb/\∀n,n< ((GT s).map (·.2)).length->qP (NT s) ((GT s).map (·.2)) n)):=by
 have hg:=UG s he;have hR:=aY hg;have key:∀{k1 k2 k3 k4:List Fa},N9 (NT s) k1 k2 k3 k4->∀{n r:Nat}{nm:Nm}{ps:List Pt}{t:Nat},(GT s)[n]?=some nm->nm.2[r]?=some ps->(EX k4 (GT s) n r).testBit t=QR (NT s) n ps t:=by
  intro k1 k2 k3 k4 hD n r nm ps t hn hr;rw[RQ _ hn hr];exact qH (hD.em hR.ok) (hD.first hR.ok) (hD.follow hR.ok hR.leT) _ _ _
 have none_of:∀{k1 k2 k3 k4:List Fa},N9 (NT s) k1 k2 k3 k4->∀{R:Nat->Nat->Int}{m:Nat},(∀nm':Nm,(GT s)[m]?=some nm'->∀t,t<21->IY (EX k4 (GT s) m) nm'.2.length (R m) t)->qP (NT s) ((GT s).map (·.2)) m:=by
  intro k1 k2 k3 k4 hD R m hrow rs r0 r p0 p t h1 h2 h3 h4 h5;rw[gM]at h1;cases hm:(GT s)[m]? with
  |none=>rw[hm]at h1;cases h1
  |some nm'=>
   rw[hm]at h1;injection h1 with h1
   subst h1;have ht:t<21:=by have h9:(NT s).nT<=20:=hR.leT;omega
   have h6:=oY (hrow nm' hm t ht) h2 (gS_.1 h4).1
   rwa [key hD hm h3,key hD hm h4]at h6
 refine(qN s w (NT s) (WT s) (GT s) hT hR.ok (fun k2 k3 k4=>∃k1,N9 (NT s) k1 k2 k3 k4) (pU he) (fun W hb=>(iK s W (hG.below hb hG.size) hs he).mono ?_)).mono ?_
 ·rintro e w' ⟨hb',k1,k2,hf,h⟩
  have hsame:=iX hR.ok hf (kM hg)
  rcases h with⟨h,_⟩ | ⟨_,k3,k4,n₀,kb,adT,capT,gN,capN,h3,s3,h4,s4,h5,h6,h7,h8,h9⟩
  ·rw[hsame]at h;exact absurd hz h
  ·exact⟨hb',k2,k3,k4,n₀,kb,adT,capT,gN,capN,⟨k1,hf,h3,s3,h4,s4⟩,h3,h4,h5,h6,h9,h7,h8⟩
 ·rintro e w' ⟨hb',k2,k3,k4,⟨k1,hD⟩,⟨n,q,r,t,nm,h1,h2,h3,h4,h5,h6,h7,R,h8⟩ | ⟨tb,h1,h2⟩⟩
  ·refine⟨hb',.inl ⟨n,q,r,t,nm,h1,h2,⟨?_,fun m hm=>none_of hD (h8 m hm)⟩⟩⟩
   obtain⟨p0,hp0⟩:∃p0,nm.2[q]?=some p0:=⟨_,gE (by omega)⟩;obtain⟨p,hp⟩:∃p,nm.2[r]?=some p:=⟨_,gE h4⟩;exact⟨nm.2,p0,p,by rw[gM,h2];rfl,h3,hp0,hp,h5,by rw[<-key hD h2 hp0];exact h6,by rw[<-key hD h2 hp];exact h7⟩
  ·obtain⟨n₀,kb,adT,capT,gN,capN,R,E,_,_,_,_,_,h3⟩:=h2.ex
   exact⟨hb',.inr ⟨tb,k4,h1,⟨k1,k2,k3,hD⟩,h2,fun n _=>none_of hD (h3 n)⟩⟩
theorem gB  (h:m.Good):NT (DA m)=ngM m:=qM h
theorem uP  (h:m.Good):WT (DA m)=N2 m:=R9 h
theorem uC  (h:m.Good):GT (DA m)=pgM m:=T5 h
theorem oW  (h:m.Good):(vV (DA m)).2=0:=by
 show(OE _ (NT (DA m))).2=0;rw[gB h,iD h]
theorem t7  (h:m.Good)  (hD:N9 (ngM m) k1 k2 k3 k4) {tb:Nat} (ht:kA (ngM m) (N2 m) (pgM m) k4 w tb):
  ∃T:Tab,T.N=ngM m/\T.tws=N2 m/\T.pg=pgM m/\T.rul=GS m/\T.tb=tb/\T.Ok/\T.In w/\T.k=k4:=by
 obtain⟨n₀,kb,adT,capT,gN,capN,R,E,_,hF,hV,_,hE,hR⟩:=ht.ex;have hN:=IQ h;have hem:emP k4=bAt (BN (ngM m) false):=hD.em hN;have hemf:∀n,emP k4 n=false:=fun n=>by rw[hem];exact oZ h n
 refine⟨⟨n₀,tb,kb,ngM m,N2 m,pgM m,adT,capT,gN,capN,k4,R,E,GS m⟩,rfl,rfl,rfl,rfl,rfl,?_,⟨hF,hV⟩,rfl⟩;have hbeg:∀n t,n< (ngM m).nN->t<=20->(AL k4 n).testBit t=(GS m n t).isSome:=fun n t hn ht=>by
  obtain⟨rs,hrs⟩:∃rs,m.rules[n]?=some rs:=⟨_,gE hn⟩;rw[hD.first hN];show bAt (mAt _ n) t=_;rw[oJ h hrs,S8 hrs,Bool.eq_iff_iff,decide_eq_true_eq,Option.isSome_iff_ne_none];rw[ne_eq,List.getElem?_eq_none_iff];omega
 have hspk:∀{n q t:Nat}{nm:Nm}{ps:List Pt},(pgM m)[n]?=some nm->nm.2[q]?=some ps->(EX k4 (pgM m) n q).testBit t=decide (q=t):=fun {n q t nm ps} hn hq=>by
  rw[RQ k4 hn hq,JP];obtain⟨rest,e⟩:=JE h n q ps (by rw[S8 (fD m hn)];exact hq);rw[e];have e2:FA (emP k4) (Pt.tok q::rest)=false:=rfl;rw[e2];show(q==t||_)=_;rw[Bool.eq_iff_iff];simp
 constructor
 ·exact fun n=>by show AL k4 n<_;rw[hD.i4.fh];exact hD.i3.lt n
 ·exact hbeg
 ·intro n t rhs hk
  have hk:GS m n t=some rhs:=hk;obtain⟨rs,h1,h2⟩:=M1 hk;obtain⟨h3,h4,_,_⟩:=fG h hk;refine⟨h3,h4,(BO n,rs),RJ m h1,?_,h2⟩;have ht21:t<21:=by have:=h.t6;omega
  have hlt:=(gS_.1 h2).1
  rcases hR n _ (RJ m h1) t ht21 with⟨_,h5⟩ | ⟨q,h5,h6,h7,_⟩
  ·have:=h5 t hlt
   rw[hspk (RJ m h1) h2]at this;simp at this
  ·obtain⟨p,hp⟩:∃p,rs[q]?=some p:=⟨_,gE h5⟩
   rw[hspk (RJ m h1) hp,decide_eq_true_eq]at h7;subst h7;exact h6
 ·intro n t rhs hk
  exact(fG h hk).2.2
 ·intro n
  show E n=0;rw[hE (fun r hr=>by
   obtain⟨k,hk⟩:=(IV m r.1 r.2).1 hr;obtain⟨rest,e⟩:=JE h _ _ _ hk;rw[e];rfl)]
 ·exact JE h
 ·exact IV m
 ·exact h.n1
 ·exact fun n _=>hemf n
theorem tT  (h:m.Good):0< (BD (ngM m).rules).1.length:=by
 obtain⟨r,hr,_⟩:=h.lastR (n:=0) h.n1
 generalize (ngM m).rules=L at hr
 rcases List.eq_nil_or_concat L with rfl | ⟨L',x,rfl⟩
 ·cases hr
 ·rw[List.concat_eq_append,SS]
  unfold D1;simp only[lA,List.length_singleton];omega
theorem lZ  (h:m.Good) (w:World) (hG:DS w) (hT:TabAt 0 Lib.deBruijn32tab w):
  Calls Tryz.prog 16 #[.string (DA m)] w fun e w'=>Below w.heap.size w w'/\∃(tb:Nat) (T:Tab),e=.returned (.tuple #[ac tb,.agg #[.string ByteArray.empty,ab 0,ab 0,.string ByteArray.empty],ab 0])/\T.N=ngM m/\T.tws=N2 m/\T.rul=GS m/\T.tb=tb/\T.Ok/\T.In w'/\T.pg=pgM m:=by
 have hs:(DA m).size<=9223372036854775807:=by have:=VF h;omega
 refine(jZ (DA m) w hG hT hs (Y0 h) (oW h)).mono ?_;rw[gB h,uC h,uP h];rintro e w' ⟨hb,⟨n,q,r,t,nm,_,hn,hcl⟩ | ⟨tb,k4,rfl,⟨k1,k2,k3,hD⟩,ht,_⟩⟩
 ·exfalso
  obtain⟨rs,p0,p,h1,h2,h3,h4,_,h5,h6⟩:=hcl.ex;rw[gM,hn]at h1;injection h1 with h1
  subst h1;have hsp:∀{q:Nat}{ps:List Pt},nm.2[q]?=some ps->QR (ngM m) n ps t=decide (q=t):=fun {q ps} hq=>by
   obtain⟨rest,e⟩:=JE h n q ps (by rw[S8 (fD m hn)];exact hq);rw[e];unfold QR;rw[Bool.eq_iff_iff];simp[DT,FA]
  rw[hsp h3,decide_eq_true_eq]at h5;rw[hsp h4,decide_eq_true_eq]at h6;omega
 ·obtain⟨T,h1,h2,h3,h4,h5,h6,h7,_⟩:=t7 h hD ht
  exact⟨hb,tb,T,rfl,h1,h2,h4,h5,h6,h7,h3⟩
theorem aW  (h:m.Good) (w:World) (hG:DS w) (hT:TabAt 0 Lib.deBruijn32tab w):
  Calls Tryz.prog 5 #[.string (DA m)] w fun e w'=>∃(gp:Nat) (T:Tab),e=.returned (.tuple #[ac gp,ab 0])/\LU T w' gp/\T.N=ngM m/\T.tws=N2 m/\T.rul=GS m/\T.pg=pgM m/\Below w.heap.size w w':=by
 refine(iV (DA m) w (fun W tb=>∃T:Tab,T.N=ngM m/\T.tws=N2 m/\T.rul=GS m/\T.tb=tb/\T.Ok/\T.In W/\T.pg=pgM m) ?_ ((lZ h w hG hT).mono ?_)).mono ?_
 ·rintro w1 w2 t ⟨T,h1,h2,h3,h4,h5,h6,h7⟩ hb
  exact⟨T,h1,h2,h3,h4,h5,h6.below h6.bd hb,h7⟩
 ·rintro e w' ⟨hb,tb,T,rfl,hT⟩
  exact⟨tb,_,_,_,_,rfl,⟨T,hT⟩,hb⟩
 ·rintro e w' ⟨gp,rfl,⟨tb,hc,T,h1,h2,h3,h4,h5,h6,h7⟩,hb⟩
  exact⟨gp,T,rfl,⟨h6,h5,by rw[h4];exact hc,by rw[h2,h1];exact sH h⟩,h1,h2,h3,h7,hb⟩
theorem Tryz.infoG9:(Tryz.prog.info? 9).map (fun i=>(i.zero,i.size,i.bytes))=some (some (.string ByteArray.empty),1,16):=by kernel_rfl
theorem l7 (l:List ByteArray) (s:ByteArray):EW (l++ [s])=EW l++ [.string s]:=by unfold EW;simp
def ndM (nd:IM):NdV:=(F6 nd.part,nd.rule,nd.size)
theorem VG:∀(w:List UInt8) (ws:List (List UInt8)),BQ (w::ws)=w++ws.flatMap (fun v=>32::v)
 |w,[]=>by simp[BQ]
 |w,v::r=>by
  have ih:=VG v r;show w++32::BQ (v::r)=_;rw[ih,List.flatMap_cons];rfl
def J4 (k:Nat) (r:List (List UInt8)):List UInt8:=(if 0<k then [32,124]else [])++r.flatMap fun v=>32::v
theorem XQ:∀(L:List (List (List UInt8))) (q:List (List UInt8)) (k:Nat),0<k->((q::L).zipIdx k).flatMap (fun x=>J4 x.2 x.1)=[32,124]++(G8 (q::L)).flatMap fun v=>32::v
 | [],q,k,hk=>by
  rw[List.zipIdx_cons,List.zipIdx_nil,List.flatMap_cons,List.flatMap_nil,List.append_nil];show J4 k q=[32,124]++q.flatMap fun v=>32::v
  unfold J4;rw[if_pos hk]
 |r::L,q,k,hk=>by
  have ih:=XQ L r (k+1) (by omega);rw[List.zipIdx_cons,List.flatMap_cons,ih];show J4 k q++_=[32,124]++(q++ [124]::G8 (r::L)).flatMap fun v=>32::v
  rw[List.flatMap_append,List.flatMap_cons];unfold J4;rw[if_pos hk];simp
theorem o5 (L:List (List (List UInt8))):(G8 L).flatMap (fun v=>32::v)=L.zipIdx.flatMap fun x=>J4 x.2 x.1:=by
 cases L with
 |nil=>rfl
 |cons q L=>
  cases L with
  |nil=>simp[G8,J4]
  |cons r L=>
   have h:=XQ L r 1 (by omega);rw[List.zipIdx_cons,List.flatMap_cons,show 0+1=1 from rfl,h];show(q++ [124]::G8 (r::L)).flatMap (fun v=>32::v)=_;rw[List.flatMap_append,List.flatMap_cons];simp[J4]
def JV (m:Mk) (i j:Nat):List UInt8:=if 0<D0 m i j then [115,119,97,112,32]++wB (.tok i)++ [32]++wB (.tok j)++ [32]++ [UInt8.ofNat (48+D0 m i j)]++ [10]else []
def KG (m:Mk) (i:Nat):List UInt8:=[116,111,107,101,110,32]++wB (.tok i)++ [32]++ [UInt8.ofNat (48+m.puts.getD i 0)]++ [32]++ [UInt8.ofNat (48+m.drops.getD i 0)]++ [10]
def JT (m:Mk) (i:Nat):List UInt8:=KG m i++(List.range m.puts.length).flatMap (JV m i)
def LJ (n:Nat):List UInt8:=[114,117,108,101,32]++wB (.nam n)++ [32,61]
def GV (r:List Pt):List UInt8:=r.flatMap fun p=>32::wB p
def LN (k:Nat):List UInt8:=if 0<k then [32,124]else []
def LT (x:List (List Pt) × Nat):List UInt8:=LJ x.2++x.1.zipIdx.flatMap (fun y=>LN y.2++GV y.1)++ [10]
theorem gK (n:Nat) (rs:List (List Pt)):BQ (DZ n rs)++ [10]=LT (rs,n):=by
 unfold DZ LT LJ;rw[VG,List.flatMap_cons,List.flatMap_cons,o5,List.zipIdx_map,List.flatMap_map];have e:(fun x:List Pt × Nat=>J4 (Prod.map (fun r=>List.map wB r) id x).2 (Prod.map (fun r=>List.map wB r) id x).1)=fun y=>LN y.2++GV y.1:=by
  funext x
  show J4 x.2 (x.1.map wB)=_;unfold J4 LN GV;rw[List.flatMap_map]
 rw[e];simp
theorem iY (m:Mk) (i:Nat):(((I5 m i).map BQ).flatMap fun l=>l++ [10])=JT m i:=by
 unfold I5 JT;rw[List.map_cons,List.flatMap_cons,List.map_flatMap,List.flatMap_assoc]
 congr 1
 congr 1
 funext j
 unfold JV;split
 ·simp[IA,BQ,wB]
 ·rfl
theorem uK (m:Mk):DA m=ba ((List.range m.puts.length).flatMap (JT m)++m.rules.zipIdx.flatMap LT):=by
 unfold DA LS F4;rw[List.map_append,List.flatMap_append,List.map_flatMap,List.flatMap_assoc,List.map_map,List.flatMap_map]
 congr 2
 ·congr 1
  funext i
  exact iY m i
 ·congr 1
  funext x
  exact gK x.2 x.1
theorem MC {β:Type} (f:Nat->List β) (k:Nat):(List.range (k+1)).flatMap f=(List.range k).flatMap f++f k:=by
 rw[List.range_succ,List.flatMap_append];simp
theorem RE {α β:Type} (f:α->List β) {l:List α}{k:Nat}{a:α} (h:l[k]?=some a):(l.take (k+1)).flatMap f=(l.take k).flatMap f++f a:=by
 rw[List.take_add_one,h,List.flatMap_append];simp
theorem OQ (x:List UInt8) (b:ByteArray):ba x++b=ba (x++b.data.toList):=by
 apply bI;simp[ba]
end Go.Proofs.YtjjggdcnpndgjabGreatDoor
