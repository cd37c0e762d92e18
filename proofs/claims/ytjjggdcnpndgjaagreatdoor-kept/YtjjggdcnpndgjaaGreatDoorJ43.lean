import Derived.Test.YtjjggdcnpndgjaaGreatDoorJ42
set_option linter.unusedSimpArgs false
set_option maxHeartbeats 8000000
set_option maxRecDepth 100000
namespace Go.Proofs.YtjjggdcnpndgjaaGreatDoor
open Go.RowKit Go.Shelf
variable {B gb left mb n pb x:Nat}{N:NG}{NS:List NdV}{T:Tab}{k1 k2 k3 k4:List Fa}{l:List Nat}{m:Mk}{q:Nat->Bool}{raw rv tv:Value}{w:World}{ws:List ByteArray}
theorem UN  (hI:T.In w) (hp:w.cell? (af pb 0)=some (ac T.tb)) (hTw:UK T.tws T.N.nT) (hl:∀t∈l,t<T.N.nT) (hrow:RwS w w.heap.size rv (l.map (nth T.tws))) (hn:l.length<=1000):
  Calls Tryz.prog 55 #[ac pb,rv] w fun e w'=>Below w.heap.size w w'/\((l.length<=40/\∃v,e=.returned (.tuple #[v,ab 0])/\DD w' w.heap.size v l/\(l=[]->v=.slice none 0 0))\/(40<l.length/\e=.returned (.tuple #[.slice none 0 0,ab 10]))):=by
 have HN:Hid (∀V,Below w.heap.size w V->Calls Tryz.prog 92 #[.agg #[.slice T.adT T.N.nT T.capT,ae T.gN T.N.nN T.capN],rv] V fun e w'=>∃v,e=.returned (.tuple #[v,.bool true])/\(DD w' V.heap.size v l/\(l=[]->v=.slice none 0 0))/\Below V.heap.size V w'):=hid fun V hb=>by
  have hIV:=hI.below hI.bd hb;exact dY hIV.fc.gr hIV.fc.ln hTw hl ((hrow.below hb).mono hb.size) hn
 obtain⟨d0,d1,_⟩:=hI.tv.heads;obtain⟨nT,hnT⟩:=qF (T.N.nT);obtain⟨nN,hnN⟩:=qF (T.N.nN);rw[<-hnT,<-hnN]at HN;rw[<-hnT]at d0;rw[<-hnN]at d1;obtain⟨ad,cap,rfl,hcap,_⟩:=hrow;obtain⟨n,hnn⟩:=qF (l.length);rw[lM,<-hnn]at HN hcap ⊢;clear hI hTw hl hnT hnN hnn hcap
 by_cases h40:40<n
 ·have hni:((40:Int)< (n:Int)):=by omega
  go_enter Tryz.func55,Tryz.ntmps55
  go_wp2
  go_ret2
  exact⟨Below.refl _ _,.inr ⟨h40,rfl⟩⟩
 ·have hni:¬((40:Int)< (n:Int)):=by omega
  go_enter Tryz.func55,Tryz.ntmps55
  go_wp2_with (go_at_call 92;refine(HN.out _ (Below.refl _ w)).mono ?_;rintro e w2 ⟨v,rfl,h1,h2⟩;have H2:=hid (And.intro h1 h2);clear h1 h2)
  go_ret2
  exact⟨H2.out.2,.inl ⟨by omega,v,rfl,H2.out.1⟩⟩
structure LQ (T:Tab) (w:World) (pb:Nat):Prop where
 inn:T.In w
 ok:T.Ok
 pc:w.cell? (af pb 0)=some (ac T.tb)
 tws:UK T.tws T.N.nT
theorem LQ.below {w':World} (h:LQ T w pb) (hb:Below w.heap.size w w'):LQ T w' pb:=⟨h.inn.below h.inn.bd hb,h.ok,A4 hb h.pc,h.tws⟩
theorem nH  (h:LQ T w pb) (hl:∀t∈l,t<T.N.nT) (hrow:RwS w w.heap.size rv (l.map (nth T.tws))) (hn:l.length<=1000):
  Calls Tryz.prog 37 #[ac pb,rv] w fun e w'=>Below w.heap.size w w'/\((40<l.length/\e=.returned (.tuple #[.slice none 0 0,ab 0,ab 10]))\/(l.length<=40/\
   ((∃S v,TrL T.rul [.nam 0] l S/\e=.returned (.tuple #[v,ab (-1),ab 0])/\w'.ownsRow w.heap.size 129 3 v S.length (AY (S.map (N7 T))))\/
    (∃i:Nat,M3 T l i/\e=.returned (.tuple #[.slice none 0 0,ab i,ab 0]))))):=by
 have HT:Hid (∀V,Below w.heap.size w V->Calls Tryz.prog 55 #[ac pb,rv] V fun e w'=>Below V.heap.size V w'/\((l.length<=40/\∃v,e=.returned (.tuple #[v,ab 0])/\DD w' V.heap.size v l/\(l=[]->v=.slice none 0 0))\/(40<l.length/\e=.returned (.tuple #[.slice none 0 0,ab 10])))):=hid fun V hb=>UN (h.below hb).inn (h.below hb).pc h.tws hl ((hrow.below hb).mono hb.size) hn
 have HR:Hid (∀V v B,Below w.heap.size w V->DD V B v l->(l=[]->v=.slice none 0 0)->Calls Tryz.prog 73 #[ac T.tb,v] V fun e w'=>Below V.heap.size V w'/\
   ((∃S v,TrL T.rul [.nam 0] l S/\e=.returned (.tuple #[v,ab (-1),ab 0])/\w'.ownsRow V.heap.size 129 3 v S.length (AY (S.map (N7 T))))\/
    (∃i:Nat,M3 T l i/\e=.returned (.tuple #[.slice none 0 0,ab i,ab 0])))):=hid fun V v B hb hv hv2=>XN h.ok (h.below hb).inn ⟨hv.row (fun g hg=>CY hv hg),hv2⟩ hl (by omega)
 have HP:Hid (∀V,Below w.heap.size w V->V.cell? (af pb 0)=some (ac T.tb)):=hid fun V hb=>(h.below hb).pc
 clear h hl hrow
 go_enter Tryz.func37,Tryz.ntmps37
 go_upto_region 2 with(go_at_call 55;refine(HT.out _ (Below.refl _ w)).mono ?_;rintro e w2 ⟨hb2,(⟨h40,v,rfl,hv,hv2⟩ | ⟨h40,rfl⟩)⟩)
 ·have H2:=hid (And.intro hb2 (And.intro hv hv2))
  have cp:=HP.out w2 hb2;clear hb2 hv hv2
  go_wp2_with (go_at_call 73;refine(HR.out _ _ _ H2.out.1 H2.out.2.1 H2.out.2.2).mono ?_;rintro e w3 ⟨hb3,(⟨S,vt,hS,rfl,hvt⟩ | ⟨i,hi,rfl⟩)⟩)
  ·have H3:=hid (And.intro hb3 (And.intro hS hvt))
   clear hb3 hS hvt;go_wp2
   go_ret3
   exact⟨H2.out.1.trans (H3.out.1.mono H2.out.1.size),.inr ⟨h40,.inl ⟨S,vt,H3.out.2.1,rfl,OU H3.out.2.2 H2.out.1.size⟩⟩⟩
  ·have H3:=hid (And.intro hb3 hi)
   clear hb3 hi;go_wp2
   go_ret3
   exact⟨H2.out.1.trans (H3.out.1.mono H2.out.1.size),.inr ⟨h40,.inr ⟨i,H3.out.2,rfl⟩⟩⟩
 ·have H2:=hid hb2
  clear hb2;go_wp2
  go_ret3
  exact⟨H2.out,.inl ⟨h40,rfl⟩⟩
theorem qY {rb:Nat}{a0 a1 a2 a3 a4 a5:Value} (h:w.heap[rb]?=some (.cells #[a0,a1,a2,a3,a4,a5] 48 (0,0))):
  (w.cell? (af rb 0)=some a0/\w.cell? (af rb 1)=some a1/\w.cell? (af rb 2)=some a2/\w.cell? (af rb 3)=some a3/\w.cell? (af rb 4)=some a4/\w.cell? (af rb 5)=some a5)/\
  (w.frozen? (af rb 0)=false/\w.frozen? (af rb 1)=false/\w.frozen? (af rb 2)=false/\w.frozen? (af rb 3)=false/\w.frozen? (af rb 4)=false/\w.frozen? (af rb 5)=false):=
 ⟨⟨(A0 h).trans rfl,(A0 h).trans rfl,(A0 h).trans rfl,(A0 h).trans rfl,(A0 h).trans rfl,(A0 h).trans rfl⟩,A3 h,A3 h,A3 h,A3 h,A3 h,A3 h⟩
theorem QA.away {w':World}{B' rb:Nat}{row:List Nat}{E:List EdP}{b:List Nat}{c:Nat}{S:List GR}{ve vc vr vt vx:Value}{xs:List Value}{X:List (List ByteArray)} (h:QA T w B row E b c S ve vc vr vt vx xs X) (hk:A1 w w' [rb]) (hr:∃cs f,w.heap[rb]?=some (.cells cs 48 f)) (hB:B'<=B):QA T w' B' row E b c S ve vc vr vt vx xs X:=by
 have hoff:∀{e sz n:Nat}{v:Value}{l:List Value},w.ownsRow B e sz v n l->e≠48->w'.ownsRow B' e sz v n l:=fun h h1=>OU (b7 h hk (fun q hq=>by
  obtain⟨cs,f,h2⟩:=hr;rw[mS.1 hq];exact⟨_,_,_,h2,h1⟩)) hB
 exact⟨h.run,h.tree,h.least,hoff h.ed (by decide),hoff h.co (by decide),hoff h.wd (by decide),hoff h.nd (by decide),hoff h.xr (by decide),h.xl,fun i u l h1 h2=>hoff (h.xw i u l h1 h2) (by decide),h.ex⟩
theorem mJ  (h:LQ T w pb) (hTab:∀V,Below w.heap.size w V->TabAt 1 Lib.deBruijn32tab V) (hl:∀t∈l,t<T.N.nT) (hrow:RwS w w.heap.size rv (l.map (nth T.tws))) (hn:l.length<=1000) (hr0:0< (BE T.N.rules).1.length) (hex:l.length<=40->∃b c,Der T.N [.nam 0] b/\Al T.N l b c/\c<=9000):
  Calls Tryz.prog 22 #[ac pb,rv] w fun e w'=>Below w.heap.size w w'/\((40<l.length/\e=.returned (.tuple #[.agg #[.slice none 0 0,.slice none 0 0,ab 0,.slice none 0 0,.slice none 0 0,.slice none 0 0],ab 10]))\/(l.length<=40/\
   ∃E b c S ve vc vr vt vx xs X,e=.returned (.tuple #[.agg #[ve,vc,ab (c:Nat),vr,vt,vx],ab 0])/\QA T w' w.heap.size l E b c S ve vc vr vt vx xs X)):=by
 have HT:Hid (∀V,Below w.heap.size w V->Calls Tryz.prog 55 #[ac pb,rv] V fun e w'=>Below V.heap.size V w'/\((l.length<=40/\∃v,e=.returned (.tuple #[v,ab 0])/\DD w' V.heap.size v l/\(l=[]->v=.slice none 0 0))\/(40<l.length/\e=.returned (.tuple #[.slice none 0 0,ab 10])))):=hid fun V hb=>UN (h.below hb).inn (h.below hb).pc h.tws hl ((hrow.below hb).mono hb.size) hn
 have HM:Hid (∀V v B,l.length<=40->Below w.heap.size w V->DD V B v l->Calls Tryz.prog 56 #[ac T.tb,v] V fun r w'=>∃a1 n1 k1 a2 n2 k2 a3 n3 k3 a4 n4 k4 a5 n5 k5 E b c S xs X,r=.returned (.tuple #[.agg #[.slice a1 n1 k1,.slice a2 n2 k2,ab (c:Nat),.slice a3 n3 k3,.slice a4 n4 k4,.slice a5 n5 k5],ab 0])/\QA T w' V.heap.size l E b c S (.slice a1 n1 k1) (.slice a2 n2 k2) (.slice a3 n3 k3) (.slice a4 n4 k4) (.slice a5 n5 k5) xs X/\Below V.heap.size V w'):=hid fun V v B h40 hb hv=>by
  refine(rZ (h.below hb).inn h.ok (fun V' hb'=>hTab V' (hb.trans (hb'.mono hb.size))) (hv.row (fun g hg=>CY hv hg)) hl (by omega) hr0 (hex h40)).mono ?_;rintro r w' ⟨E,b,c,S,ve,vc,vr,vt,vx,xs,X,rfl,htd,hb3⟩;obtain⟨a1,k1,rfl⟩:=BQ htd.ed;obtain⟨a2,k2,rfl⟩:=BQ htd.co;obtain⟨a3,k3,rfl⟩:=BQ htd.wd;obtain⟨a4,k4,rfl⟩:=BQ htd.nd;obtain⟨a5,k5,rfl⟩:=BQ htd.xr;exact⟨_,_,_,_,_,_,_,_,_,_,_,_,_,_,_,E,b,c,S,xs,X,rfl,htd,hb3⟩
 have HP:Hid (∀V,Below w.heap.size w V->V.cell? (af pb 0)=some (ac T.tb)):=hid fun V hb=>(h.below hb).pc
 clear h hl hrow hTab hr0 hex
 go_enter Tryz.func22,Tryz.ntmps22
 go_upto_region 1 with fail
 obtain⟨W1,hW1⟩:=qE (w.alloc (.cells #[.slice none 0 0,.slice none 0 0,ab 0,.slice none 0 0,.slice none 0 0,.slice none 0 0] 48));have hb1:Below w.heap.size w W1:=by rw[<-hW1];exact(Below.refl _ w).alloc (lR_ _) _
 have hr1:W1.heap[w.heap.size]?=some (.cells #[.slice none 0 0,.slice none 0 0,ab 0,.slice none 0 0,.slice none 0 0,.slice none 0 0] 48 (0,0)):=by rw[<-hW1];exact World.alloc_heap_new w _
 have hs1:w.heap.size<W1.heap.size:=lt_of_block hr1;rw[hW1];have HB1:=hid hb1;have HR1:=hid hr1;clear hW1 hb1 hr1
 go_upto_region 2 with(go_at_call 55;refine(HT.out _ HB1.out).mono ?_;rintro e w2 ⟨hb2,(⟨h40,v,rfl,hv,hv2⟩ | ⟨h40,rfl⟩)⟩)
 ·have H2:=hid (And.intro hb2 hv)
  have hw2:Below w.heap.size w w2:=HB1.out.trans (hb2.mono (by omega));have cp:=HP.out w2 hw2;have HW2:=hid hw2;have hs2:=hb2.size;have hs2:W1.heap.size<=w2.heap.size:=hs2;clear hb2 hv hv2 hw2;have HRb:Hid (∀V,Below w2.heap.size w2 V->V.heap[w.heap.size]?=some (.cells #[.slice none 0 0,.slice none 0 0,ab 0,.slice none 0 0,.slice none 0 0,.slice none 0 0] 48 (0,0))):=hid fun V hb=>(hb.block w.heap.size (by omega)).trans ((H2.out.1.block w.heap.size hs1).trans HR1.out)
  go_wp2_with (go_at_call 56;refine(HM.out _ _ _ h40 HW2.out H2.out.2).mono ?_;rintro e w3 ⟨a1,n1,k1,a2,n2,k2,a3,n3,k3,a4,n4,k4,a5,n5,k5,E,b,c,S,xs,X,rfl,htd,hb3⟩;have H3:=hid (And.intro htd hb3);obtain⟨⟨b0,b1,b2,b3,b4,b5⟩,g0,g1,g2,g3,g4,g5⟩:=qY (HRb.out w3 hb3);clear htd hb3)
  have hrow:=(A5 (j:=5) (A5 (j:=4) (A5 (j:=3) (A5 (j:=2) (A5 (j:=1) (A5 (j:=0) (HRb.out w3 H3.out.2) (.slice a1 n1 k1)) (.slice a2 n2 k2)) (ab c)) (.slice a3 n3 k3)) (.slice a4 n4 k4)) (.slice a5 n5 k5));have hkF:A1 w3 ((((((w3.setCell (af w.heap.size 0) (.slice a1 n1 k1)).setCell (af w.heap.size 1) (.slice a2 n2 k2)).setCell (af w.heap.size 2) (ab c)).setCell (af w.heap.size 3) (.slice a3 n3 k3)).setCell (af w.heap.size 4) (.slice a4 n4 k4)).setCell (af w.heap.size 5) (.slice a5 n5 k5)) [w.heap.size]:=((((((A1.refl w3 _).setCell (by simp) _).setCell (by simp) _).setCell (by simp) _).setCell (by simp) _).setCell (by simp) _).setCell (by simp) _;refine bodyPost_ret (IY (p:=4) (t:=5) (ty:=48) rfl _ _ w.heap.size _ _ _ _ rfl hrow Tryz.underlying48 rfl y1Z) rfl ?_;refine⟨(HW2.out.trans (H3.out.2.mono HW2.out.size)).trans (hkF.below (by have:=HW2.out.size;have:=H3.out.2.size;omega) (fun q hq=>by rw[mS.1 hq];exact lR_ _)),.inr ⟨h40,E,b,c,S,_,_,_,_,_,xs,X,rfl,H3.out.1.away hkF ⟨_,_,HRb.out w3 H3.out.2⟩ (by omega)⟩⟩
 ·have H2:=hid hb2
  have hr2:=(hb2.block w.heap.size hs1).trans HR1.out;have b0:=(A0 (j:=0) hr2).trans rfl;have b1:=(A0 (j:=1) hr2).trans rfl;have b2:=(A0 (j:=2) hr2).trans rfl;have b3:=(A0 (j:=3) hr2).trans rfl;have b4:=(A0 (j:=4) hr2).trans rfl;have b5:=(A0 (j:=5) hr2).trans rfl;have g0:=A3 (j:=0) hr2;have g1:=A3 (j:=1) hr2;have g2:=A3 (j:=2) hr2;have g3:=A3 (j:=3) hr2;have g4:=A3 (j:=4) hr2;have g5:=A3 (j:=5) hr2;have HR2:=hid hr2;clear hb2 hr2;go_wp2;have hrow:=(A5 (j:=5) (A5 (j:=4) (A5 (j:=3) (A5 (j:=2) (A5 (j:=1) (A5 (j:=0) HR2.out (.slice none 0 0)) (.slice none 0 0)) (ab 0)) (.slice none 0 0)) (.slice none 0 0)) (.slice none 0 0));have hkF:A1 w2 ((((((w2.setCell (af w.heap.size 0) (.slice none 0 0)).setCell (af w.heap.size 1) (.slice none 0 0)).setCell (af w.heap.size 2) (ab 0)).setCell (af w.heap.size 3) (.slice none 0 0)).setCell (af w.heap.size 4) (.slice none 0 0)).setCell (af w.heap.size 5) (.slice none 0 0)) [w.heap.size]:=((((((A1.refl w2 _).setCell (by simp) _).setCell (by simp) _).setCell (by simp) _).setCell (by simp) _).setCell (by simp) _).setCell (by simp) _
  refine bodyPost_ret (IY (p:=4) (t:=5) (ty:=48) rfl _ _ w.heap.size _ _ _ _ rfl hrow Tryz.underlying48 rfl y1Z) rfl ?_;have hw2:Below w.heap.size w w2:=HB1.out.trans (H2.out.mono (by omega));exact⟨hw2.trans (hkF.below hw2.size (fun q hq=>by rw[mS.1 hq];exact lR_ _)),.inl ⟨h40,rfl⟩⟩
theorem pD {P:List Ln}{G:Gr} (h:GOk P G):∀i,i< (ngL P).nN->nmW (pgL (D5 P) P) i=nth G.names i:=by
 intro i hi;rw[N1]at hi;unfold nmW nth;rw[h.g.names,gD_,gD_,Int.toNat_natCast];unfold pgL;rw[gM,gE hi];simp[G0,hi,U5]
theorem oM (s:ByteArray) (w:World) (hG:DM w) (hs:s.size<=9223372036854775807) (he:(GP s).1=0):
  Calls Tryz.prog 105 #[.string s] w fun e w'=>∃adT capT gN capN,e=.returned (.tuple #[.agg #[.slice adT (ngL (AE (AF s 0).1)).nT capT,ae gN (ngL (AE (AF s 0).1)).nN capN],ab 0])/\(∀W'',(∀q,w.heap.size<=q->q<w'.heap.size->W''.heap[q]?=w'.heap[q]?)->PGr W'' w'.heap.size (ngL (AE (AF s 0).1)) (LE (AE (AF s 0).1)) (pgL (D5 (AE (AF s 0).1)) (AE (AF s 0).1)) adT capT gN capN)/\Below w.heap.size w w':=by
 have hp:(DT s).1=0:=by rw[R9];exact he
 have h4:s.size<=4000:=by
  rcases Nat.lt_or_ge 4000 s.size with h |h
  ·unfold DT at hp;rw[if_pos h]at hp;cases hp
  ·exact h
 exact qM s w hG hs (TM s) hp _ _ _ (fun W B v pv hb hV=>mZ _ _ (UZ s he) (TM s h4) W (hG.below hb hG.size) B v pv hV)
structure N6 (N:NG) (k1 k2 k3 k4:List Fa):Prop where
 fd:RU N k1 k2
 i3:I5 N k2 k3
 s3:∀r∈N.rules,EE k3 r=k3
 i4:FF N k3 k4
 s4:∀r∈N.rules,ES k4 r=k4
theorem WK  (hN:N.Ok)  (h:RU N k1 k2):emP k2=bAt (BP N false):=by
 funext n
 obtain⟨_,h2,_⟩:=VR hN h.i1 h.s1;have h3:=h2.unique (LT N hN false).1 n;rw[<-h3];unfold emP;rw[h.i2.fl]
theorem N6.em  (hN:N.Ok)  (h:N6 N k1 k2 k3 k4):emP k4=bAt (BP N false):=by
 rw[N3 h.i4.fl,N3 h.i3.fl,WK hN h.fd]
theorem N6.first  (hN:N.Ok)  (h:N6 N k1 k2 k3 k4) (n t:Nat):(AM k4 n).testBit t=col (IW N (bAt (BP N false))) t n:=by
 have h1:=jA hN h.i3 h.s3 t;rw[WK hN h.fd]at h1;rw[h.i4.fh];exact h1.unique ((Q1 N hN _).2 t) n
theorem N6.follow  (hN:N.Ok) (hT:N.nT<=20)  (h:N6 N k1 k2 k3 k4) (n t:Nat):(B3 k4 n).testBit t=col (OY N (IW N (bAt (BP N false))) (bAt (BP N false))) t n:=by
 have h1:=dR hN hT h.i4 h.s4 t;rw[N3 h.i3.fl,WK hN h.fd]at h1;have h2:(fun n=>(AM k3 n).testBit t)=col (IW N (bAt (BP N false))) t:=by
  funext n
  rw[<-h.first hN n t,h.i4.fh]
 rw[h2]at h1;exact h1.unique ((jK N hN _ (Q1 N hN _).1 _).2 t) n
theorem MN {i:Nat} (h:J7 n q=some i):i<n/\q i=false/\∀j,j<i->q j=true:=by
 unfold J7 at h;rw[List.find?_eq_some_iff_getElem]at h;obtain⟨h1,m,hm,h2,h3⟩:=h;simp at hm h2;subst h2;refine⟨hm,by simpa using h1,fun j hj=>?_⟩;have:=h3 j hj;simpa using this
theorem XR  (h:J7 n q=none):∀j,j<n->q j=true:=by
 intro j hj;unfold J7 at h;rw[List.find?_eq_none]at h;have:=h j (List.mem_range.2 hj);simpa using this
theorem TX {p:Fa->Bool}{k:List Fa} (hl:k.length=n) (h:∀(i:Nat) a,k[i]?=some a->p a= !q i):DH p k=match J7 n q with
  |some i=>(i:Int)
  |none=> -1:=by
 cases ho:J7 n q with
 |some i=>
  obtain⟨h1,h2,h3⟩:=MN ho;refine fQ (a:=k[i]) (gE (by omega)) ?_ (fun m b hm hb=>?_)
  ·rw[h i _ (gE (by omega)),h2];rfl
  ·rw[h m b hb,h3 m hm];rfl
 |none=>
  refine fY fun m b hb=>?_
  rw[h m b hb,XR ho m (by have:=(gS_.1 hb).1;omega)];rfl
theorem jG {G:Gr} (hN:N.Ok) {pg:List Nm} (h:RU N k1 k2) (hnm:∀i,i<N.nN->nmW pg i=nth G.names i):FK pg k2=OG G N:=by
 obtain⟨l1,_,l3⟩:=VR hN h.i1 h.s1;have e1:=fun n=>l1.unique (LT N hN true).1 n
 have e2:=fun n=>(kI hN h.i2 h.s2).unique (UI N hN).1 n
 have e3:=fun n=>l3.unique (SO N hN).1 n
 have hle:=h.i1.le;have i1:=TX (p:=fp1) (q:=bAt (BP N true)) h.i2.len (fun i a ha=>by
  have h1:=ZI ha;rw[h.i2.fl]at h1;rw[<-e1 i,h1];unfold fp1
  by_cases hz:a.least=202
  ·simp[hz]
  ·have:((a.least:Int)==202)=false:=by simp;omega
   rw[this];simp[hz])
 have i2:=TX (p:=fp2) (q:=bAt (IR N)) h.i2.len (fun i a ha=>by
  rw[<-e2 i,sL ha];rfl)
 unfold FK OG;rw[i1,i2];cases h1:J7 N.nN (bAt (BP N true))with
 |some i=>
  simp only;rw[if_pos (by omega),hnm i (MN h1).1]
 |none=>
  simp only;rw[if_neg (by decide)];cases h2:J7 N.nN (bAt (IR N))with
  |some i=>
   simp only;rw[if_pos (by omega),hnm i (MN h2).1]
  |none=>
   simp only;rw[if_neg (by decide)];have i3:=TX (p:=fp3) (q:=fun i=>decide (lAt (JP N) i<=200)) h.i2.len (fun i a ha=>by
    have h3:=ZI ha;rw[h.i2.fl]at h3;have hi:i<N.nN:=by rw[<-h.i2.len];exact(gS_.1 ha).1
    have h4:=XR h1 i hi;rw[<-e1 i]at h4;have h5:=of_decide_eq_true h4;have h6:=e3 i;have h7:=hle i;rw[h3]at h5 h6 h7;simp only[<-h6];unfold fp3
    by_cases hz:a.least=201
    ·simp[hz]
    ·have h8:((a.least:Int)==201)=false:=by simp;omega
     rw[h8];have h9:min a.least 201<=200:=by omega
     simp[h9])
   rw[i3];cases h3:J7 N.nN (fun i=>decide (lAt (JP N) i<=200))with
   |some i=>
    simp only;rw[if_pos (by omega),hnm i (MN h3).1]
   |none=>
    simp only;rw[if_neg (by decide)]
theorem iM (s:ByteArray) (w:World) (H:Option Addr->ByteArray->Int->Int->ByteArray->Int->Prop)
  (hR:∀W,Below w.heap.size w W->Calls Tryz.prog 49 #[.string s] W fun e w'=>∃p pn pr po pt err,e=.returned (.tuple #[.pointer p,.agg #[.string pn,ab pr,ab po,.string pt],ab err])/\H p pn pr po pt err/\Below W.heap.size W w'):
  Calls Tryz.prog 15 #[.string s] w fun e w'=>∃p pn pr po pt err,e=.returned (.tuple #[.agg #[.string pn,ab pr,ab po,.string pt],ab err])/\H p pn pr po pt err/\Below w.heap.size w w':=by
 have HR:=hid hR;clear hR
 go_enter Tryz.func15,Tryz.ntmps15
 go_wp2_with (go_at_call 49;refine(HR.out _ (bal (Below.refl _ _))).mono ?_;rintro e w2 ⟨p,pn,pr,po,pt,err,rfl,hH,hb2⟩;rw[World.size_alloc]at hb2;have HH:=hid hH;have HB:Hid (Below w.heap.size w w2):=hid ((bal (Below.refl _ _)).trans (hb2.mono (by omega)));have h0:=(hb2.block w.heap.size (by omega)).trans (World.alloc_heap_new w _);have HX:=hid h0;obtain⟨g0,g1,g2,g3⟩:w2.cell? (af w.heap.size 0)=some (.string ByteArray.empty)/\w2.cell? (af w.heap.size 1)=some (ab 0)/\w2.cell? (af w.heap.size 2)=some (ab 0)/\w2.cell? (af w.heap.size 3)=some (.string ByteArray.empty):=⟨A0 h0,A0 h0,A0 h0,A0 h0⟩;have q0:=A3 (j:=0) h0;have q1:=A3 (j:=1) h0;have q2:=A3 (j:=2) h0;have q3:=A3 (j:=3) h0;have hlt:=lt_of_block h0;clear hb2 hH h0 HR)
 have r0:=A5 (j:=3) (A5 (j:=2) (A5 (j:=1) (A5 (j:=0) HX.out (.string pn)) (ab pr)) (ab po)) (.string pt);have r1:=(Below.heap_alloc _ (.cells #[.string pn,ab pr,ab po,.string pt] 27) _ (lt_of_block r0)).trans r0;have HBE:=((((HB.out.setCell (p:=(af w.heap.size 0)) y17Z (.string pn)).setCell (p:=(af w.heap.size 1)) y17Z (ab pr)).setCell (p:=(af w.heap.size 2)) y17Z (ab po)).setCell (p:=(af w.heap.size 3)) y17Z (.string pt));refine⟨rfl,_,IY (p:=2) (t:=3) (ty:=27) rfl _ _ w.heap.size _ _ _ _ rfl r1 Tryz.underlying27 rfl y1Z,?_⟩;exact⟨p,pn,pr,po,pt,err,rfl,HH.out,HBE.alloc HBE.size _⟩
theorem jH (s:ByteArray) (w:World) (Q:World->Nat->Prop) (hQ:∀w1 w2 t,Q w1 t->Below w1.heap.size w1 w2->Q w2 t)
  (hR:Calls Tryz.prog 49 #[.string s] w fun e w'=>∃tb pn pr po pt,e=.returned (.tuple #[ac tb,.agg #[.string pn,ab pr,ab po,.string pt],ab 0])/\Q w' tb/\Below w.heap.size w w'):
  Calls Tryz.prog 35 #[.string s] w fun e w'=>∃gp,e=.returned (.tuple #[ac gp,ab 0])/\(∃tb,w'.cell? (af gp 0)=some (ac tb)/\Q w' tb)/\Below w.heap.size w w':=by
 have HR:=hid hR;have HQ:=hid hQ;clear hR hQ
 go_enter Tryz.func35,Tryz.ntmps35
 go_wp2_with (go_at_call 49;refine HR.out.mono ?_;rintro e w2 ⟨tb,pn,pr,po,pt,rfl,hq,hb2⟩;have HB:=hid hb2;have HQ2:=hid hq;clear hb2 hq HR)
 go_ret2
 have hbx:=BH (w2.alloc (.cells #[.string pn,ab pr,ab po,.string pt] 27)) #[ac tb] 113 0;rw[World.size_alloc]at hbx;refine⟨_,rfl,⟨tb,hbx,HQ.out _ _ _ HQ2.out (bal (bal (Below.refl _ _)))⟩,bal (bal HB.out)⟩
section
def S1 (i:Nat):Nat->Nat->Nat->Prop:=fun x _ _=>x<i
def S2 (i k:Nat):Nat->Nat->Nat->Prop:=fun x y _=>x<i\/x=i/\y<k
def S3 (i k t:Nat):Nat->Nat->Nat->Prop:=fun x y z=>x<i\/x=i/\(y<k\/y=k/\z<t)
section
variable {H S S':Nat->Nat->Nat->Prop}{a:Bool}{i k t n:Nat}
end
end
section
theorem mK (pg:List Nm):P1 pg=S8 (pg.map (·.2)) 0:=by
 unfold P1 S8;rw[List.zipIdx_map,List.flatMap_map];rfl
section
variable {N:NG}{L:List (List (List Pt))}
end
end
abbrev PT (s:ByteArray):List Ln:=AE (AF s 0).1
abbrev NT (s:ByteArray):NG:=ngL (PT s)
abbrev WT (s:ByteArray):List ByteArray:=LE (PT s)
abbrev GT (s:ByteArray):List Nm:=pgL (D5 (PT s)) (PT s)
abbrev vI (s:ByteArray):ByteArray × Int:=OG (GP s).2.2 (NT s)
theorem pW {s:ByteArray} (he:(GP s).1=0) (n:Nat) (nm:Nm) (r:Nat) (ps:List Pt) (hn:(GT s)[n]?=some nm) (hr:nm.2[r]?=some ps):ps.length<=8/\BB (NT s) ps:=by
 have hg:=UZ s he;have hR:=bR hg;refine⟨?_,?_⟩
 ·unfold GT pgL at hn
  rw[gM]at hn;cases hx:(AL (PT s))[n]? with
  |none=>rw[hx]at hn;cases hn
  |some x=>
   rw[hx]at hn;injection hn with hn
   subst hn;unfold U5 at hr;rw[gM]at hr;cases hy:(A8 x.2.2)[r]? with
   |none=>rw[hy]at hr;cases hr
   |some y=>
    rw[hy]at hr;injection hr with hr
    subst hr;rw[lM];exact lT_ (VV (mG hy)) (hg.long x (mG hx))
 ·have h1:(n,ps)∈(NT s).rules:=by
   show(n,ps)∈P1 (GT s);rw[mK];have h2:=cI ((GT s).map (·.2)) 0 n r nm.2 ps (by rw[gM,hn];rfl) hr;rw[Nat.zero_add]at h2;exact mG h2
  exact hR.ok.ps h1
theorem gW (s:ByteArray) (w:World) (hG:DM w) (hs:s.size<=9223372036854775807) (he:(GP s).1=0):
  Calls Tryz.prog 68 #[.string s] w fun e w'=>uZ (NT s) (WT s) (GT s) w e w':=
 rJ s w _ _ _ (fun W hb=>oM s W (hG.below hb hG.size) hs he)
theorem iA (s:ByteArray) (w:World) (hG:DM w) (hT:TabAt 1 Lib.deBruijn32tab w) (hs:s.size<=9223372036854775807) (he:(GP s).1=0) (hz:(vI s).2=0):
  Calls Tryz.prog 49 #[.string s] w fun e w'=>Below w.heap.size w w'/\
   ((∃(n q r t:Nat) (nm:Nm),e=.returned (.tuple #[.pointer none,.agg #[.string nm.1,ab q,ab r,.string (D1 (WT s) (NT s).nT t)],ab 9])/\(GT s)[n]?=some nm/\wZ (NT s) ((GT s).map (·.2)) n q r t)\/
    (∃tb k4,e=.returned (.tuple #[ac tb,.agg #[.string ByteArray.empty,ab 0,ab 0,.string ByteArray.empty],ab 0])/\(∃k1 k2 k3,N6 (NT s) k1 k2 k3 k4)/\jI (NT s) (WT s) (GT s) k4 w' tb/\∀n,n< ((GT s).map (·.2)).length->qV (NT s) ((GT s).map (·.2)) n)):=by
 have hg:=UZ s he;have hR:=bR hg;have key:∀{k1 k2 k3 k4:List Fa},N6 (NT s) k1 k2 k3 k4->∀{n r:Nat}{nm:Nm}{ps:List Pt}{t:Nat},(GT s)[n]?=some nm->nm.2[r]?=some ps->(F7 k4 (GT s) n r).testBit t=QP (NT s) n ps t:=by
  intro k1 k2 k3 k4 hD n r nm ps t hn hr;rw[RX _ hn hr];exact qU (hD.em hR.ok) (hD.first hR.ok) (hD.follow hR.ok hR.leT) _ _ _
 have none_of:∀{k1 k2 k3 k4:List Fa},N6 (NT s) k1 k2 k3 k4->∀{R:Nat->Nat->Int}{m:Nat},(∀nm':Nm,(GT s)[m]?=some nm'->∀t,t<21->J2 (F7 k4 (GT s) m) nm'.2.length (R m) t)->qV (NT s) ((GT s).map (·.2)) m:=by
  intro k1 k2 k3 k4 hD R m hrow rs r0 r p0 p t h1 h2 h3 h4 h5;rw[gM]at h1;cases hm:(GT s)[m]? with
  |none=>rw[hm]at h1;cases h1
  |some nm'=>
   rw[hm]at h1;injection h1 with h1
   subst h1;have ht:t<21:=by have h9:(NT s).nT<=20:=hR.leT;omega
   have h6:=qP (hrow nm' hm t ht) h2 (gS_.1 h4).1
   rwa [key hD hm h3,key hD hm h4]at h6
 refine(sC s w (NT s) (WT s) (GT s) hT hR.ok (fun k2 k3 k4=>∃k1,N6 (NT s) k1 k2 k3 k4) (pW he) (fun W hb=>(gW s W (hG.below hb hG.size) hs he).mono ?_)).mono ?_
 ·rintro e w' ⟨hb',k1,k2,hf,h⟩
  have hsame:=jG hR.ok hf (pD hg)
  rcases h with⟨h,_⟩ | ⟨_,k3,k4,n₀,kb,adT,capT,gN,capN,h3,s3,h4,s4,h5,h6,h7,h8,h9⟩
  ·rw[hsame]at h;exact absurd hz h
  ·exact⟨hb',k2,k3,k4,n₀,kb,adT,capT,gN,capN,⟨k1,hf,h3,s3,h4,s4⟩,h3,h4,h5,h6,h9,h7,h8⟩
 ·rintro e w' ⟨hb',k2,k3,k4,⟨k1,hD⟩,⟨n,q,r,t,nm,h1,h2,h3,h4,h5,h6,h7,R,h8⟩ | ⟨tb,h1,h2⟩⟩
  ·refine⟨hb',.inl ⟨n,q,r,t,nm,h1,h2,⟨?_,fun m hm=>none_of hD (h8 m hm)⟩⟩⟩
   obtain⟨p0,hp0⟩:∃p0,nm.2[q]?=some p0:=⟨_,gE (by omega)⟩;obtain⟨p,hp⟩:∃p,nm.2[r]?=some p:=⟨_,gE h4⟩;exact⟨nm.2,p0,p,by rw[gM,h2];rfl,h3,hp0,hp,h5,by rw[<-key hD h2 hp0];exact h6,by rw[<-key hD h2 hp];exact h7⟩
  ·obtain⟨n₀,kb,adT,capT,gN,capN,R,E,_,_,_,_,_,h3⟩:=h2.ex
   exact⟨hb',.inr ⟨tb,k4,h1,⟨k1,k2,k3,hD⟩,h2,fun n _=>none_of hD (h3 n)⟩⟩
theorem gO  (h:m.Good):NT (BO m)=ngM m:=pE h
theorem tR  (h:m.Good):WT (BO m)=N4 m:=QX h
theorem tZ  (h:m.Good):GT (BO m)=pgM m:=TB h
theorem pF  (h:m.Good):(vI (BO m)).2=0:=by
 show(OG _ (NT (BO m))).2=0;rw[gO h,k6 h]
theorem tH  (h:m.Good)  (hD:N6 (ngM m) k1 k2 k3 k4) {tb:Nat} (ht:jI (ngM m) (N4 m) (pgM m) k4 w tb):
  ∃T:Tab,T.N=ngM m/\T.tws=N4 m/\T.pg=pgM m/\T.rul=FN m/\T.tb=tb/\T.Ok/\T.In w/\T.k=k4:=by
 obtain⟨n₀,kb,adT,capT,gN,capN,R,E,_,hF,hV,_,hE,hR⟩:=ht.ex;have hN:=IU h;have hem:emP k4=bAt (BP (ngM m) false):=hD.em hN;have hemf:∀n,emP k4 n=false:=fun n=>by rw[hem];exact rW h n
 refine⟨⟨n₀,tb,kb,ngM m,N4 m,pgM m,adT,capT,gN,capN,k4,R,E,FN m⟩,rfl,rfl,rfl,rfl,rfl,?_,⟨hF,hV⟩,rfl⟩;have hbeg:∀n t,n< (ngM m).nN->t<=20->(AM k4 n).testBit t=(FN m n t).isSome:=fun n t hn ht=>by
  obtain⟨rs,hrs⟩:∃rs,m.rules[n]?=some rs:=⟨_,gE hn⟩;rw[hD.first hN];show bAt (mAt _ n) t=_;rw[oQ h hrs,OJ hrs,Bool.eq_iff_iff,decide_eq_true_eq,Option.isSome_iff_ne_none];rw[ne_eq,List.getElem?_eq_none_iff];omega
 have hspk:∀{n q t:Nat}{nm:Nm}{ps:List Pt},(pgM m)[n]?=some nm->nm.2[q]?=some ps->(F7 k4 (pgM m) n q).testBit t=decide (q=t):=fun {n q t nm ps} hn hq=>by
  rw[RX k4 hn hq,JT];obtain⟨rest,e⟩:=K7 h n q ps (by rw[OJ (fX m hn)];exact hq);rw[e];have e2:FG (emP k4) (Pt.tok q::rest)=false:=rfl;rw[e2];show(q==t||_)=_;rw[Bool.eq_iff_iff];simp
 constructor
 ·exact fun n=>by show AM k4 n<_;rw[hD.i4.fh];exact hD.i3.lt n
 ·exact hbeg
 ·intro n t rhs hk
  have hk:FN m n t=some rhs:=hk;obtain⟨rs,h1,h2⟩:=M6 hk;obtain⟨h3,h4,_,_⟩:=fK h hk;refine⟨h3,h4,(BL n,rs),RC m h1,?_,h2⟩;have ht21:t<21:=by have:=h.t6;omega
  have hlt:=(gS_.1 h2).1
  rcases hR n _ (RC m h1) t ht21 with⟨_,h5⟩ | ⟨q,h5,h6,h7,_⟩
  ·have:=h5 t hlt
   rw[hspk (RC m h1) h2]at this;simp at this
  ·obtain⟨p,hp⟩:∃p,rs[q]?=some p:=⟨_,gE h5⟩
   rw[hspk (RC m h1) hp,decide_eq_true_eq]at h7;subst h7;exact h6
 ·intro n t rhs hk
  exact(fK h hk).2.2
 ·intro n
  show E n=0;rw[hE (fun r hr=>by
   obtain⟨k,hk⟩:=(KL m r.1 r.2).1 hr;obtain⟨rest,e⟩:=K7 h _ _ _ hk;rw[e];rfl)]
 ·exact K7 h
 ·exact KL m
 ·exact h.n1
 ·exact fun n _=>hemf n
theorem t8  (h:m.Good):0< (BE (ngM m).rules).1.length:=by
 obtain⟨r,hr,_⟩:=h.lastR (n:=0) h.n1
 generalize (ngM m).rules=L at hr
 rcases List.eq_nil_or_concat L with rfl | ⟨L',x,rfl⟩
 ·cases hr
 ·rw[List.concat_eq_append,SN]
  unfold D4;simp only[lA,List.length_singleton];omega
theorem XG  (h:m.Good) (w:World) (hG:DM w) (hT:TabAt 1 Lib.deBruijn32tab w):
  Calls Tryz.prog 49 #[.string (BO m)] w fun e w'=>Below w.heap.size w w'/\∃(tb:Nat) (T:Tab),e=.returned (.tuple #[ac tb,.agg #[.string ByteArray.empty,ab 0,ab 0,.string ByteArray.empty],ab 0])/\T.N=ngM m/\T.tws=N4 m/\T.rul=FN m/\T.tb=tb/\T.Ok/\T.In w'/\T.pg=pgM m:=by
 have hs:(BO m).size<=9223372036854775807:=by have:=MI h;omega
 refine(iA (BO m) w hG hT hs (XD h) (pF h)).mono ?_;rw[gO h,tZ h,tR h];rintro e w' ⟨hb,⟨n,q,r,t,nm,_,hn,hcl⟩ | ⟨tb,k4,rfl,⟨k1,k2,k3,hD⟩,ht,_⟩⟩
 ·exfalso
  obtain⟨rs,p0,p,h1,h2,h3,h4,_,h5,h6⟩:=hcl.ex;rw[gM,hn]at h1;injection h1 with h1
  subst h1;have hsp:∀{q:Nat}{ps:List Pt},nm.2[q]?=some ps->QP (ngM m) n ps t=decide (q=t):=fun {q ps} hq=>by
   obtain⟨rest,e⟩:=K7 h n q ps (by rw[OJ (fX m hn)];exact hq);rw[e];unfold QP;rw[Bool.eq_iff_iff];simp[DV,FG]
  rw[hsp h3,decide_eq_true_eq]at h5;rw[hsp h4,decide_eq_true_eq]at h6;omega
 ·obtain⟨T,h1,h2,h3,h4,h5,h6,h7,_⟩:=tH h hD ht
  exact⟨hb,tb,T,rfl,h1,h2,h4,h5,h6,h7,h3⟩
theorem iD  (h:m.Good) (w:World) (hG:DM w) (hT:TabAt 1 Lib.deBruijn32tab w):
  Calls Tryz.prog 15 #[.string (BO m)] w fun e w'=>e=.returned (.tuple #[.agg #[.string ByteArray.empty,ab 0,ab 0,.string ByteArray.empty],ab 0])/\Below w.heap.size w w':=by
 have htl:1<w.heap.size:=World.block_lt_of_cell? _ _ (hT 0 (by decide));refine(iM (BO m) w (fun _ pn pr po pt err=>pn=ByteArray.empty/\pr=0/\po=0/\pt=ByteArray.empty/\err=0) (fun W hb=>(XG h W (hG.below hb hG.size) (TabAt.below hT hb htl)).mono ?_)).mono ?_
 ·rintro e w' ⟨hb',tb,T,rfl,_⟩
  exact⟨_,_,_,_,_,_,rfl,⟨rfl,rfl,rfl,rfl,rfl⟩,hb'⟩
 ·rintro e w' ⟨p,pn,pr,po,pt,err,rfl,⟨rfl,rfl,rfl,rfl,rfl⟩,hb'⟩
  exact⟨rfl,hb'⟩
theorem ZZ  (h:m.Good) (w:World) (hG:DM w) (hT:TabAt 1 Lib.deBruijn32tab w):
  Calls Tryz.prog 35 #[.string (BO m)] w fun e w'=>∃(gp:Nat) (T:Tab),e=.returned (.tuple #[ac gp,ab 0])/\LQ T w' gp/\T.N=ngM m/\T.tws=N4 m/\T.rul=FN m/\T.pg=pgM m/\Below w.heap.size w w':=by
 refine(jH (BO m) w (fun W tb=>∃T:Tab,T.N=ngM m/\T.tws=N4 m/\T.rul=FN m/\T.tb=tb/\T.Ok/\T.In W/\T.pg=pgM m) ?_ ((XG h w hG hT).mono ?_)).mono ?_
 ·rintro w1 w2 t ⟨T,h1,h2,h3,h4,h5,h6,h7⟩ hb
  exact⟨T,h1,h2,h3,h4,h5,h6.below h6.bd hb,h7⟩
 ·rintro e w' ⟨hb,tb,T,rfl,hT⟩
  exact⟨tb,_,_,_,_,rfl,⟨T,hT⟩,hb⟩
 ·rintro e w' ⟨gp,rfl,⟨tb,hc,T,h1,h2,h3,h4,h5,h6,h7⟩,hb⟩
  exact⟨gp,T,rfl,⟨h6,h5,by rw[h4];exact hc,by rw[h2,h1];exact sW h⟩,h1,h2,h3,h7,hb⟩
theorem Tryz.infoG9:(Tryz.prog.info? 9).map (fun i=>(i.zero,i.size,i.bytes))=some (some (.string ByteArray.empty),1,16):=by kernel_rfl
theorem Tryz.infoG129:(Tryz.prog.info? 129).map (fun i=>(i.zero,i.size,i.bytes))=some (some (.agg #[.string ByteArray.empty,ab 0,ab 0]),3,32):=by kernel_rfl
structure GG (w:World) (gb B mb:Nat) (raw:Value) (x left:Nat) (rv tv:Value) (ws:List ByteArray) (NS:List NdV):Prop where
 blk:w.heap[gb]?=some (.cells #[ac mb,raw,ab x,rv,tv,ab left] 143 (0,0))
 row:DI w B rv ws
 tree:w.ownsRow B 129 3 tv NS.length (AY NS)
def ndM (nd:GR):NdV:=(ER nd.part,nd.rule,nd.size)
def J4:Pt->Nat
 | .tok _=>0
 | .nam _=>1
def US (m:Mk) (mb B:Nat) (raw:Value) (left:Nat) (p:Pt):Prop:=∀(w:World) (gb:Nat) (rv tv:Value) (ws:List ByteArray) (NS:List NdV) (x:Nat),
 (∀W,Below B w W->MkV W B mb m/\KG W raw)->B<=gb->B<=w.heap.size->GG w gb B mb raw x left rv tv ws NS->x+left<=1000->left<=3->ws.length+5 ^(left+J4 p)<=100000->NS.length+6 ^(left+J4 p)<=100000->
 Calls Tryz.prog 72 #[ac gb,.string (ER p)] w fun e w'=>e=.returned (.tuple #[])/\∃l S rv' tv' x' left',TrL (FN m) [p] l S/\x'+left'=x+left/\left'<=left/\l.length<=5 ^(left+J4 p)/\S.length<=6 ^(left+J4 p)/\GG w' gb B mb raw x' left' rv' tv' (ws++l.map AJ) (NS++S.map ndM)/\Below B w w'
theorem lH (l:List ByteArray) (s:ByteArray):J1 (l++ [s])=J1 l++ [.string s]:=by unfold J1;simp
theorem GG.drew  (h:GG w gb B mb raw x left rv tv ws NS):GG w.drew gb B mb raw x left rv tv ws NS:=⟨h.blk,h.row,h.tree⟩
theorem GG.word {W w1 Wa:World}{v':Value}{s:ByteArray} (h:GG W gb B mb raw x left rv tv ws NS) (hka:A1 W Wa []) (hgb:B<=gb) (hB:B<=W.heap.size)
  (hown:w1.ownsRow B 9 1 v' (ws.length+1) (J1 ws++ [.string s])) (hgrow:Wa.grownBy w1 rv.ownBlock):
  (w1.cell? (af gb 3)=some rv/\w1.frozen? (af gb 3)=false)/\GG (w1.setCell (af gb 3) v') gb B mb raw x left v' tv (ws++ [s]) NS/\Below B W (w1.setCell (af gb 3) v'):=by
 obtain⟨z1,z2,z3,z4⟩:=EQ (j:=3) hka h.blk (by decide) h.row hown hgrow;refine⟨⟨(A0 z1).trans rfl,A3 z1⟩,⟨z2,?_,A7 h.tree z4 (fun g hg hm=>?_)⟩,z4.below hB (fun q hq=>?_)⟩
 ·unfold DI;rw[lH,lA];exact z3
 ·rcases List.mem_cons.1 hm with e |e
  ·subst e;exact A6 h.tree h.blk (by decide) hg
  ·exact GH h.tree h.row (by decide) hg y5Z
 ·rcases List.mem_cons.1 hq with e |e
  ·omega
  ·exact(h.row.lt q y5Z).1
theorem GG.node {W w1 Wa:World}{v':Value}{nd:NdV} (h:GG W gb B mb raw x left rv tv ws NS) (hka:A1 W Wa []) (hgb:B<=gb) (hB:B<=W.heap.size)
  (hown:w1.ownsRow B 129 3 v' (NS.length+1) (AY NS++ [.string nd.1,ab nd.2.1,ab nd.2.2])) (hgrow:Wa.grownBy w1 tv.ownBlock):
  (w1.cell? (af gb 4)=some tv/\w1.frozen? (af gb 4)=false)/\GG (w1.setCell (af gb 4) v') gb B mb raw x left rv v' ws (NS++ [nd])/\Below B W (w1.setCell (af gb 4) v'):=by
 obtain⟨z1,z2,z3,z4⟩:=EQ (j:=4) hka h.blk (by decide) h.tree hown hgrow;refine⟨⟨(A0 z1).trans rfl,A3 z1⟩,⟨z2,DI.keeps h.row z4 (fun g hg hm=>?_),?_⟩,z4.below hB (fun q hq=>?_)⟩
 ·rcases List.mem_cons.1 hm with e |e
  ·subst e;exact A6 h.row h.blk (by decide) hg
  ·exact GH h.row h.tree (by decide) hg y5Z
 ·rw[GL,LU,lA];exact z3
 ·rcases List.mem_cons.1 hq with e |e
  ·omega
  ·exact(h.tree.lt q y5Z).1
theorem cX  (hm:m.Good) (mb B:Nat) (raw:Value) (left t:Nat) (ht:t<m.puts.length):US m mb B raw left (.tok t):=by
 intro w gb rv tv ws NS x hM hgb hBw hV hx hl3 hws hNS;obtain⟨iS,hiS,hzS0,hzS1,hzS2⟩:=info_parts Tryz.infoG9;obtain⟨iN,hiN,hzN0,hzN1,hzN2⟩:=info_parts Tryz.infoG129;have ht6:t<6:=by have:=hm.t6;omega
 have l1:=gC t ht6;have l2:=fU t ht6;have l3:=gJ t ht6;have c3:w.cell? (af gb 3)=some rv:=(A0 hV.blk).trans rfl;have c4:w.cell? (af gb 4)=some tv:=(A0 hV.blk).trans rfl;have hrow:=hV.row;have htree:=hV.tree;unfold DI at hrow;obtain⟨adr,capr,rfl,hcr⟩:=EB hrow;obtain⟨adt,capt,rfl,hct⟩:=EB htree;obtain⟨nr,hnr⟩:=qE (ws.length);obtain⟨nt,hnt⟩:=qE (NS.length);have hnr1:nr<100000:=by have:0<5 ^(left+J4 (.tok t)):=Nat.pow_pos (by omega);omega
 have hnt1:nt<100000:=by have:0<6 ^(left+J4 (.tok t)):=Nat.pow_pos (by omega);omega
 rw[hnr]at c3 hrow hcr;rw[hnt]at c4 htree hct;rw[hnr,hnt]at hV;have HV:=hid hV;have HR:=hid hrow;have HT:=hid htree;have hbl:gb<w.heap.size:=lt_of_block hV.blk;have ogR:some gb≠(Value.slice adr nr capr).ownBlock:=fun e=>A6 hrow hV.blk (by decide) e.symm
 have ogT:some gb≠(Value.slice adt nt capt).ownBlock:=fun e=>A6 htree hV.blk (by decide) e.symm
 obtain⟨s,hs⟩:=qF (AJ t);rw[<-hs]at l1 l2 l3;have HS:=hid hs;show Calls _ _ #[_,.string (AJ t)] _ _;rw[<-hs];clear hV hrow htree hM hws hNS hs
 go_enter Tryz.func72,Tryz.ntmps72
 have q3:(w.alloc (.cells #[.string s] 9)).cell? (af gb 3)=some (.slice adr nr capr):=A2 _ c3
 go_wp2_with (at_builtin;refine wpList_append_lies _ rfl _ _ 39 rfl B 9 iS (.string ByteArray.empty) 1 16 Tryz.underlying39 hiS hzS0 hzS1 hzS2 rfl (by decide) _ _ _ rfl (HR.out.alloc _) (af w.heap.size 0) 1 1 [.string s] rfl rfl (World.news_of_block (heap_alloc_new w _)) ?c2 (lR_ 1) ?c3 ?c4 ?c5 _ rfl ?_)
 case c2=>intro u hu;simp at hu;subst hu;rfl
 case c3=>unfold maxLen;omega
 case c4=>omega
 case c5=>simp;omega
 intro g3 cap3 w3 hown3 hgrow3 hat3 hlt3;obtain⟨⟨y1,y2⟩,y3,y4⟩:=HV.out.word ((A1.refl w []).alloc (.cells #[.string s] 9)) hgb hBw (v':=ae g3 (nr+1) cap3) (by rw[hnr];exact hown3) hgrow3;have HY:=hid (And.intro y3 y4);clear y3 y4 hown3 hgrow3 hat3 hlt3 q3 c3 c4
 go_upto_region 3 with fail
 obtain⟨W4,hW4⟩:=qE (w3.setCell (af gb 3) (ae g3 (nr+1) cap3));rw[hW4]at HY ⊢;clear hW4 y1 y2;have c4:W4.cell? (af gb 4)=some (.slice adt nt capt):=(A0 HY.out.1.blk).trans rfl;have q4:((W4.alloc (.cells #[.string s,ab (-1),ab 1] 129))).cell? (af gb 4)=some (.slice adt nt capt):=A2 _ c4;have hT4:=HY.out.1.tree;rw[hnt]at hT4;have HT4:=hid hT4;have hB4:=HY.out.2.size;have hB4:B<=W4.heap.size:=by omega
 clear hT4
 go_wp2_with (at_builtin;refine wpList_append_lies _ rfl _ _ 40 rfl B 129 iN (.agg #[.string ByteArray.empty,ab 0,ab 0]) 3 32 Tryz.underlying40 hiN hzN0 hzN1 hzN2 rfl (by decide) _ _ _ rfl (HT4.out.alloc _) (af W4.heap.size 0) 1 1 [.string s,ab (-1),ab 1] rfl rfl (World.news_of_block (heap_alloc_new W4 _)) ?d2 (lR_ 1) ?d3 ?d4 ?d5 _ rfl ?_)
 case d2=>simp[Value.oneCell']
 case d3=>unfold maxLen;omega
 case d4=>omega
 case d5=>simp;omega
 intro g5 cap5 w5 hown5 hgrow5 hat5 hlt5;obtain⟨⟨y1,y2⟩,y3,y4⟩:=HY.out.1.node (nd:=(s,-1,1)) ((A1.refl W4 []).alloc (.cells #[.string s,ab (-1),ab 1] 129)) hgb hB4 (v':=ae g5 (nt+1) cap5) (by rw[hnt];exact hown5) hgrow5;have HZ:=hid (And.intro y3 y4);clear y3 y4 hown5 hgrow5 hat5 hlt5 q4 c4;go_wp2;refine bodyPost_ret (results_none rfl _ _ _) rfl ?_;refine⟨rfl,[t],[⟨.tok t,-1,1⟩],ae g3 (nr+1) cap3,ae g5 (nt+1) cap5,x,left,.tok .nil,rfl,lR_ _,?_,?_,?_,HY.out.2.trans HZ.out.2⟩
 ·exact Nat.pow_pos (by omega)
 ·exact Nat.pow_pos (by omega)
 ·have h1:=HZ.out.1
  rw[HS.out]at h1;exact h1
end Go.Proofs.YtjjggdcnpndgjaaGreatDoor
