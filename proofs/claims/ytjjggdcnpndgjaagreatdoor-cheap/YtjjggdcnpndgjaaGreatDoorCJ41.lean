import Derived.Test.YtjjggdcnpndgjaaGreatDoorCJ40
set_option linter.unusedSimpArgs false
set_option maxHeartbeats 8000000
set_option maxRecDepth 100000
namespace Go.Proofs.YtjjggdcnpndgjaaGreatDoor
open Go.RowKit Go.Shelf
variable {B gb left mb n pb x:Nat}{N:NG}{NS:List Cw}{T:Am}{k1 k2 k3 k4:List Fa}{m:Mk}{q:Nat->Bool}{raw rv tv:Value}{w:World}{ws:List ByteArray}
theorem kK {l:List Nat} (hI:T.In w) (hp:w.cell? (af pb 0)=some (ac T.tb)) (Np:WD T.zy T.N.nT) (hl:∀t∈l,t<T.N.nT) (hrow:Ky w w.heap.size rv (l.map (nth T.zy))) (hn:l.length<=1000):
  Calls Tryz.prog 55 #[ac pb,rv] w λe w'=>Below w.heap.size w w'/\((l.length<=40/\∃v,e=.returned (.tuple #[v,ab 0])/\DQ w' w.heap.size v l/\(l=[]->v=.slice none 0 0))\/(40<l.length/\e=.returned (.tuple #[.slice none 0 0,ab 10]))):=by
 have HN:Hid (∀V,Below w.heap.size w V->Calls Tryz.prog 92 #[.agg #[.slice T.yZ T.N.nT T.yT,ae T.gN T.N.nN T.yQ],rv] V λe w'=>∃v,e=.returned (.tuple #[v,.bool true])/\(DQ w' V.heap.size v l/\(l=[]->v=.slice none 0 0))/\Below V.heap.size V w'):=hid λV hb=>by
  have Yc:=hI.below hI.bd hb;exact fJ Yc.fc.gr Yc.fc.ln Np hl ((hrow.below hb).mono hb.size) hn
 obtain⟨d0,d1,_⟩:=hI.tv.Cq;obtain⟨nT,Ac⟩:=qF (T.N.nT);obtain⟨nN,zT⟩:=qF (T.N.nN);rw[<-Ac,<-zT]at HN;rw[<-Ac]at d0;rw[<-zT]at d1;obtain⟨ad,cap,rfl,hcap,_⟩:=hrow;obtain⟨n,hnn⟩:=qF (l.length);rw[lM,<-hnn]at HN hcap ⊢;clear hI Np hl Ac zT hnn hcap
 by_cases Ox:40<n
 ·have hni:((40:Int)< (n:Int)):=by omega
  go_enter Tryz.func55,Tryz.ntmps55
  go_wp2
  go_ret2
  exact⟨ah _ _,.inr ⟨Ox,rfl⟩⟩
 ·have hni:¬((40:Int)< (n:Int)):=by omega
  go_enter Tryz.func55,Tryz.ntmps55
  go_wp2_with (go_at_call 92;refine(HN.out _ (ah _ w)).mono ?_;rintro e w2 ⟨v,rfl,h1,h2⟩;have H2:=hid (And.intro h1 h2);clear h1 h2)
  go_ret2
  exact⟨H2.out.2,.inl ⟨by omega,v,rfl,H2.out.1⟩⟩
structure Q1 (T:Am) (w:World) (pb:Nat):Prop where
 inn:T.In w
 ok:T.Ok
 pc:w.cell? (af pb 0)=some (ac T.tb)
 zy:WD T.zy T.N.nT
theorem Q1.below {w':World} (h:Q1 T w pb) (hb:Below w.heap.size w w'):Q1 T w' pb:=⟨h.inn.below h.inn.bd hb,h.ok,A8 hb h.pc,h.zy⟩
theorem rB {rb:Nat}{a0 a1 a2 a3 a4 a5:Value} (h:w.heap[rb]?=some (.cells #[a0,a1,a2,a3,a4,a5] 48 (0,0))):
  (w.cell? (af rb 0)=some a0/\w.cell? (af rb 1)=some a1/\w.cell? (af rb 2)=some a2/\w.cell? (af rb 3)=some a3/\w.cell? (af rb 4)=some a4/\w.cell? (af rb 5)=some a5)/\
  (w.frozen? (af rb 0)=false/\w.frozen? (af rb 1)=false/\w.frozen? (af rb 2)=false/\w.frozen? (af rb 3)=false/\w.frozen? (af rb 4)=false/\w.frozen? (af rb 5)=false):=
 ⟨⟨(A0 h).trans rfl,(A0 h).trans rfl,(A0 h).trans rfl,(A0 h).trans rfl,(A0 h).trans rfl,(A0 h).trans rfl⟩,A7 h,A7 h,A7 h,A7 h,A7 h,A7 h⟩
theorem Q0.akP {w':World}{B' rb:Nat}{row:List Nat}{E:List Ab}{b:List Nat}{c:Nat}{S:List GF}{ve vc vr vt vx:Value}{xs:List Value}{X:List (List ByteArray)} (h:Q0 T w B row E b c S ve vc vr vt vx xs X) (hk:A5 w w' [rb]) (hr:∃cs f,w.heap[rb]?=some (.cells cs 48 f)) (hB:B'<=B):Q0 T w' B' row E b c S ve vc vr vt vx xs X:=by
 have hoff:∀{e sz n:Nat}{v:Value}{l:List Value},w.ownsRow B e sz v n l->e≠48->w'.ownsRow B' e sz v n l:=λh h1=>SC (bQ h hk (λq hq=>by
  obtain⟨cs,f,h2⟩:=hr;rw[mS.1 hq];exact⟨_,_,_,h2,h1⟩)) hB
 exact⟨h.run,h.tree,h.least,hoff h.ed (by decide),hoff h.co (by decide),hoff h.wd (by decide),hoff h.nd (by decide),hoff h.xr (by decide),h.xl,λi u l h1 h2=>hoff (h.xw i u l h1 h2) (by decide),h.ex⟩
theorem mF {l:List Nat} (h:Q1 T w pb) (Ot:∀V,Below w.heap.size w V->TabAt 1 Lib.deBruijn32tab V) (hl:∀t∈l,t<T.N.nT) (hrow:Ky w w.heap.size rv (l.map (nth T.zy))) (hn:l.length<=1000) (Hz:0< (BH T.N.rules).1.length) (hex:l.length<=40->∃b c,Bb T.N [.zi 0] b/\Al T.N l b c/\c<=9000):
  Calls Tryz.prog 22 #[ac pb,rv] w λe w'=>Below w.heap.size w w'/\((40<l.length/\e=.returned (.tuple #[.agg #[.slice none 0 0,.slice none 0 0,ab 0,.slice none 0 0,.slice none 0 0,.slice none 0 0],ab 10]))\/(l.length<=40/\
   ∃E b c S ve vc vr vt vx xs X,e=.returned (.tuple #[.agg #[ve,vc,ab (c:Nat),vr,vt,vx],ab 0])/\Q0 T w' w.heap.size l E b c S ve vc vr vt vx xs X)):=by
 have HT:Hid (∀V,Below w.heap.size w V->Calls Tryz.prog 55 #[ac pb,rv] V λe w'=>Below V.heap.size V w'/\((l.length<=40/\∃v,e=.returned (.tuple #[v,ab 0])/\DQ w' V.heap.size v l/\(l=[]->v=.slice none 0 0))\/(40<l.length/\e=.returned (.tuple #[.slice none 0 0,ab 10])))):=hid λV hb=>kK (h.below hb).inn (h.below hb).pc h.zy hl ((hrow.below hb).mono hb.size) hn
 have HM:Hid (∀V v B,l.length<=40->Below w.heap.size w V->DQ V B v l->Calls Tryz.prog 56 #[ac T.tb,v] V λr w'=>∃a1 n1 k1 a2 n2 k2 a3 n3 k3 a4 n4 k4 a5 n5 k5 E b c S xs X,r=.returned (.tuple #[.agg #[.slice a1 n1 k1,.slice a2 n2 k2,ab (c:Nat),.slice a3 n3 k3,.slice a4 n4 k4,.slice a5 n5 k5],ab 0])/\Q0 T w' V.heap.size l E b c S (.slice a1 n1 k1) (.slice a2 n2 k2) (.slice a3 n3 k3) (.slice a4 n4 k4) (.slice a5 n5 k5) xs X/\Below V.heap.size V w'):=hid λV v B Ox hb hv=>by
  refine(sY (h.below hb).inn h.ok (λV' hb'=>Ot V' (hb.trans (hb'.mono hb.size))) (hv.row (λg hg=>D8 hv hg)) hl (by omega) Hz (hex Ox)).mono ?_;rintro r w' ⟨E,b,c,S,ve,vc,vr,vt,vx,xs,X,rfl,Vn,hb3⟩;obtain⟨a1,k1,rfl⟩:=BO Vn.ed;obtain⟨a2,k2,rfl⟩:=BO Vn.co;obtain⟨a3,k3,rfl⟩:=BO Vn.wd;obtain⟨a4,k4,rfl⟩:=BO Vn.nd;obtain⟨a5,k5,rfl⟩:=BO Vn.xr;exact⟨_,_,_,_,_,_,_,_,_,_,_,_,_,_,_,E,b,c,S,xs,X,rfl,Vn,hb3⟩
 have HP:Hid (∀V,Below w.heap.size w V->V.cell? (af pb 0)=some (ac T.tb)):=hid λV hb=>(h.below hb).pc
 clear h hl hrow Ot Hz hex
 go_enter Tryz.func22,Tryz.ntmps22
 go_upto_region 1 with fail
 obtain⟨W1,hW1⟩:=qE (w.alloc (.cells #[.slice none 0 0,.slice none 0 0,ab 0,.slice none 0 0,.slice none 0 0,.slice none 0 0] 48));have hb1:Below w.heap.size w W1:=by rw[<-hW1];exact(ah _ w).alloc (zn _) _
 have hr1:W1.heap[w.heap.size]?=some (.cells #[.slice none 0 0,.slice none 0 0,ab 0,.slice none 0 0,.slice none 0 0,.slice none 0 0] 48 (0,0)):=by rw[<-hW1];exact bg w _
 have hs1:w.heap.size<W1.heap.size:=ak hr1;rw[hW1];have zL:=hid hb1;have Dq:=hid hr1;clear hW1 hb1 hr1
 go_upto_region 2 with(go_at_call 55;refine(HT.out _ zL.out).mono ?_;rintro e w2 ⟨hb2,(⟨Ox,v,rfl,hv,hv2⟩ | ⟨Ox,rfl⟩)⟩)
 ·have H2:=hid (And.intro hb2 hv)
  have hw2:Below w.heap.size w w2:=zL.out.trans (hb2.mono (by omega));have cp:=HP.out w2 hw2;have Ci:=hid hw2;have hs2:=hb2.size;have hs2:W1.heap.size<=w2.heap.size:=hs2;clear hb2 hv hv2 hw2;have HRb:Hid (∀V,Below w2.heap.size w2 V->V.heap[w.heap.size]?=some (.cells #[.slice none 0 0,.slice none 0 0,ab 0,.slice none 0 0,.slice none 0 0,.slice none 0 0] 48 (0,0))):=hid λV hb=>(hb.block w.heap.size (by omega)).trans ((H2.out.1.block w.heap.size hs1).trans Dq.out)
  go_wp2_with (go_at_call 56;refine(HM.out _ _ _ Ox Ci.out H2.out.2).mono ?_;rintro e w3 ⟨a1,n1,k1,a2,n2,k2,a3,n3,k3,a4,n4,k4,a5,n5,k5,E,b,c,S,xs,X,rfl,Vn,hb3⟩;have H3:=hid (And.intro Vn hb3);obtain⟨⟨b0,b1,b2,b3,b4,b5⟩,g0,g1,g2,g3,g4,g5⟩:=rB (HRb.out w3 hb3);clear Vn hb3)
  have hrow:=(AA (j:=5) (AA (j:=4) (AA (j:=3) (AA (j:=2) (AA (j:=1) (AA (j:=0) (HRb.out w3 H3.out.2) (.slice a1 n1 k1)) (.slice a2 n2 k2)) (ab c)) (.slice a3 n3 k3)) (.slice a4 n4 k4)) (.slice a5 n5 k5));have hkF:A5 w3 ((((((w3.setCell (af w.heap.size 0) (.slice a1 n1 k1)).setCell (af w.heap.size 1) (.slice a2 n2 k2)).setCell (af w.heap.size 2) (ab c)).setCell (af w.heap.size 3) (.slice a3 n3 k3)).setCell (af w.heap.size 4) (.slice a4 n4 k4)).setCell (af w.heap.size 5) (.slice a5 n5 k5)) [w.heap.size]:=((((((A5.refl w3 _).setCell (by simp) _).setCell (by simp) _).setCell (by simp) _).setCell (by simp) _).setCell (by simp) _).setCell (by simp) _;refine ya (KF (p:=4) (t:=5) (ty:=48) rfl _ _ w.heap.size _ _ _ _ rfl hrow Tryz.underlying48 rfl yM) rfl ?_;refine⟨(Ci.out.trans (H3.out.2.mono Ci.out.size)).trans (hkF.below (by have:=Ci.out.size;have:=H3.out.2.size;omega) (λq hq=>by rw[mS.1 hq];exact zn _)),.inr ⟨Ox,E,b,c,S,_,_,_,_,_,xs,X,rfl,H3.out.1.akP hkF ⟨_,_,HRb.out w3 H3.out.2⟩ (by omega)⟩⟩
 ·have H2:=hid hb2
  have hr2:=(hb2.block w.heap.size hs1).trans Dq.out;have b0:=(A0 (j:=0) hr2).trans rfl;have b1:=(A0 (j:=1) hr2).trans rfl;have b2:=(A0 (j:=2) hr2).trans rfl;have b3:=(A0 (j:=3) hr2).trans rfl;have b4:=(A0 (j:=4) hr2).trans rfl;have b5:=(A0 (j:=5) hr2).trans rfl;have g0:=A7 (j:=0) hr2;have g1:=A7 (j:=1) hr2;have g2:=A7 (j:=2) hr2;have g3:=A7 (j:=3) hr2;have g4:=A7 (j:=4) hr2;have g5:=A7 (j:=5) hr2;have Vv:=hid hr2;clear hb2 hr2;go_wp2;have hrow:=(AA (j:=5) (AA (j:=4) (AA (j:=3) (AA (j:=2) (AA (j:=1) (AA (j:=0) Vv.out (.slice none 0 0)) (.slice none 0 0)) (ab 0)) (.slice none 0 0)) (.slice none 0 0)) (.slice none 0 0));have hkF:A5 w2 ((((((w2.setCell (af w.heap.size 0) (.slice none 0 0)).setCell (af w.heap.size 1) (.slice none 0 0)).setCell (af w.heap.size 2) (ab 0)).setCell (af w.heap.size 3) (.slice none 0 0)).setCell (af w.heap.size 4) (.slice none 0 0)).setCell (af w.heap.size 5) (.slice none 0 0)) [w.heap.size]:=((((((A5.refl w2 _).setCell (by simp) _).setCell (by simp) _).setCell (by simp) _).setCell (by simp) _).setCell (by simp) _).setCell (by simp) _
  refine ya (KF (p:=4) (t:=5) (ty:=48) rfl _ _ w.heap.size _ _ _ _ rfl hrow Tryz.underlying48 rfl yM) rfl ?_;have hw2:Below w.heap.size w w2:=zL.out.trans (H2.out.mono (by omega));exact⟨hw2.trans (hkF.below hw2.size (λq hq=>by rw[mS.1 hq];exact zn _)),.inl ⟨Ox,rfl⟩⟩
theorem nC {P:List Ln}{G:Gr} (h:Ei P G):∀i,i< (Dw P).nN->Ui (Cj (DD P) P) i=nth G.names i:=by
 intro i hi;rw[N3]at hi;unfold Ui nth;rw[h.g.names,Af,Af,ug];unfold Cj;rw[gM,gE hi];simp[G0,hi,TZ]
theorem p7 (s:ByteArray) (w:World) (hG:E2 w) (hs:s.size<=9223372036854775807) (he:(I0 s).1=0):
  Calls Tryz.prog 105 #[.string s] w λe w'=>∃yZ yT gN yQ,e=.returned (.tuple #[.agg #[.slice yZ (Dw (AK (AL s 0).1)).nT yT,ae gN (Dw (AK (AL s 0).1)).nN yQ],ab 0])/\(∀W'',(∀q,w.heap.size<=q->q<w'.heap.size->W''.heap[q]?=w'.heap[q]?)->Cz W'' w'.heap.size (Dw (AK (AL s 0).1)) (LS (AK (AL s 0).1)) (Cj (DD (AK (AL s 0).1)) (AK (AL s 0).1)) yZ yT gN yQ)/\Below w.heap.size w w':=by
 have hp:(ES s).1=0:=by rw[RC];exact he
 have h4:s.size<=4000:=by
  rcases jz 4000 s.size with h |h
  ·unfold ES at hp;rw[ay h]at hp;cases hp
  ·exact h
 exact sR s w hG hs (cY s) hp _ _ _ (λW B v pv hb hV=>o7 _ _ (VU s he) (cY s h4) W (hG.below hb hG.size) B v pv hV)
structure NI (N:NG) (k1 k2 k3 k4:List Fa):Prop where
 fd:SO N k1 k2
 i3:IF N k2 k3
 s3:∀r∈N.rules,EM k3 r=k3
 i4:FM N k3 k4
 s4:∀r∈N.rules,EZ k4 r=k4
theorem XG  (hN:N.Ok)  (h:SO N k1 k2):Bh k2=zN (BU N false):=by
 funext n
 obtain⟨_,h2,_⟩:=VX hN h.i1 h.s1;have h3:=h2.unique (M5 N hN false).1 n;rw[<-h3];unfold Bh;rw[h.i2.fl]
theorem NI.em  (hN:N.Ok)  (h:NI N k1 k2 k3 k4):Bh k4=zN (BU N false):=by
 rw[ND h.i4.fl,ND h.i3.fl,XG hN h.fd]
theorem NI.first  (hN:N.Ok)  (h:NI N k1 k2 k3 k4) (n t:Nat):(AQ k4 n).testBit t=col (J7 N (zN (BU N false))) t n:=by
 have h1:=jE hN h.i3 h.s3 t;rw[XG hN h.fd]at h1;rw[h.i4.fh];exact h1.unique ((QI N hN _).2 t) n
theorem NI.follow  (hN:N.Ok) (hT:N.nT<=20)  (h:NI N k1 k2 k3 k4) (n t:Nat):(BC k4 n).testBit t=col (OU N (J7 N (zN (BU N false))) (zN (BU N false))) t n:=by
 have h1:=fE hN hT h.i4 h.s4 t;rw[ND h.i3.fl,XG hN h.fd]at h1;have h2:(λn=>(AQ k3 n).testBit t)=col (J7 N (zN (BU N false))) t:=by
  funext n
  rw[<-h.first hN n t,h.i4.fh]
 rw[h2]at h1;exact h1.unique ((kP N hN _ (QI N hN _).1 _).2 t) n
theorem ML {i:Nat} (h:JH n q=some i):i<n/\q i=false/\∀j,j<i->q j=true:=by
 unfold JH at h;rw[List.find?_eq_some_iff_getElem]at h;obtain⟨h1,m,hm,h2,h3⟩:=h;simp at hm h2;subst h2;refine⟨hm,by simpa using h1,λj hj=>?_⟩;have:=h3 j hj;simpa using this
theorem ZK  (h:JH n q=none):∀j,j<n->q j=true:=by
 intro j hj;unfold JH at h;rw[List.find?_eq_none]at h;have:=h j (jc.2 hj);simpa using this
theorem U2 {p:Fa->Bool}{k:List Fa} (hl:k.length=n) (h:∀(i:Nat) a,k[i]?=some a->p a= !q i):DM p k=match JH n q with
  |some i=>(i:Int)
  |none=> -1:=by
 cases ho:JH n q with
 |some i=>
  obtain⟨h1,h2,h3⟩:=ML ho;refine gW (a:=k[i]) (gE (by omega)) ?_ (λm b hm hb=>?_)
  ·rw[h i _ (gE (by omega)),h2];rfl
  ·rw[h m b hb,h3 m hm];rfl
 |none=>
  refine iA λm b hb=>?_
  rw[h m b hb,ZK ho m (by have:=(zM.1 hb).1;omega)];rfl
theorem lI {G:Gr} (hN:N.Ok) {pg:List Nm} (h:SO N k1 k2) (hnm:∀i,i<N.nN->Ui pg i=nth G.names i):Bzx pg k2=ON G N:=by
 obtain⟨l1,_,l3⟩:=VX hN h.i1 h.s1;have e1:=λn=>l1.unique (M5 N hN true).1 n
 have e2:=λn=>(jJ hN h.i2 h.s2).unique (VE N hN).1 n
 have e3:=λn=>l3.unique (T0 N hN).1 n
 have hle:=h.i1.le;have i1:=U2 (p:=Mi) (q:=zN (BU N true)) h.i2.len (λi a ha=>by
  have h1:=aE ha;rw[h.i2.fl]at h1;rw[<-e1 i,h1];unfold Mi
  by_cases hz:a.least=202
  ·simp[hz]
  ·have:((a.least:Int)==202)=false:=by simp;omega
   rw[this];simp[hz])
 have i2:=U2 (p:=Nr) (q:=zN (J6 N)) h.i2.len (λi a ha=>by
  rw[<-e2 i,tN ha];rfl)
 unfold Bzx ON;rw[i1,i2];cases h1:JH N.nN (zN (BU N true))with
 |some i=>
  simp only;rw[ay (by omega),hnm i (ML h1).1]
 |none=>
  simp only;rw[aq (by decide)];cases h2:JH N.nN (zN (J6 N))with
  |some i=>
   simp only;rw[ay (by omega),hnm i (ML h2).1]
  |none=>
   simp only;rw[aq (by decide)];have i3:=U2 (p:=Mj) (q:=λi=>decide (Ar (JW N) i<=200)) h.i2.len (λi a ha=>by
    have h3:=aE ha;rw[h.i2.fl]at h3;have hi:i<N.nN:=by rw[<-h.i2.len];exact(zM.1 ha).1
    have h4:=ZK h1 i hi;rw[<-e1 i]at h4;have h5:=kg h4;have h6:=e3 i;have h7:=hle i;rw[h3]at h5 h6 h7;simp only[<-h6];unfold Mj
    by_cases hz:a.least=201
    ·simp[hz]
    ·have h8:((a.least:Int)==201)=false:=by simp;omega
     rw[h8];have h9:min a.least 201<=200:=by omega
     simp[h9])
   rw[i3];cases h3:JH N.nN (λi=>decide (Ar (JW N) i<=200))with
   |some i=>
    simp only;rw[ay (by omega),hnm i (ML h3).1]
   |none=>
    simp only;rw[aq (by decide)]
theorem jQ (s:ByteArray) (w:World) (Q:World->Nat->Prop) (hQ:∀w1 w2 t,Q w1 t->Below w1.heap.size w1 w2->Q w2 t)
  (hR:Calls Tryz.prog 49 #[.string s] w λe w'=>∃tb pn pr po pt,e=.returned (.tuple #[ac tb,.agg #[.string pn,ab pr,ab po,.string pt],ab 0])/\Q w' tb/\Below w.heap.size w w'):
  Calls Tryz.prog 35 #[.string s] w λe w'=>∃gp,e=.returned (.tuple #[ac gp,ab 0])/\(∃tb,w'.cell? (af gp 0)=some (ac tb)/\Q w' tb)/\Below w.heap.size w w':=by
 have HR:=hid hR;have HQ:=hid hQ;clear hR hQ
 go_enter Tryz.func35,Tryz.ntmps35
 go_wp2_with (go_at_call 49;refine HR.out.mono ?_;rintro e w2 ⟨tb,pn,pr,po,pt,rfl,hq,hb2⟩;have HB:=hid hb2;have HQ2:=hid hq;clear hb2 hq HR)
 go_ret2
 have Ku:=BK (w2.alloc (.cells #[.string pn,ab pr,ab po,.string pt] 27)) #[ac tb] 113 0;rw[bh]at Ku;refine⟨_,rfl,⟨tb,Ku,HQ.out _ _ _ HQ2.out (Aj (Aj (ah _ _)))⟩,Aj (Aj HB.out)⟩
section
def S1 (i:Nat):Nat->Nat->Nat->Prop:=λx _ _=>x<i
def S2 (i k:Nat):Nat->Nat->Nat->Prop:=λx y _=>x<i\/x=i/\y<k
def S3 (i k t:Nat):Nat->Nat->Nat->Prop:=λx y z=>x<i\/x=i/\(y<k\/y=k/\z<t)
section
variable {H S S':Nat->Nat->Nat->Prop}{a:Bool}{i k t n:Nat}
end
end
section
theorem pB (pg:List Nm):PE pg=SN (pg.map (·.2)) 0:=by
 unfold PE SN;rw[List.zipIdx_map,tu];rfl
section
variable {N:NG}{L:List (List (List Pt))}
end
end
abbrev PT (s:ByteArray):List Ln:=AK (AL s 0).1
abbrev NT (s:ByteArray):NG:=Dw (PT s)
abbrev WT (s:ByteArray):List ByteArray:=LS (PT s)
abbrev GT (s:ByteArray):List Nm:=Cj (DD (PT s)) (PT s)
abbrev wZ (s:ByteArray):ByteArray × Int:=ON (I0 s).2.2 (NT s)
theorem sX {s:ByteArray} (he:(I0 s).1=0) (n:Nat) (nm:Nm) (r:Nat) (ps:List Pt) (hn:(GT s)[n]?=some nm) (hr:nm.2[r]?=some ps):ps.length<=8/\BE (NT s) ps:=by
 have hg:=VU s he;have hR:=bK hg;refine⟨?_,?_⟩
 ·unfold GT Cj at hn
  rw[gM]at hn;cases hx:(AU (PT s))[n]? with
  |none=>rw[hx]at hn;cases hn
  |some x=>
   rw[hx]at hn;injection hn with hn
   subst hn;unfold TZ at hr;rw[gM]at hr;cases hy:(AE x.2.2)[r]? with
   |none=>rw[hy]at hr;cases hr
   |some y=>
    rw[hy]at hr;injection hr with hr
    subst hr;rw[lM];exact zV (XH (mG hy)) (hg.long x (mG hx))
 ·have h1:(n,ps)∈(NT s).rules:=by
   show(n,ps)∈PE (GT s);rw[pB];have h2:=dB ((GT s).map (·.2)) 0 n r nm.2 ps (by rw[gM,hn];rfl) hr;rw[ju]at h2;exact mG h2
  exact hR.ok.ps h1
theorem kV (s:ByteArray) (w:World) (hG:E2 w) (hs:s.size<=9223372036854775807) (he:(I0 s).1=0):
  Calls Tryz.prog 68 #[.string s] w λe w'=>wS (NT s) (WT s) (GT s) w e w':=
 qK s w _ _ _ (λW hb=>p7 s W (hG.below hb hG.size) hs he)
theorem lH (s:ByteArray) (w:World) (hG:E2 w) (hT:TabAt 1 Lib.deBruijn32tab w) (hs:s.size<=9223372036854775807) (he:(I0 s).1=0) (hz:(wZ s).2=0):
  Calls Tryz.prog 49 #[.string s] w λe w'=>Below w.heap.size w w'/\
   ((∃(n q r t:Nat) (nm:Nm),e=.returned (.tuple #[.pointer none,.agg #[.string nm.1,ab q,ab r,.string (D6 (WT s) (NT s).nT t)],ab 9])/\(GT s)[n]?=some nm/\xW (NT s) ((GT s).map (·.2)) n q r t)\/
    (∃tb k4,e=.returned (.tuple #[ac tb,.agg #[.string ByteArray.empty,ab 0,ab 0,.string ByteArray.empty],ab 0])/\(∃k1 k2 k3,NI (NT s) k1 k2 k3 k4)/\jU (NT s) (WT s) (GT s) k4 w' tb/\∀n,n< ((GT s).map (·.2)).length->sQ (NT s) ((GT s).map (·.2)) n)):=by
 have hg:=VU s he;have hR:=bK hg;have key:∀{k1 k2 k3 k4:List Fa},NI (NT s) k1 k2 k3 k4->∀{n r:Nat}{nm:Nm}{ps:List Pt}{t:Nat},(GT s)[n]?=some nm->nm.2[r]?=some ps->(FE k4 (GT s) n r).testBit t=RE (NT s) n ps t:=by
  intro k1 k2 k3 k4 hD n r nm ps t hn hr;rw[SR _ hn hr];exact sF (hD.em hR.ok) (hD.first hR.ok) (hD.follow hR.ok hR.Ch) _ _ _
 have ahN:∀{k1 k2 k3 k4:List Fa},NI (NT s) k1 k2 k3 k4->∀{R:Nat->Nat->Int}{m:Nat},(∀nm':Nm,(GT s)[m]?=some nm'->∀t,t<21->JD (FE k4 (GT s) m) nm'.2.length (R m) t)->sQ (NT s) ((GT s).map (·.2)) m:=by
  intro k1 k2 k3 k4 hD R m hrow rs r0 r p0 p t h1 h2 h3 h4 h5;rw[gM]at h1;cases hm:(GT s)[m]? with
  |none=>rw[hm]at h1;cases h1
  |some nm'=>
   rw[hm]at h1;injection h1 with h1
   subst h1;have ht:t<21:=by have h9:(NT s).nT<=20:=hR.Ch;omega
   have h6:=rQ (hrow nm' hm t ht) h2 (zM.1 h4).1
   rwa [key hD hm h3,key hD hm h4]at h6
 refine(rP s w (NT s) (WT s) (GT s) hT hR.ok (λk2 k3 k4=>∃k1,NI (NT s) k1 k2 k3 k4) (sX he) (λW hb=>(kV s W (hG.below hb hG.size) hs he).mono ?_)).mono ?_
 ·rintro e w' ⟨hb',k1,k2,hf,h⟩
  have hsame:=lI hR.ok hf (nC hg)
  rcases h with⟨h,_⟩ | ⟨_,k3,k4,n₀,kb,yZ,yT,gN,yQ,h3,s3,h4,s4,h5,h6,h7,h8,h9⟩
  ·rw[hsame]at h;exact absurd hz h
  ·exact⟨hb',k2,k3,k4,n₀,kb,yZ,yT,gN,yQ,⟨k1,hf,h3,s3,h4,s4⟩,h3,h4,h5,h6,h9,h7,h8⟩
 ·rintro e w' ⟨hb',k2,k3,k4,⟨k1,hD⟩,⟨n,q,r,t,nm,h1,h2,h3,h4,h5,h6,h7,R,h8⟩ | ⟨tb,h1,h2⟩⟩
  ·refine⟨hb',.inl ⟨n,q,r,t,nm,h1,h2,⟨?_,λm hm=>ahN hD (h8 m hm)⟩⟩⟩
   obtain⟨p0,Wj⟩:∃p0,nm.2[q]?=some p0:=⟨_,gE (by omega)⟩;obtain⟨p,hp⟩:∃p,nm.2[r]?=some p:=⟨_,gE h4⟩;exact⟨nm.2,p0,p,by rw[gM,h2];rfl,h3,Wj,hp,h5,by rw[<-key hD h2 Wj];exact h6,by rw[<-key hD h2 hp];exact h7⟩
  ·obtain⟨n₀,kb,yZ,yT,gN,yQ,R,E,_,_,_,_,_,h3⟩:=h2.ex
   exact⟨hb',.inr ⟨tb,k4,h1,⟨k1,k2,k3,hD⟩,h2,λn _=>ahN hD (h3 n)⟩⟩
theorem iC  (h:m.Good):NT (DK m)=zR m:=rD h
theorem uB  (h:m.Good):WT (DK m)=N5 m:=R6 h
theorem uV  (h:m.Good):GT (DK m)=Ls m:=TS h
theorem t8  (h:m.Good):(wZ (DK m)).2=0:=by
 show(ON _ (NT (DK m))).2=0;rw[iC h,iO h]
theorem vC  (h:m.Good)  (hD:NI (zR m) k1 k2 k3 k4) {tb:Nat} (ht:jU (zR m) (N5 m) (Ls m) k4 w tb):
  ∃T:Am,T.N=zR m/\T.zy=N5 m/\T.pg=Ls m/\T.zH=FJ m/\T.tb=tb/\T.Ok/\T.In w/\T.k=k4:=by
 obtain⟨n₀,kb,yZ,yT,gN,yQ,R,E,_,hF,hV,_,hE,hR⟩:=ht.ex;have hN:=J5 h;have hem:Bh k4=zN (BU (zR m) false):=hD.em hN;have akQ:∀n,Bh k4 n=false:=λn=>by rw[hem];exact qJ h n
 refine⟨⟨n₀,tb,kb,zR m,N5 m,Ls m,yZ,yT,gN,yQ,k4,R,E,FJ m⟩,rfl,rfl,rfl,rfl,rfl,?_,⟨hF,hV⟩,rfl⟩;have akR:∀n t,n< (zR m).nN->t<=20->(AQ k4 n).testBit t=(FJ m n t).isSome:=λn t hn ht=>by
  obtain⟨rs,hrs⟩:∃rs,m.rules[n]?=some rs:=⟨_,gE hn⟩;rw[hD.first hN];show zN (Fk _ n) t=_;rw[pI h hrs,P2 hrs,ow,ir,Option.isSome_iff_ne_none];rw[ne_eq,List.getElem?_eq_none_iff];omega
 have ahO:∀{n q t:Nat}{nm:Nm}{ps:List Pt},(Ls m)[n]?=some nm->nm.2[q]?=some ps->(FE k4 (Ls m) n q).testBit t=decide (q=t):=λ{n q t nm ps} hn hq=>by
  rw[SR k4 hn hq,K2];obtain⟨rest,e⟩:=N6 h n q ps (by rw[P2 (iF m hn)];exact hq);rw[e];have e2:FN (Bh k4) (Pt.tok q::rest)=false:=rfl;rw[e2];show(q==t||_)=_;rw[ow];simp
 constructor
 ·exact λn=>by show AQ k4 n<_;rw[hD.i4.fh];exact hD.i3.lt n
 ·exact akR
 ·intro n t rhs hk
  have hk:FJ m n t=some rhs:=hk;obtain⟨rs,h1,h2⟩:=KW hk;obtain⟨h3,h4,_,_⟩:=iG h hk;refine⟨h3,h4,(BM n,rs),RP m h1,?_,h2⟩;have aem:t<21:=by have:=h.t6;omega
  have hlt:=(zM.1 h2).1
  rcases hR n _ (RP m h1) t aem with⟨_,h5⟩ | ⟨q,h5,h6,h7,_⟩
  ·have:=h5 t hlt
   rw[ahO (RP m h1) h2]at this;simp at this
  ·obtain⟨p,hp⟩:∃p,rs[q]?=some p:=⟨_,gE h5⟩
   rw[ahO (RP m h1) hp,ir]at h7;subst h7;exact h6
 ·intro n t rhs hk
  exact(iG h hk).2.2
 ·intro n
  show E n=0;rw[hE (λr hr=>by
   obtain⟨k,hk⟩:=(MX m r.1 r.2).1 hr;obtain⟨rest,e⟩:=N6 h _ _ _ hk;rw[e];rfl)]
 ·exact N6 h
 ·exact MX m
 ·exact h.n1
 ·exact λn _=>akQ n
theorem uD  (h:m.Good):0< (BH (zR m).rules).1.length:=by
 obtain⟨r,hr,_⟩:=h.acO (n:=0) h.n1
 generalize (zR m).rules=L at hr
 rcases List.eq_nil_or_concat L with rfl | ⟨L',x,rfl⟩
 ·cases hr
 ·rw[List.concat_eq_append,TK]
  unfold DB;simp only[lA,fu];omega
theorem nK  (h:m.Good) (w:World) (hG:E2 w) (hT:TabAt 1 Lib.deBruijn32tab w):
  Calls Tryz.prog 49 #[.string (DK m)] w λe w'=>Below w.heap.size w w'/\∃(tb:Nat) (T:Am),e=.returned (.tuple #[ac tb,.agg #[.string ByteArray.empty,ab 0,ab 0,.string ByteArray.empty],ab 0])/\T.N=zR m/\T.zy=N5 m/\T.zH=FJ m/\T.tb=tb/\T.Ok/\T.In w'/\T.pg=Ls m:=by
 have hs:(DK m).size<=9223372036854775807:=by have:=V6 h;omega
 refine(lH (DK m) w hG hT hs (XY h) (t8 h)).mono ?_;rw[iC h,uV h,uB h];rintro e w' ⟨hb,⟨n,q,r,t,nm,_,hn,hcl⟩ | ⟨tb,k4,rfl,⟨k1,k2,k3,hD⟩,ht,_⟩⟩
 ·exfalso
  obtain⟨rs,p0,p,h1,h2,h3,h4,_,h5,h6⟩:=hcl.ex;rw[gM,hn]at h1;injection h1 with h1
  subst h1;have hsp:∀{q:Nat}{ps:List Pt},nm.2[q]?=some ps->RE (zR m) n ps t=decide (q=t):=λ{q ps} hq=>by
   obtain⟨rest,e⟩:=N6 h n q ps (by rw[P2 (iF m hn)];exact hq);rw[e];unfold RE;rw[ow];simp[E5,FN]
  rw[hsp h3,ir]at h5;rw[hsp h4,ir]at h6;omega
 ·obtain⟨T,h1,h2,h3,h4,h5,h6,h7,_⟩:=vC h hD ht
  exact⟨hb,tb,T,rfl,h1,h2,h4,h5,h6,h7,h3⟩
theorem bE  (h:m.Good) (w:World) (hG:E2 w) (hT:TabAt 1 Lib.deBruijn32tab w):
  Calls Tryz.prog 35 #[.string (DK m)] w λe w'=>∃(gp:Nat) (T:Am),e=.returned (.tuple #[ac gp,ab 0])/\Q1 T w' gp/\T.N=zR m/\T.zy=N5 m/\T.zH=FJ m/\T.pg=Ls m/\Below w.heap.size w w':=by
 refine(jQ (DK m) w (λW tb=>∃T:Am,T.N=zR m/\T.zy=N5 m/\T.zH=FJ m/\T.tb=tb/\T.Ok/\T.In W/\T.pg=Ls m) ?_ ((nK h w hG hT).mono ?_)).mono ?_
 ·rintro w1 w2 t ⟨T,h1,h2,h3,h4,h5,h6,h7⟩ hb
  exact⟨T,h1,h2,h3,h4,h5,h6.below h6.bd hb,h7⟩
 ·rintro e w' ⟨hb,tb,T,rfl,hT⟩
  exact⟨tb,_,_,_,_,rfl,⟨T,hT⟩,hb⟩
 ·rintro e w' ⟨gp,rfl,⟨tb,hc,T,h1,h2,h3,h4,h5,h6,h7⟩,hb⟩
  exact⟨gp,T,rfl,⟨h6,h5,by rw[h4];exact hc,by rw[h2,h1];exact vQ h⟩,h1,h2,h3,h7,hb⟩
theorem Tryz.infoG9:(Tryz.prog.info? 9).map (λi=>(i.zero,i.size,i.bytes))=some (some (.string ByteArray.empty),1,16):=by kernel_rfl
theorem YI (l:List ByteArray) (s:ByteArray):EE (l++ [s])=EE l++ [.string s]:=by unfold EE;simp
theorem Tryz.infoG129:(Tryz.prog.info? 129).map (λi=>(i.zero,i.size,i.bytes))=some (some (.agg #[.string ByteArray.empty,ab 0,ab 0]),3,32):=by kernel_rfl
structure GP (w:World) (gb B mb:Nat) (raw:Value) (x left:Nat) (rv tv:Value) (ws:List ByteArray) (NS:List Cw):Prop where
 blk:w.heap[gb]?=some (.cells #[ac mb,raw,ab x,rv,tv,ab left] 143 (0,0))
 row:BL w B rv ws
 tree:w.ownsRow B 129 3 tv NS.length (BT NS)
def Iu (nd:GF):Cw:=(EG nd.part,nd.rule,nd.size)
def JE:Pt->Nat
 | .tok _=>0
 | .zi _=>1
def UU (m:Mk) (mb B:Nat) (raw:Value) (left:Nat) (p:Pt):Prop:=∀(w:World) (gb:Nat) (rv tv:Value) (ws:List ByteArray) (NS:List Cw) (x:Nat),
 (∀W,Below B w W->Gf W B mb m/\IQ W raw)->B<=gb->B<=w.heap.size->GP w gb B mb raw x left rv tv ws NS->x+left<=1000->left<=3->ws.length+5 ^(left+JE p)<=100000->NS.length+6 ^(left+JE p)<=100000->
 Calls Tryz.prog 72 #[ac gb,.string (EG p)] w λe w'=>e=.returned (.tuple #[])/\∃l S rv' tv' x' left',Az (FJ m) [p] l S/\x'+left'=x+left/\left'<=left/\l.length<=5 ^(left+JE p)/\S.length<=6 ^(left+JE p)/\GP w' gb B mb raw x' left' rv' tv' (ws++l.map AB) (NS++S.map Iu)/\Below B w w'
theorem GP.drew  (h:GP w gb B mb raw x left rv tv ws NS):GP w.drew gb B mb raw x left rv tv ws NS:=⟨h.blk,h.row,h.tree⟩
theorem GP.word {W w1 Wa:World}{v':Value}{s:ByteArray} (h:GP W gb B mb raw x left rv tv ws NS) (hka:A5 W Wa []) (hgb:B<=gb) (hB:B<=W.heap.size)
  (hown:w1.ownsRow B 9 1 v' (ws.length+1) (EE ws++ [.string s])) (hgrow:Wa.grownBy w1 rv.ownBlock):
  (w1.cell? (af gb 3)=some rv/\w1.frozen? (af gb 3)=false)/\GP (w1.setCell (af gb 3) v') gb B mb raw x left v' tv (ws++ [s]) NS/\Below B W (w1.setCell (af gb 3) v'):=by
 obtain⟨z1,z2,z3,z4⟩:=EY (j:=3) hka h.blk (by decide) h.row hown hgrow;refine⟨⟨(A0 z1).trans rfl,A7 z1⟩,⟨z2,?_,AC h.tree z4 (λg hg hm=>?_)⟩,z4.below hB (λq hq=>?_)⟩
 ·unfold BL;rw[YI,lA];exact z3
 ·rcases bk.1 hm with e |e
  ·subst e;exact A9 h.tree h.blk (by decide) hg
  ·exact GQ h.tree h.row (by decide) hg Ee
 ·rcases bk.1 hq with e |e
  ·omega
  ·exact(h.row.lt q Ee).1
theorem GP.node {W w1 Wa:World}{v':Value}{nd:Cw} (h:GP W gb B mb raw x left rv tv ws NS) (hka:A5 W Wa []) (hgb:B<=gb) (hB:B<=W.heap.size)
  (hown:w1.ownsRow B 129 3 v' (NS.length+1) (BT NS++ [.string nd.1,ab nd.2.1,ab nd.2.2])) (hgrow:Wa.grownBy w1 tv.ownBlock):
  (w1.cell? (af gb 4)=some tv/\w1.frozen? (af gb 4)=false)/\GP (w1.setCell (af gb 4) v') gb B mb raw x left rv v' ws (NS++ [nd])/\Below B W (w1.setCell (af gb 4) v'):=by
 obtain⟨z1,z2,z3,z4⟩:=EY (j:=4) hka h.blk (by decide) h.tree hown hgrow;refine⟨⟨(A0 z1).trans rfl,A7 z1⟩,⟨z2,BL.keeps h.row z4 (λg hg hm=>?_),?_⟩,z4.below hB (λq hq=>?_)⟩
 ·rcases bk.1 hm with e |e
  ·subst e;exact A9 h.row h.blk (by decide) hg
  ·exact GQ h.row h.tree (by decide) hg Ee
 ·rw[GY,LY,lA];exact z3
 ·rcases bk.1 hq with e |e
  ·omega
  ·exact(h.tree.lt q Ee).1
theorem aU  (hm:m.Good) (mb B:Nat) (raw:Value) (left t:Nat) (ht:t<m.zJ.length):UU m mb B raw left (.tok t):=by
 intro w gb rv tv ws NS x hM hgb hBw hV hx Nd Ld Ez;obtain⟨iS,Gu,Gv,Gw,Gx⟩:=iy Tryz.infoG9;obtain⟨iN,Kl,Pr,Pu,Pv⟩:=iy Tryz.infoG129;have Ib:t<6:=by have:=hm.t6;omega
 have l1:=X1 t Ib;have l2:=WQ t Ib;have l3:=WR t Ib;have c3:w.cell? (af gb 3)=some rv:=(A0 hV.blk).trans rfl;have c4:w.cell? (af gb 4)=some tv:=(A0 hV.blk).trans rfl;have hrow:=hV.row;have Lt:=hV.tree;unfold BL at hrow;obtain⟨Uw,Ia,rfl,Jl⟩:=BV hrow;obtain⟨Yf,Yg,rfl,hct⟩:=BV Lt;obtain⟨nr,Kg⟩:=qE (ws.length);obtain⟨nt,hnt⟩:=qE (NS.length);have amI:nr<100000:=by have:0<5 ^(left+JE (.tok t)):=yq (by omega);omega
 have akS:nt<100000:=by have:0<6 ^(left+JE (.tok t)):=yq (by omega);omega
 rw[Kg]at c3 hrow Jl;rw[hnt]at c4 Lt hct;rw[Kg,hnt]at hV;have HV:=hid hV;have HR:=hid hrow;have HT:=hid Lt;have hbl:gb<w.heap.size:=ak hV.blk;have ogR:some gb≠(Value.slice Uw nr Ia).ownBlock:=λe=>A9 hrow hV.blk (by decide) e.symm
 have Tp:some gb≠(Value.slice Yf nt Yg).ownBlock:=λe=>A9 Lt hV.blk (by decide) e.symm
 obtain⟨s,hs⟩:=qF (AB t);rw[<-hs]at l1 l2 l3;have HS:=hid hs;show Calls _ _ #[_,.string (AB t)] _ _;rw[<-hs];clear hV hrow Lt hM Ld Ez hs
 go_enter Tryz.func72,Tryz.ntmps72
 have q3:(w.alloc (.cells #[.string s] 9)).cell? (af gb 3)=some (.slice Uw nr Ia):=A6 _ c3
 go_wp2_with (at_builtin;refine jt _ rfl _ _ 39 rfl B 9 iS (.string ByteArray.empty) 1 16 Tryz.underlying39 Gu Gv Gw Gx rfl (by decide) _ _ _ rfl (HR.out.alloc _) (af w.heap.size 0) 1 1 [.string s] rfl rfl (dn (dz w _)) ?c2 (zn 1) ?c3 ?c4 ?c5 _ rfl ?_)
 case c2=>intro u hu;simp at hu;subst hu;rfl
 case c3=>unfold maxLen;omega
 case c4=>omega
 case c5=>simp;omega
 intro g3 Cf w3 Ad Ae Hy Fi;obtain⟨⟨y1,y2⟩,y3,y4⟩:=HV.out.word ((A5.refl w []).alloc (.cells #[.string s] 9)) hgb hBw (v':=ae g3 (nr+1) Cf) (by rw[Kg];exact Ad) Ae;have HY:=hid (And.intro y3 y4);clear y3 y4 Ad Ae Hy Fi q3 c3 c4
 go_upto_region 3 with fail
 obtain⟨W4,Be⟩:=qE (w3.setCell (af gb 3) (ae g3 (nr+1) Cf));rw[Be]at HY ⊢;clear Be y1 y2;have c4:W4.cell? (af gb 4)=some (.slice Yf nt Yg):=(A0 HY.out.1.blk).trans rfl;have q4:((W4.alloc (.cells #[.string s,ab (-1),ab 1] 129))).cell? (af gb 4)=some (.slice Yf nt Yg):=A6 _ c4;have hT4:=HY.out.1.tree;rw[hnt]at hT4;have HT4:=hid hT4;have Fc:=HY.out.2.size;have Fc:B<=W4.heap.size:=by omega
 clear hT4
 go_wp2_with (at_builtin;refine jt _ rfl _ _ 40 rfl B 129 iN (.agg #[.string ByteArray.empty,ab 0,ab 0]) 3 32 Tryz.underlying40 Kl Pr Pu Pv rfl (by decide) _ _ _ rfl (HT4.out.alloc _) (af W4.heap.size 0) 1 1 [.string s,ab (-1),ab 1] rfl rfl (dn (dz W4 _)) ?d2 (zn 1) ?d3 ?d4 ?d5 _ rfl ?_)
 case d2=>simp[Value.oneCell']
 case d3=>unfold maxLen;omega
 case d4=>omega
 case d5=>simp;omega
 intro g5 acj w5 ack acm afo aa4;obtain⟨⟨y1,y2⟩,y3,y4⟩:=HY.out.1.node (nd:=(s,-1,1)) ((A5.refl W4 []).alloc (.cells #[.string s,ab (-1),ab 1] 129)) hgb Fc (v':=ae g5 (nt+1) acj) (by rw[hnt];exact ack) acm;have HZ:=hid (And.intro y3 y4);clear y3 y4 ack acm afo aa4 q4 c4;go_wp2;refine ya (qz rfl _ _ _) rfl ?_;refine⟨rfl,[t],[⟨.tok t,-1,1⟩],ae g3 (nr+1) Cf,ae g5 (nt+1) acj,x,left,.tok .nil,rfl,zn _,?_,?_,?_,HY.out.2.trans HZ.out.2⟩
 ·exact yq (by omega)
 ·exact yq (by omega)
 ·have h1:=HZ.out.1
  rw[HS.out]at h1;exact h1
theorem US:∀(w:List UInt8) (ws:List (List UInt8)),BW (w::ws)=w++ws.flatMap (λv=>32::v)
 |w,[]=>by simp[BW]
 |w,v::r=>by
  have ih:=US v r;show w++32::BW (v::r)=_;rw[ih,ij];rfl
def JJ (k:Nat) (r:List (List UInt8)):List UInt8:=(if 0<k then [32,124]else [])++r.flatMap λv=>32::v
theorem YU:∀(L:List (List (List UInt8))) (q:List (List UInt8)) (k:Nat),0<k->((q::L).zipIdx k).flatMap (λx=>JJ x.2 x.1)=[32,124]++(GJ (q::L)).flatMap λv=>32::v
 | [],q,k,hk=>by
  rw[xg,List.zipIdx_nil,ij,List.flatMap_nil,fy];show JJ k q=[32,124]++q.flatMap λv=>32::v
  unfold JJ;rw[ay hk]
 |r::L,q,k,hk=>by
  have ih:=YU L r (k+1) (by omega);rw[xg,ij,ih];show JJ k q++_=[32,124]++(q++ [124]::GJ (r::L)).flatMap λv=>32::v
  rw[mo,ij];unfold JJ;rw[ay hk];simp
theorem pQ (L:List (List (List UInt8))):(GJ L).flatMap (λv=>32::v)=L.zipIdx.flatMap λx=>JJ x.2 x.1:=by
 cases L with
 |nil=>rfl
 |cons q L=>
  cases L with
  |nil=>simp[GJ,JJ]
  |cons r L=>
   have h:=YU L r 1 (by omega);rw[xg,ij,show 0+1=1 from rfl,h];show(q++ [124]::GJ (r::L)).flatMap (λv=>32::v)=_;rw[mo,ij];simp[JJ]
def KA (m:Mk) (i j:Nat):List UInt8:=if 0<DA m i j then [115,119,97,112,32]++wB (.tok i)++ [32]++wB (.tok j)++ [32]++ [UInt8.ofNat (48+DA m i j)]++ [10]else []
def KY (m:Mk) (i:Nat):List UInt8:=[116,111,107,101,110,32]++wB (.tok i)++ [32]++ [UInt8.ofNat (48+m.zJ.getD i 0)]++ [32]++ [UInt8.ofNat (48+m.Ai.getD i 0)]++ [10]
def KE (m:Mk) (i:Nat):List UInt8:=KY m i++(List.range m.zJ.length).flatMap (KA m i)
def LO (n:Nat):List UInt8:=[114,117,108,101,32]++wB (.zi n)++ [32,61]
def I8 (r:List Pt):List UInt8:=r.flatMap λp=>32::wB p
def M2 (k:Nat):List UInt8:=if 0<k then [32,124]else []
def LZ (x:List (List Pt) × Nat):List UInt8:=LO x.2++x.1.zipIdx.flatMap (λy=>M2 y.2++I8 y.1)++ [10]
theorem kU (n:Nat) (rs:List (List Pt)):BW (EJ n rs)++ [10]=LZ (rs,n):=by
 unfold EJ LZ LO;rw[US,ij,ij,pQ,List.zipIdx_map,tu];have e:(λx:List Pt × Nat=>JJ (Prod.map (λr=>List.map wB r) id x).2 (Prod.map (λr=>List.map wB r) id x).1)=λy=>M2 y.2++I8 y.1:=by
  funext x
  show JJ x.2 (x.1.map wB)=_;unfold JJ M2 I8;rw[tu]
 rw[e];simp
theorem kB (m:Mk) (i:Nat):(((IJ m i).map BW).flatMap λl=>l++ [10])=KE m i:=by
 unfold IJ KE;rw[jx,ij,ud,yA]
 congr 1
 congr 1
 funext j
 unfold KA;split
 ·simp[IV,BW,wB]
 ·rfl
theorem uQ (m:Mk):DK m=ba ((List.range m.zJ.length).flatMap (KE m)++m.rules.zipIdx.flatMap LZ):=by
 unfold DK M6 FI;rw[fq,mo,ud,yA,qm,tu]
 congr 2
 ·congr 1
  funext i
  exact kB m i
 ·congr 1
  funext x
  exact kU x.2 x.1
theorem MO {β:Type} (f:Nat->List β) (k:Nat):(List.range (k+1)).flatMap f=(List.range k).flatMap f++f k:=by
 rw[uw,mo];simp
theorem RV {α β:Type} (f:α->List β) {l:List α}{k:Nat}{a:α} (h:l[k]?=some a):(l.take (k+1)).flatMap f=(l.take k).flatMap f++f a:=by
 rw[sr,h,mo];simp
theorem P0 (x:List UInt8) (b:ByteArray):ba x++b=ba (x++b.data.toList):=by
 apply aS;simp[ba]
end Go.Proofs.YtjjggdcnpndgjaaGreatDoor
