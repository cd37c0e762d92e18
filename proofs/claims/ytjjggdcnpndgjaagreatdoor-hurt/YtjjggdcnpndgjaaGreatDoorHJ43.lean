import Derived.Test.YtjjggdcnpndgjaaGreatDoorHJ42
set_option linter.unusedSimpArgs false
set_option maxHeartbeats 8000000
set_option maxRecDepth 100000
namespace Go.Proofs.YtjjggdcnpndgjaaGreatDoor
open Go.RowKit Go.Shelf
variable {B gb left mb n pb x:Nat}{N:NG}{NS:List Cn}{T:zn}{k1 k2 k3 k4:List Fa}{l:List Nat}{m:Mk}{q:Nat->Bool}{raw rv tv:Value}{w:World}{ws:List ByteArray}
theorem U9  (hI:T.In w) (hp:w.cell? (af pb 0)=some (ac T.tb)) (Lv:UR T.yL T.N.nT) (hl:∀t∈l,t<T.N.nT) (hrow:Hf w w.heap.size rv (l.map (nth T.yL))) (hn:l.length<=1000):
  Calls Tryz.prog 55 #[ac pb,rv] w λe w'=>Below w.heap.size w w'/\((l.length<=40/\∃v,e=.returned (.tuple #[v,ab 0])/\D7 w' w.heap.size v l/\(l=[]->v=.slice none 0 0))\/(40<l.length/\e=.returned (.tuple #[.slice none 0 0,ab 10]))):=by
 have HN:Hid (∀V,Below w.heap.size w V->Calls Tryz.prog 92 #[.agg #[.slice T.yu T.N.nT T.yl,ae T.gN T.N.nN T.xY],rv] V λe w'=>∃v,e=.returned (.tuple #[v,.bool true])/\(D7 w' V.heap.size v l/\(l=[]->v=.slice none 0 0))/\Below V.heap.size V w'):=hid λV hb=>by
  have Vg:=hI.below hI.bd hb;exact eI Vg.fc.gr Vg.fc.ln Lv hl ((hrow.below hb).mono hb.size) hn
 obtain⟨d0,d1,_⟩:=hI.tv.Ar;obtain⟨nT,zo⟩:=qF (T.N.nT);obtain⟨nN,yY⟩:=qF (T.N.nN);rw[<-zo,<-yY]at HN;rw[<-zo]at d0;rw[<-yY]at d1;obtain⟨ad,cap,rfl,hcap,_⟩:=hrow;obtain⟨n,hnn⟩:=qF (l.length);rw[lM,<-hnn]at HN hcap ⊢;clear hI Lv hl zo yY hnn hcap
 by_cases Gb:40<n
 ·have hni:((40:Int)< (n:Int)):=by omega
  go_enter Tryz.func55,Tryz.ntmps55
  go_wp2
  go_ret2
  exact⟨ah _ _,.inr ⟨Gb,rfl⟩⟩
 ·have hni:¬((40:Int)< (n:Int)):=by omega
  go_enter Tryz.func55,Tryz.ntmps55
  go_wp2_with (go_at_call 92;refine(HN.out _ (ah _ w)).mono ?_;rintro e w2 ⟨v,rfl,h1,h2⟩;have H2:=hid (And.intro h1 h2);clear h1 h2)
  go_ret2
  exact⟨H2.out.2,.inl ⟨by omega,v,rfl,H2.out.1⟩⟩
structure K3 (T:zn) (w:World) (pb:Nat):Prop where
 inn:T.In w
 ok:T.Ok
 pc:w.cell? (af pb 0)=some (ac T.tb)
 yL:UR T.yL T.N.nT
theorem K3.below {w':World} (h:K3 T w pb) (hb:Below w.heap.size w w'):K3 T w' pb:=⟨h.inn.below h.inn.bd hb,h.ok,A4 hb h.pc,h.yL⟩
theorem lO  (h:K3 T w pb) (hl:∀t∈l,t<T.N.nT) (hrow:Hf w w.heap.size rv (l.map (nth T.yL))) (hn:l.length<=1000):
  Calls Tryz.prog 37 #[ac pb,rv] w λe w'=>Below w.heap.size w w'/\((40<l.length/\e=.returned (.tuple #[.slice none 0 0,ab 0,ab 10]))\/(l.length<=40/\
   ((∃S v,zJ T.yN [.yB 0] l S/\e=.returned (.tuple #[v,ab (-1),ab 0])/\w'.ownsRow w.heap.size 129 3 v S.length (BG (S.map (MW T))))\/
    (∃i:Nat,M0 T l i/\e=.returned (.tuple #[.slice none 0 0,ab i,ab 0]))))):=by
 have HT:Hid (∀V,Below w.heap.size w V->Calls Tryz.prog 55 #[ac pb,rv] V λe w'=>Below V.heap.size V w'/\((l.length<=40/\∃v,e=.returned (.tuple #[v,ab 0])/\D7 w' V.heap.size v l/\(l=[]->v=.slice none 0 0))\/(40<l.length/\e=.returned (.tuple #[.slice none 0 0,ab 10])))):=hid λV hb=>U9 (h.below hb).inn (h.below hb).pc h.yL hl ((hrow.below hb).mono hb.size) hn
 have HR:Hid (∀V v B,Below w.heap.size w V->D7 V B v l->(l=[]->v=.slice none 0 0)->Calls Tryz.prog 73 #[ac T.tb,v] V λe w'=>Below V.heap.size V w'/\
   ((∃S v,zJ T.yN [.yB 0] l S/\e=.returned (.tuple #[v,ab (-1),ab 0])/\w'.ownsRow V.heap.size 129 3 v S.length (BG (S.map (MW T))))\/
    (∃i:Nat,M0 T l i/\e=.returned (.tuple #[.slice none 0 0,ab i,ab 0])))):=hid λV v B hb hv hv2=>XX h.ok (h.below hb).inn ⟨hv.row (λg hg=>CJ hv hg),hv2⟩ hl (by omega)
 have HP:Hid (∀V,Below w.heap.size w V->V.cell? (af pb 0)=some (ac T.tb)):=hid λV hb=>(h.below hb).pc
 clear h hl hrow
 go_enter Tryz.func37,Tryz.ntmps37
 go_upto_region 2 with(go_at_call 55;refine(HT.out _ (ah _ w)).mono ?_;rintro e w2 ⟨hb2,(⟨Gb,v,rfl,hv,hv2⟩ | ⟨Gb,rfl⟩)⟩)
 ·have H2:=hid (And.intro hb2 (And.intro hv hv2))
  have cp:=HP.out w2 hb2;clear hb2 hv hv2
  go_wp2_with (go_at_call 73;refine(HR.out _ _ _ H2.out.1 H2.out.2.1 H2.out.2.2).mono ?_;rintro e w3 ⟨hb3,(⟨S,vt,hS,rfl,Mu⟩ | ⟨i,hi,rfl⟩)⟩)
  ·have H3:=hid (And.intro hb3 (And.intro hS Mu))
   clear hb3 hS Mu;go_wp2
   go_ret3
   exact⟨H2.out.1.trans (H3.out.1.mono H2.out.1.size),.inr ⟨Gb,.inl ⟨S,vt,H3.out.2.1,rfl,O6 H3.out.2.2 H2.out.1.size⟩⟩⟩
  ·have H3:=hid (And.intro hb3 hi)
   clear hb3 hi;go_wp2
   go_ret3
   exact⟨H2.out.1.trans (H3.out.1.mono H2.out.1.size),.inr ⟨Gb,.inr ⟨i,H3.out.2,rfl⟩⟩⟩
 ·have H2:=hid hb2
  clear hb2;go_wp2
  go_ret3
  exact⟨H2.out,.inl ⟨Gb,rfl⟩⟩
theorem q9 {rb:Nat}{a0 a1 a2 a3 a4 a5:Value} (h:w.heap[rb]?=some (.cells #[a0,a1,a2,a3,a4,a5] 48 (0,0))):
  (w.cell? (af rb 0)=some a0/\w.cell? (af rb 1)=some a1/\w.cell? (af rb 2)=some a2/\w.cell? (af rb 3)=some a3/\w.cell? (af rb 4)=some a4/\w.cell? (af rb 5)=some a5)/\
  (w.frozen? (af rb 0)=false/\w.frozen? (af rb 1)=false/\w.frozen? (af rb 2)=false/\w.frozen? (af rb 3)=false/\w.frozen? (af rb 4)=false/\w.frozen? (af rb 5)=false):=
 ⟨⟨(A0 h).trans rfl,(A0 h).trans rfl,(A0 h).trans rfl,(A0 h).trans rfl,(A0 h).trans rfl,(A0 h).trans rfl⟩,A3 h,A3 h,A3 h,A3 h,A3 h,A3 h⟩
theorem PF.akh {w':World}{B' rb:Nat}{row:List Nat}{E:List ze}{b:List Nat}{c:Nat}{S:List IK}{ve vc vr vt vx:Value}{xs:List Value}{X:List (List ByteArray)} (h:PF T w B row E b c S ve vc vr vt vx xs X) (hk:A1 w w' [rb]) (hr:∃cs f,w.heap[rb]?=some (.cells cs 48 f)) (hB:B'<=B):PF T w' B' row E b c S ve vc vr vt vx xs X:=by
 have hoff:∀{e sz n:Nat}{v:Value}{l:List Value},w.ownsRow B e sz v n l->e≠48->w'.ownsRow B' e sz v n l:=λh h1=>O6 (ZG h hk (λq hq=>by
  obtain⟨cs,f,h2⟩:=hr;rw[mS.1 hq];exact⟨_,_,_,h2,h1⟩)) hB
 exact⟨h.run,h.tree,h.least,hoff h.ed (by decide),hoff h.co (by decide),hoff h.wd (by decide),hoff h.nd (by decide),hoff h.xr (by decide),h.xl,λi u l h1 h2=>hoff (h.xw i u l h1 h2) (by decide),h.ex⟩
theorem l8  (h:K3 T w pb) (Mx:∀V,Below w.heap.size w V->TabAt 1 Lib.deBruijn32tab V) (hl:∀t∈l,t<T.N.nT) (hrow:Hf w w.heap.size rv (l.map (nth T.yL))) (hn:l.length<=1000) (Fv:0< (BD T.N.rules).1.length) (hex:l.length<=40->∃b c,zP T.N [.yB 0] b/\Al T.N l b c/\c<=9000):
  Calls Tryz.prog 22 #[ac pb,rv] w λe w'=>Below w.heap.size w w'/\((40<l.length/\e=.returned (.tuple #[.agg #[.slice none 0 0,.slice none 0 0,ab 0,.slice none 0 0,.slice none 0 0,.slice none 0 0],ab 10]))\/(l.length<=40/\
   ∃E b c S ve vc vr vt vx xs X,e=.returned (.tuple #[.agg #[ve,vc,ab (c:Nat),vr,vt,vx],ab 0])/\PF T w' w.heap.size l E b c S ve vc vr vt vx xs X)):=by
 have HT:Hid (∀V,Below w.heap.size w V->Calls Tryz.prog 55 #[ac pb,rv] V λe w'=>Below V.heap.size V w'/\((l.length<=40/\∃v,e=.returned (.tuple #[v,ab 0])/\D7 w' V.heap.size v l/\(l=[]->v=.slice none 0 0))\/(40<l.length/\e=.returned (.tuple #[.slice none 0 0,ab 10])))):=hid λV hb=>U9 (h.below hb).inn (h.below hb).pc h.yL hl ((hrow.below hb).mono hb.size) hn
 have HM:Hid (∀V v B,l.length<=40->Below w.heap.size w V->D7 V B v l->Calls Tryz.prog 56 #[ac T.tb,v] V λr w'=>∃a1 n1 k1 a2 n2 k2 a3 n3 k3 a4 n4 k4 a5 n5 k5 E b c S xs X,r=.returned (.tuple #[.agg #[.slice a1 n1 k1,.slice a2 n2 k2,ab (c:Nat),.slice a3 n3 k3,.slice a4 n4 k4,.slice a5 n5 k5],ab 0])/\PF T w' V.heap.size l E b c S (.slice a1 n1 k1) (.slice a2 n2 k2) (.slice a3 n3 k3) (.slice a4 n4 k4) (.slice a5 n5 k5) xs X/\Below V.heap.size V w'):=hid λV v B Gb hb hv=>by
  refine(sB (h.below hb).inn h.ok (λV' hb'=>Mx V' (hb.trans (hb'.mono hb.size))) (hv.row (λg hg=>CJ hv hg)) hl (by omega) Fv (hex Gb)).mono ?_;rintro r w' ⟨E,b,c,S,ve,vc,vr,vt,vx,xs,X,rfl,Td,hb3⟩;obtain⟨a1,k1,rfl⟩:=BB Td.ed;obtain⟨a2,k2,rfl⟩:=BB Td.co;obtain⟨a3,k3,rfl⟩:=BB Td.wd;obtain⟨a4,k4,rfl⟩:=BB Td.nd;obtain⟨a5,k5,rfl⟩:=BB Td.xr;exact⟨_,_,_,_,_,_,_,_,_,_,_,_,_,_,_,E,b,c,S,xs,X,rfl,Td,hb3⟩
 have HP:Hid (∀V,Below w.heap.size w V->V.cell? (af pb 0)=some (ac T.tb)):=hid λV hb=>(h.below hb).pc
 clear h hl hrow Mx Fv hex
 go_enter Tryz.func22,Tryz.ntmps22
 go_upto_region 1 with fail
 obtain⟨W1,hW1⟩:=qE (w.alloc (.cells #[.slice none 0 0,.slice none 0 0,ab 0,.slice none 0 0,.slice none 0 0,.slice none 0 0] 48));have hb1:Below w.heap.size w W1:=by rw[<-hW1];exact(ah _ w).alloc (yF _) _
 have hr1:W1.heap[w.heap.size]?=some (.cells #[.slice none 0 0,.slice none 0 0,ab 0,.slice none 0 0,.slice none 0 0,.slice none 0 0] 48 (0,0)):=by rw[<-hW1];exact ay w _
 have hs1:w.heap.size<W1.heap.size:=ak hr1;rw[hW1];have yR:=hid hb1;have Ck:=hid hr1;clear hW1 hb1 hr1
 go_upto_region 2 with(go_at_call 55;refine(HT.out _ yR.out).mono ?_;rintro e w2 ⟨hb2,(⟨Gb,v,rfl,hv,hv2⟩ | ⟨Gb,rfl⟩)⟩)
 ·have H2:=hid (And.intro hb2 hv)
  have hw2:Below w.heap.size w w2:=yR.out.trans (hb2.mono (by omega));have cp:=HP.out w2 hw2;have Ak:=hid hw2;have hs2:=hb2.size;have hs2:W1.heap.size<=w2.heap.size:=hs2;clear hb2 hv hv2 hw2;have HRb:Hid (∀V,Below w2.heap.size w2 V->V.heap[w.heap.size]?=some (.cells #[.slice none 0 0,.slice none 0 0,ab 0,.slice none 0 0,.slice none 0 0,.slice none 0 0] 48 (0,0))):=hid λV hb=>(hb.block w.heap.size (by omega)).trans ((H2.out.1.block w.heap.size hs1).trans Ck.out)
  go_wp2_with (go_at_call 56;refine(HM.out _ _ _ Gb Ak.out H2.out.2).mono ?_;rintro e w3 ⟨a1,n1,k1,a2,n2,k2,a3,n3,k3,a4,n4,k4,a5,n5,k5,E,b,c,S,xs,X,rfl,Td,hb3⟩;have H3:=hid (And.intro Td hb3);obtain⟨⟨b0,b1,b2,b3,b4,b5⟩,g0,g1,g2,g3,g4,g5⟩:=q9 (HRb.out w3 hb3);clear Td hb3)
  have hrow:=(A6 (j:=5) (A6 (j:=4) (A6 (j:=3) (A6 (j:=2) (A6 (j:=1) (A6 (j:=0) (HRb.out w3 H3.out.2) (.slice a1 n1 k1)) (.slice a2 n2 k2)) (ab c)) (.slice a3 n3 k3)) (.slice a4 n4 k4)) (.slice a5 n5 k5));have Zh:A1 w3 ((((((w3.setCell (af w.heap.size 0) (.slice a1 n1 k1)).setCell (af w.heap.size 1) (.slice a2 n2 k2)).setCell (af w.heap.size 2) (ab c)).setCell (af w.heap.size 3) (.slice a3 n3 k3)).setCell (af w.heap.size 4) (.slice a4 n4 k4)).setCell (af w.heap.size 5) (.slice a5 n5 k5)) [w.heap.size]:=((((((A1.refl w3 _).setCell (by simp) _).setCell (by simp) _).setCell (by simp) _).setCell (by simp) _).setCell (by simp) _).setCell (by simp) _;refine xm (K2 (p:=4) (t:=5) (ty:=48) rfl _ _ w.heap.size _ _ _ _ rfl hrow Tryz.underlying48 rfl yg) rfl ?_;refine⟨(Ak.out.trans (H3.out.2.mono Ak.out.size)).trans (Zh.below (by have:=Ak.out.size;have:=H3.out.2.size;omega) (λq hq=>by rw[mS.1 hq];exact yF _)),.inr ⟨Gb,E,b,c,S,_,_,_,_,_,xs,X,rfl,H3.out.1.akh Zh ⟨_,_,HRb.out w3 H3.out.2⟩ (by omega)⟩⟩
 ·have H2:=hid hb2
  have hr2:=(hb2.block w.heap.size hs1).trans Ck.out;have b0:=(A0 (j:=0) hr2).trans rfl;have b1:=(A0 (j:=1) hr2).trans rfl;have b2:=(A0 (j:=2) hr2).trans rfl;have b3:=(A0 (j:=3) hr2).trans rfl;have b4:=(A0 (j:=4) hr2).trans rfl;have b5:=(A0 (j:=5) hr2).trans rfl;have g0:=A3 (j:=0) hr2;have g1:=A3 (j:=1) hr2;have g2:=A3 (j:=2) hr2;have g3:=A3 (j:=3) hr2;have g4:=A3 (j:=4) hr2;have g5:=A3 (j:=5) hr2;have Lf:=hid hr2;clear hb2 hr2;go_wp2;have hrow:=(A6 (j:=5) (A6 (j:=4) (A6 (j:=3) (A6 (j:=2) (A6 (j:=1) (A6 (j:=0) Lf.out (.slice none 0 0)) (.slice none 0 0)) (ab 0)) (.slice none 0 0)) (.slice none 0 0)) (.slice none 0 0));have Zh:A1 w2 ((((((w2.setCell (af w.heap.size 0) (.slice none 0 0)).setCell (af w.heap.size 1) (.slice none 0 0)).setCell (af w.heap.size 2) (ab 0)).setCell (af w.heap.size 3) (.slice none 0 0)).setCell (af w.heap.size 4) (.slice none 0 0)).setCell (af w.heap.size 5) (.slice none 0 0)) [w.heap.size]:=((((((A1.refl w2 _).setCell (by simp) _).setCell (by simp) _).setCell (by simp) _).setCell (by simp) _).setCell (by simp) _).setCell (by simp) _
  refine xm (K2 (p:=4) (t:=5) (ty:=48) rfl _ _ w.heap.size _ _ _ _ rfl hrow Tryz.underlying48 rfl yg) rfl ?_;have hw2:Below w.heap.size w w2:=yR.out.trans (H2.out.mono (by omega));exact⟨hw2.trans (Zh.below hw2.size (λq hq=>by rw[mS.1 hq];exact yF _)),.inl ⟨Gb,rfl⟩⟩
theorem mI {P:List Ln}{G:Gr} (h:Ct P G):∀i,i< (Ch P).nN->Rv (Ao (D4 P) P) i=nth G.names i:=by
 intro i hi;rw[N7]at hi;unfold Rv nth;rw[h.g.names,zh,zh,sr];unfold Ao;rw[gM,gE hi];simp[G0,hi,TW]
theorem oA (s:ByteArray) (w:World) (hG:DT w) (hs:s.size<=9223372036854775807) (he:(GR s).1=0):
  Calls Tryz.prog 105 #[.string s] w λe w'=>∃yu yl gN xY,e=.returned (.tuple #[.agg #[.slice yu (Ch (AF (AG s 0).1)).nT yl,ae gN (Ch (AF (AG s 0).1)).nN xY],ab 0])/\(∀W'',(∀q,w.heap.size<=q->q<w'.heap.size->W''.heap[q]?=w'.heap[q]?)->Ba W'' w'.heap.size (Ch (AF (AG s 0).1)) (L9 (AF (AG s 0).1)) (Ao (D4 (AF (AG s 0).1)) (AF (AG s 0).1)) yu yl gN xY)/\Below w.heap.size w w':=by
 have hp:(EA s).1=0:=by rw[QZ];exact he
 have h4:s.size<=4000:=by
  rcases jw 4000 s.size with h |h
  ·unfold EA at hp;rw[aq h]at hp;cases hp
  ·exact h
 exact qM s w hG hs (ZJ s) hp _ _ _ (λW B v pv hb hV=>nD _ _ (UV s he) (ZJ s h4) W (hG.below hb hG.size) B v pv hV)
structure N3 (N:NG) (k1 k2 k3 k4:List Fa):Prop where
 fd:SA N k1 k2
 i3:IA N k2 k3
 s3:∀r∈N.rules,EE k3 r=k3
 i4:FD N k3 k4
 s4:∀r∈N.rules,EP k4 r=k4
theorem VX  (hN:N.Ok)  (h:SA N k1 k2):zT k2=yU (BN N false):=by
 funext n
 obtain⟨_,h2,_⟩:=U8 hN h.i1 h.s1;have h3:=h2.unique (LK N hN false).1 n;rw[<-h3];unfold zT;rw[h.i2.fl]
theorem N3.em  (hN:N.Ok)  (h:N3 N k1 k2 k3 k4):zT k4=yU (BN N false):=by
 rw[MT h.i4.fl,MT h.i3.fl,VX hN h.fd]
theorem N3.first  (hN:N.Ok)  (h:N3 N k1 k2 k3 k4) (n t:Nat):(AL k4 n).testBit t=col (IQ N (yU (BN N false))) t n:=by
 have h1:=jL hN h.i3 h.s3 t;rw[VX hN h.fd]at h1;rw[h.i4.fh];exact h1.unique ((PI N hN _).2 t) n
theorem N3.follow  (hN:N.Ok) (hT:N.nT<=20)  (h:N3 N k1 k2 k3 k4) (n t:Nat):(B1 k4 n).testBit t=col (OL N (IQ N (yU (BN N false))) (yU (BN N false))) t n:=by
 have h1:=dU hN hT h.i4 h.s4 t;rw[MT h.i3.fl,VX hN h.fd]at h1;have h2:(λn=>(AL k3 n).testBit t)=col (IQ N (yU (BN N false))) t:=by
  funext n
  rw[<-h.first hN n t,h.i4.fh]
 rw[h2]at h1;exact h1.unique ((jO N hN _ (PI N hN _).1 _).2 t) n
theorem M8 {i:Nat} (h:J3 n q=some i):i<n/\q i=false/\∀j,j<i->q j=true:=by
 unfold J3 at h;rw[List.find?_eq_some_iff_getElem]at h;obtain⟨h1,m,hm,h2,h3⟩:=h;simp at hm h2;subst h2;refine⟨hm,by simpa using h1,λj hj=>?_⟩;have:=h3 j hj;simpa using this
theorem XF  (h:J3 n q=none):∀j,j<n->q j=true:=by
 intro j hj;unfold J3 at h;rw[List.find?_eq_none]at h;have:=h j (ir.2 hj);simpa using this
theorem U2 {p:Fa->Bool}{k:List Fa} (hl:k.length=n) (h:∀(i:Nat) a,k[i]?=some a->p a= !q i):DE p k=match J3 n q with
  |some i=>(i:Int)
  |none=> -1:=by
 cases ho:J3 n q with
 |some i=>
  obtain⟨h1,h2,h3⟩:=M8 ho;refine fP (a:=k[i]) (gE (by omega)) ?_ (λm b hm hb=>?_)
  ·rw[h i _ (gE (by omega)),h2];rfl
  ·rw[h m b hb,h3 m hm];rfl
 |none=>
  refine fU λm b hb=>?_
  rw[h m b hb,XF ho m (by have:=(yS.1 hb).1;omega)];rfl
theorem iD {G:Gr} (hN:N.Ok) {pg:List Nm} (h:SA N k1 k2) (hnm:∀i,i<N.nN->Rv pg i=nth G.names i):FI pg k2=O7 G N:=by
 obtain⟨l1,_,l3⟩:=U8 hN h.i1 h.s1;have e1:=λn=>l1.unique (LK N hN true).1 n
 have e2:=λn=>(kC hN h.i2 h.s2).unique (UK N hN).1 n
 have e3:=λn=>l3.unique (SC N hN).1 n
 have hle:=h.i1.le;have i1:=U2 (p:=Kn) (q:=yU (BN N true)) h.i2.len (λi a ha=>by
  have h1:=ZC ha;rw[h.i2.fl]at h1;rw[<-e1 i,h1];unfold Kn
  by_cases hz:a.least=202
  ·simp[hz]
  ·have:((a.least:Int)==202)=false:=by simp;omega
   rw[this];simp[hz])
 have i2:=U2 (p:=Lz) (q:=yU (IV N)) h.i2.len (λi a ha=>by
  rw[<-e2 i,sR ha];rfl)
 unfold FI O7;rw[i1,i2];cases h1:J3 N.nN (yU (BN N true))with
 |some i=>
  simp only;rw[aq (by omega),hnm i (M8 h1).1]
 |none=>
  simp only;rw[au (by decide)];cases h2:J3 N.nN (yU (IV N))with
  |some i=>
   simp only;rw[aq (by omega),hnm i (M8 h2).1]
  |none=>
   simp only;rw[au (by decide)];have i3:=U2 (p:=Ko) (q:=λi=>decide (Cf (JJ N) i<=200)) h.i2.len (λi a ha=>by
    have h3:=ZC ha;rw[h.i2.fl]at h3;have hi:i<N.nN:=by rw[<-h.i2.len];exact(yS.1 ha).1
    have h4:=XF h1 i hi;rw[<-e1 i]at h4;have h5:=kf h4;have h6:=e3 i;have h7:=hle i;rw[h3]at h5 h6 h7;simp only[<-h6];unfold Ko
    by_cases hz:a.least=201
    ·simp[hz]
    ·have h8:((a.least:Int)==201)=false:=by simp;omega
     rw[h8];have h9:min a.least 201<=200:=by omega
     simp[h9])
   rw[i3];cases h3:J3 N.nN (λi=>decide (Cf (JJ N) i<=200))with
   |some i=>
    simp only;rw[aq (by omega),hnm i (M8 h3).1]
   |none=>
    simp only;rw[au (by decide)]
theorem jE (s:ByteArray) (w:World) (Q:World->Nat->Prop) (hQ:∀w1 w2 t,Q w1 t->Below w1.heap.size w1 w2->Q w2 t)
  (hR:Calls Tryz.prog 49 #[.string s] w λe w'=>∃tb pn pr po pt,e=.returned (.tuple #[ac tb,.agg #[.string pn,ab pr,ab po,.string pt],ab 0])/\Q w' tb/\Below w.heap.size w w'):
  Calls Tryz.prog 35 #[.string s] w λe w'=>∃gp,e=.returned (.tuple #[ac gp,ab 0])/\(∃tb,w'.cell? (af gp 0)=some (ac tb)/\Q w' tb)/\Below w.heap.size w w':=by
 have HR:=hid hR;have HQ:=hid hQ;clear hR hQ
 go_enter Tryz.func35,Tryz.ntmps35
 go_wp2_with (go_at_call 49;refine HR.out.mono ?_;rintro e w2 ⟨tb,pn,pr,po,pt,rfl,hq,hb2⟩;have HB:=hid hb2;have HQ2:=hid hq;clear hb2 hq HR)
 go_ret2
 have Iu:=BF (w2.alloc (.cells #[.string pn,ab pr,ab po,.string pt] 27)) #[ac tb] 113 0;rw[bg]at Iu;refine⟨_,rfl,⟨tb,Iu,HQ.out _ _ _ HQ2.out (zl (zl (ah _ _)))⟩,zl (zl HB.out)⟩
section
def S1 (i:Nat):Nat->Nat->Nat->Prop:=λx _ _=>x<i
def S2 (i k:Nat):Nat->Nat->Nat->Prop:=λx y _=>x<i\/x=i/\y<k
def S3 (i k t:Nat):Nat->Nat->Nat->Prop:=λx y z=>x<i\/x=i/\(y<k\/y=k/\z<t)
section
variable {H S S':Nat->Nat->Nat->Prop}{a:Bool}{i k t n:Nat}
end
end
section
theorem mD (pg:List Nm):PB pg=RY (pg.map (·.2)) 0:=by
 unfold PB RY;rw[List.zipIdx_map,rj];rfl
section
variable {N:NG}{L:List (List (List Pt))}
end
end
abbrev PT (s:ByteArray):List Ln:=AF (AG s 0).1
abbrev NT (s:ByteArray):NG:=Ch (PT s)
abbrev WT (s:ByteArray):List ByteArray:=L9 (PT s)
abbrev GT (s:ByteArray):List Nm:=Ao (D4 (PT s)) (PT s)
abbrev wC (s:ByteArray):ByteArray × Int:=O7 (GR s).2.2 (NT s)
theorem pN {s:ByteArray} (he:(GR s).1=0) (n:Nat) (nm:Nm) (r:Nat) (ps:List Pt) (hn:(GT s)[n]?=some nm) (hr:nm.2[r]?=some ps):ps.length<=8/\B3 (NT s) ps:=by
 have hg:=UV s he;have hR:=dB hg;refine⟨?_,?_⟩
 ·unfold GT Ao at hn
  rw[gM]at hn;cases hx:(AM (PT s))[n]? with
  |none=>rw[hx]at hn;cases hn
  |some x=>
   rw[hx]at hn;injection hn with hn
   subst hn;unfold TW at hr;rw[gM]at hr;cases hy:(A8 x.2.2)[r]? with
   |none=>rw[hy]at hr;cases hr
   |some y=>
    rw[hy]at hr;injection hr with hr
    subst hr;rw[lM];exact y5 (WD (mG hy)) (hg.long x (mG hx))
 ·have h1:(n,ps)∈(NT s).rules:=by
   show(n,ps)∈PB (GT s);rw[mD];have h2:=bR ((GT s).map (·.2)) 0 n r nm.2 ps (by rw[gM,hn];rfl) hr;rw[jl]at h2;exact mG h2
  exact hR.ok.ps h1
theorem kG (s:ByteArray) (w:World) (hG:DT w) (hs:s.size<=9223372036854775807) (he:(GR s).1=0):
  Calls Tryz.prog 68 #[.string s] w λe w'=>vU (NT s) (WT s) (GT s) w e w':=
 qG s w _ _ _ (λW hb=>oA s W (hG.below hb hG.size) hs he)
theorem j8 (s:ByteArray) (w:World) (hG:DT w) (hT:TabAt 1 Lib.deBruijn32tab w) (hs:s.size<=9223372036854775807) (he:(GR s).1=0) (hz:(wC s).2=0):
  Calls Tryz.prog 49 #[.string s] w λe w'=>Below w.heap.size w w'/\
   ((∃(n q r t:Nat) (nm:Nm),e=.returned (.tuple #[.pointer none,.agg #[.string nm.1,ab q,ab r,.string (CV (WT s) (NT s).nT t)],ab 9])/\(GT s)[n]?=some nm/\xG (NT s) ((GT s).map (·.2)) n q r t)\/
    (∃tb k4,e=.returned (.tuple #[ac tb,.agg #[.string ByteArray.empty,ab 0,ab 0,.string ByteArray.empty],ab 0])/\(∃k1 k2 k3,N3 (NT s) k1 k2 k3 k4)/\iK (NT s) (WT s) (GT s) k4 w' tb/\∀n,n< ((GT s).map (·.2)).length->rI (NT s) ((GT s).map (·.2)) n)):=by
 have hg:=UV s he;have hR:=dB hg;have key:∀{k1 k2 k3 k4:List Fa},N3 (NT s) k1 k2 k3 k4->∀{n r:Nat}{nm:Nm}{ps:List Pt}{t:Nat},(GT s)[n]?=some nm->nm.2[r]?=some ps->(F5 k4 (GT s) n r).testBit t=RA (NT s) n ps t:=by
  intro k1 k2 k3 k4 hD n r nm ps t hn hr;rw[RP _ hn hr];exact qU (hD.em hR.ok) (hD.first hR.ok) (hD.follow hR.ok hR.Aj) _ _ _
 have ahe:∀{k1 k2 k3 k4:List Fa},N3 (NT s) k1 k2 k3 k4->∀{R:Nat->Nat->Int}{m:Nat},(∀nm':Nm,(GT s)[m]?=some nm'->∀t,t<21->IZ (F5 k4 (GT s) m) nm'.2.length (R m) t)->rI (NT s) ((GT s).map (·.2)) m:=by
  intro k1 k2 k3 k4 hD R m hrow rs r0 r p0 p t h1 h2 h3 h4 h5;rw[gM]at h1;cases hm:(GT s)[m]? with
  |none=>rw[hm]at h1;cases h1
  |some nm'=>
   rw[hm]at h1;injection h1 with h1
   subst h1;have ht:t<21:=by have h9:(NT s).nT<=20:=hR.Aj;omega
   have h6:=rN (hrow nm' hm t ht) h2 (yS.1 h4).1
   rwa [key hD hm h3,key hD hm h4]at h6
 refine(rS s w (NT s) (WT s) (GT s) hT hR.ok (λk2 k3 k4=>∃k1,N3 (NT s) k1 k2 k3 k4) (pN he) (λW hb=>(kG s W (hG.below hb hG.size) hs he).mono ?_)).mono ?_
 ·rintro e w' ⟨hb',k1,k2,hf,h⟩
  have hsame:=iD hR.ok hf (mI hg)
  rcases h with⟨h,_⟩ | ⟨_,k3,k4,n₀,kb,yu,yl,gN,xY,h3,s3,h4,s4,h5,h6,h7,h8,h9⟩
  ·rw[hsame]at h;exact absurd hz h
  ·exact⟨hb',k2,k3,k4,n₀,kb,yu,yl,gN,xY,⟨k1,hf,h3,s3,h4,s4⟩,h3,h4,h5,h6,h9,h7,h8⟩
 ·rintro e w' ⟨hb',k2,k3,k4,⟨k1,hD⟩,⟨n,q,r,t,nm,h1,h2,h3,h4,h5,h6,h7,R,h8⟩ | ⟨tb,h1,h2⟩⟩
  ·refine⟨hb',.inl ⟨n,q,r,t,nm,h1,h2,⟨?_,λm hm=>ahe hD (h8 m hm)⟩⟩⟩
   obtain⟨p0,Tu⟩:∃p0,nm.2[q]?=some p0:=⟨_,gE (by omega)⟩;obtain⟨p,hp⟩:∃p,nm.2[r]?=some p:=⟨_,gE h4⟩;exact⟨nm.2,p0,p,by rw[gM,h2];rfl,h3,Tu,hp,h5,by rw[<-key hD h2 Tu];exact h6,by rw[<-key hD h2 hp];exact h7⟩
  ·obtain⟨n₀,kb,yu,yl,gN,xY,R,E,_,_,_,_,_,h3⟩:=h2.ex
   exact⟨hb',.inr ⟨tb,k4,h1,⟨k1,k2,k3,hD⟩,h2,λn _=>ahe hD (h3 n)⟩⟩
theorem fX  (h:m.Good):NT (DB m)=zg m:=rO h
theorem tN  (h:m.Good):WT (DB m)=N0 m:=QR h
theorem uP  (h:m.Good):GT (DB m)=Jy m:=TM h
theorem qW  (h:m.Good):(wC (DB m)).2=0:=by
 show(O7 _ (NT (DB m))).2=0;rw[fX h,i8 h]
theorem tU  (h:m.Good)  (hD:N3 (zg m) k1 k2 k3 k4) {tb:Nat} (ht:iK (zg m) (N0 m) (Jy m) k4 w tb):
  ∃T:zn,T.N=zg m/\T.yL=N0 m/\T.pg=Jy m/\T.yN=F8 m/\T.tb=tb/\T.Ok/\T.In w/\T.k=k4:=by
 obtain⟨n₀,kb,yu,yl,gN,xY,R,E,_,hF,hV,_,hE,hR⟩:=ht.ex;have hN:=IU h;have hem:zT k4=yU (BN (zg m) false):=hD.em hN;have aki:∀n,zT k4 n=false:=λn=>by rw[hem];exact rU h n
 refine⟨⟨n₀,tb,kb,zg m,N0 m,Jy m,yu,yl,gN,xY,k4,R,E,F8 m⟩,rfl,rfl,rfl,rfl,rfl,?_,⟨hF,hV⟩,rfl⟩;have akj:∀n t,n< (zg m).nN->t<=20->(AL k4 n).testBit t=(F8 m n t).isSome:=λn t hn ht=>by
  obtain⟨rs,hrs⟩:∃rs,m.rules[n]?=some rs:=⟨_,gE hn⟩;rw[hD.first hN];show yU (Dq _ n) t=_;rw[kZ h hrs,OM hrs,og,ia,Option.isSome_iff_ne_none];rw[ne_eq,List.getElem?_eq_none_iff];omega
 have ahf:∀{n q t:Nat}{nm:Nm}{ps:List Pt},(Jy m)[n]?=some nm->nm.2[q]?=some ps->(F5 k4 (Jy m) n q).testBit t=decide (q=t):=λ{n q t nm ps} hn hq=>by
  rw[RP k4 hn hq,JR];obtain⟨rest,e⟩:=LG h n q ps (by rw[OM (fD m hn)];exact hq);rw[e];have e2:FE (zT k4) (Pt.tok q::rest)=false:=rfl;rw[e2];show(q==t||_)=_;rw[og];simp
 constructor
 ·exact λn=>by show AL k4 n<_;rw[hD.i4.fh];exact hD.i3.lt n
 ·exact akj
 ·intro n t rhs hk
  have hk:F8 m n t=some rhs:=hk;obtain⟨rs,h1,h2⟩:=LZ hk;obtain⟨h3,h4,_,_⟩:=gL h hk;refine⟨h3,h4,(BL n,rs),QT m h1,?_,h2⟩;have ady:t<21:=by have:=h.t6;omega
  have hlt:=(yS.1 h2).1
  rcases hR n _ (QT m h1) t ady with⟨_,h5⟩ | ⟨q,h5,h6,h7,_⟩
  ·have:=h5 t hlt
   rw[ahf (QT m h1) h2]at this;simp at this
  ·obtain⟨p,hp⟩:∃p,rs[q]?=some p:=⟨_,gE h5⟩
   rw[ahf (QT m h1) hp,ia]at h7;subst h7;exact h6
 ·intro n t rhs hk
  exact(gL h hk).2.2
 ·intro n
  show E n=0;rw[hE (λr hr=>by
   obtain⟨k,hk⟩:=(IX m r.1 r.2).1 hr;obtain⟨rest,e⟩:=LG h _ _ _ hk;rw[e];rfl)]
 ·exact LG h
 ·exact IX m
 ·exact h.n1
 ·exact λn _=>aki n
theorem uG  (h:m.Good):0< (BD (zg m).rules).1.length:=by
 obtain⟨r,hr,_⟩:=h.ab0 (n:=0) h.n1
 generalize (zg m).rules=L at hr
 rcases List.eq_nil_or_concat L with rfl | ⟨L',x,rfl⟩
 ·cases hr
 ·rw[List.concat_eq_append,SB]
  unfold D0;simp only[lA,ey];omega
theorem lW  (h:m.Good) (w:World) (hG:DT w) (hT:TabAt 1 Lib.deBruijn32tab w):
  Calls Tryz.prog 49 #[.string (DB m)] w λe w'=>Below w.heap.size w w'/\∃(tb:Nat) (T:zn),e=.returned (.tuple #[ac tb,.agg #[.string ByteArray.empty,ab 0,ab 0,.string ByteArray.empty],ab 0])/\T.N=zg m/\T.yL=N0 m/\T.yN=F8 m/\T.tb=tb/\T.Ok/\T.In w'/\T.pg=Jy m:=by
 have hs:(DB m).size<=9223372036854775807:=by have:=UY h;omega
 refine(j8 (DB m) w hG hT hs (Y7 h) (qW h)).mono ?_;rw[fX h,uP h,tN h];rintro e w' ⟨hb,⟨n,q,r,t,nm,_,hn,hcl⟩ | ⟨tb,k4,rfl,⟨k1,k2,k3,hD⟩,ht,_⟩⟩
 ·exfalso
  obtain⟨rs,p0,p,h1,h2,h3,h4,_,h5,h6⟩:=hcl.ex;rw[gM,hn]at h1;injection h1 with h1
  subst h1;have hsp:∀{q:Nat}{ps:List Pt},nm.2[q]?=some ps->RA (zg m) n ps t=decide (q=t):=λ{q ps} hq=>by
   obtain⟨rest,e⟩:=LG h n q ps (by rw[OM (fD m hn)];exact hq);rw[e];unfold RA;rw[og];simp[DQ,FE]
  rw[hsp h3,ia]at h5;rw[hsp h4,ia]at h6;omega
 ·obtain⟨T,h1,h2,h3,h4,h5,h6,h7,_⟩:=tU h hD ht
  exact⟨hb,tb,T,rfl,h1,h2,h4,h5,h6,h7,h3⟩
theorem ZK  (h:m.Good) (w:World) (hG:DT w) (hT:TabAt 1 Lib.deBruijn32tab w):
  Calls Tryz.prog 35 #[.string (DB m)] w λe w'=>∃(gp:Nat) (T:zn),e=.returned (.tuple #[ac gp,ab 0])/\K3 T w' gp/\T.N=zg m/\T.yL=N0 m/\T.yN=F8 m/\T.pg=Jy m/\Below w.heap.size w w':=by
 refine(jE (DB m) w (λW tb=>∃T:zn,T.N=zg m/\T.yL=N0 m/\T.yN=F8 m/\T.tb=tb/\T.Ok/\T.In W/\T.pg=Jy m) ?_ ((lW h w hG hT).mono ?_)).mono ?_
 ·rintro w1 w2 t ⟨T,h1,h2,h3,h4,h5,h6,h7⟩ hb
  exact⟨T,h1,h2,h3,h4,h5,h6.below h6.bd hb,h7⟩
 ·rintro e w' ⟨hb,tb,T,rfl,hT⟩
  exact⟨tb,_,_,_,_,rfl,⟨T,hT⟩,hb⟩
 ·rintro e w' ⟨gp,rfl,⟨tb,hc,T,h1,h2,h3,h4,h5,h6,h7⟩,hb⟩
  exact⟨gp,T,rfl,⟨h6,h5,by rw[h4];exact hc,by rw[h2,h1];exact uY h⟩,h1,h2,h3,h7,hb⟩
theorem Tryz.infoG9:(Tryz.prog.info? 9).map (λi=>(i.zero,i.size,i.bytes))=some (some (.string ByteArray.empty),1,16):=by kernel_rfl
theorem nA (l:List ByteArray) (s:ByteArray):JD (l++ [s])=JD l++ [.string s]:=by unfold JD;simp
theorem Tryz.infoG129:(Tryz.prog.info? 129).map (λi=>(i.zero,i.size,i.bytes))=some (some (.agg #[.string ByteArray.empty,ab 0,ab 0]),3,32):=by kernel_rfl
structure GE (w:World) (gb B mb:Nat) (raw:Value) (x left:Nat) (rv tv:Value) (ws:List ByteArray) (NS:List Cn):Prop where
 blk:w.heap[gb]?=some (.cells #[ac mb,raw,ab x,rv,tv,ab left] 143 (0,0))
 row:DO w B rv ws
 tree:w.ownsRow B 129 3 tv NS.length (BG NS)
def Ou (nd:IK):Cn:=(EQ nd.part,nd.rule,nd.size)
def J0:Pt->Nat
 | .tok _=>0
 | .yB _=>1
def VB (m:Mk) (mb B:Nat) (raw:Value) (left:Nat) (p:Pt):Prop:=∀(w:World) (gb:Nat) (rv tv:Value) (ws:List ByteArray) (NS:List Cn) (x:Nat),
 (∀W,Below B w W->Gk W B mb m/\KB W raw)->B<=gb->B<=w.heap.size->GE w gb B mb raw x left rv tv ws NS->x+left<=1000->left<=3->ws.length+5 ^(left+J0 p)<=100000->NS.length+6 ^(left+J0 p)<=100000->
 Calls Tryz.prog 72 #[ac gb,.string (EQ p)] w λe w'=>e=.returned (.tuple #[])/\∃l S rv' tv' x' left',zJ (F8 m) [p] l S/\x'+left'=x+left/\left'<=left/\l.length<=5 ^(left+J0 p)/\S.length<=6 ^(left+J0 p)/\GE w' gb B mb raw x' left' rv' tv' (ws++l.map AA) (NS++S.map Ou)/\Below B w w'
theorem GE.drew  (h:GE w gb B mb raw x left rv tv ws NS):GE w.drew gb B mb raw x left rv tv ws NS:=⟨h.blk,h.row,h.tree⟩
theorem GE.word {W w1 Wa:World}{v':Value}{s:ByteArray} (h:GE W gb B mb raw x left rv tv ws NS) (hka:A1 W Wa []) (hgb:B<=gb) (hB:B<=W.heap.size)
  (hown:w1.ownsRow B 9 1 v' (ws.length+1) (JD ws++ [.string s])) (hgrow:Wa.grownBy w1 rv.ownBlock):
  (w1.cell? (af gb 3)=some rv/\w1.frozen? (af gb 3)=false)/\GE (w1.setCell (af gb 3) v') gb B mb raw x left v' tv (ws++ [s]) NS/\Below B W (w1.setCell (af gb 3) v'):=by
 obtain⟨z1,z2,z3,z4⟩:=EN (j:=3) hka h.blk (by decide) h.row hown hgrow;refine⟨⟨(A0 z1).trans rfl,A3 z1⟩,⟨z2,?_,A7 h.tree z4 (λg hg hm=>?_)⟩,z4.below hB (λq hq=>?_)⟩
 ·unfold DO;rw[nA,lA];exact z3
 ·rcases bh.1 hm with e |e
  ·subst e;exact A5 h.tree h.blk (by decide) hg
  ·exact GG h.tree h.row (by decide) hg Cp
 ·rcases bh.1 hq with e |e
  ·omega
  ·exact(h.row.lt q Cp).1
theorem GE.node {W w1 Wa:World}{v':Value}{nd:Cn} (h:GE W gb B mb raw x left rv tv ws NS) (hka:A1 W Wa []) (hgb:B<=gb) (hB:B<=W.heap.size)
  (hown:w1.ownsRow B 129 3 v' (NS.length+1) (BG NS++ [.string nd.1,ab nd.2.1,ab nd.2.2])) (hgrow:Wa.grownBy w1 tv.ownBlock):
  (w1.cell? (af gb 4)=some tv/\w1.frozen? (af gb 4)=false)/\GE (w1.setCell (af gb 4) v') gb B mb raw x left rv v' ws (NS++ [nd])/\Below B W (w1.setCell (af gb 4) v'):=by
 obtain⟨z1,z2,z3,z4⟩:=EN (j:=4) hka h.blk (by decide) h.tree hown hgrow;refine⟨⟨(A0 z1).trans rfl,A3 z1⟩,⟨z2,DO.keeps h.row z4 (λg hg hm=>?_),?_⟩,z4.below hB (λq hq=>?_)⟩
 ·rcases bh.1 hm with e |e
  ·subst e;exact A5 h.row h.blk (by decide) hg
  ·exact GG h.row h.tree (by decide) hg Cp
 ·rw[GJ,LM,lA];exact z3
 ·rcases bh.1 hq with e |e
  ·omega
  ·exact(h.tree.lt q Cp).1
theorem cM  (hm:m.Good) (mb B:Nat) (raw:Value) (left t:Nat) (ht:t<m.yP.length):VB m mb B raw left (.tok t):=by
 intro w gb rv tv ws NS x hM hgb hBw hV hx Lp Je Dj;obtain⟨iS,Ij,Ik,Il,Im⟩:=jc Tryz.infoG9;obtain⟨iN,Hx,Nr,Ns,Nt⟩:=jc Tryz.infoG129;have Ji:t<6:=by have:=hm.t6;omega
 have l1:=fZ t Ji;have l2:=gG t Ji;have l3:=fK t Ji;have c3:w.cell? (af gb 3)=some rv:=(A0 hV.blk).trans rfl;have c4:w.cell? (af gb 4)=some tv:=(A0 hV.blk).trans rfl;have hrow:=hV.row;have Jz:=hV.tree;unfold DO at hrow;obtain⟨adr,Jc,rfl,Mn⟩:=E7 hrow;obtain⟨Vk,Vl,rfl,hct⟩:=E7 Jz;obtain⟨nr,Ky⟩:=qE (ws.length);obtain⟨nt,hnt⟩:=qE (NS.length);have al6:nr<100000:=by have:0<5 ^(left+J0 (.tok t)):=xH (by omega);omega
 have al7:nt<100000:=by have:0<6 ^(left+J0 (.tok t)):=xH (by omega);omega
 rw[Ky]at c3 hrow Mn;rw[hnt]at c4 Jz hct;rw[Ky,hnt]at hV;have HV:=hid hV;have HR:=hid hrow;have HT:=hid Jz;have hbl:gb<w.heap.size:=ak hV.blk;have ogR:some gb≠(Value.slice adr nr Jc).ownBlock:=λe=>A5 hrow hV.blk (by decide) e.symm
 have Qz:some gb≠(Value.slice Vk nt Vl).ownBlock:=λe=>A5 Jz hV.blk (by decide) e.symm
 obtain⟨s,hs⟩:=qF (AA t);rw[<-hs]at l1 l2 l3;have HS:=hid hs;show Calls _ _ #[_,.string (AA t)] _ _;rw[<-hs];clear hV hrow Jz hM Je Dj hs
 go_enter Tryz.func72,Tryz.ntmps72
 have q3:(w.alloc (.cells #[.string s] 9)).cell? (af gb 3)=some (.slice adr nr Jc):=A2 _ c3
 go_wp2_with (at_builtin;refine jq _ rfl _ _ 39 rfl B 9 iS (.string ByteArray.empty) 1 16 Tryz.underlying39 Ij Ik Il Im rfl (by decide) _ _ _ rfl (HR.out.alloc _) (af w.heap.size 0) 1 1 [.string s] rfl rfl (dh (dw w _)) ?c2 (yF 1) ?c3 ?c4 ?c5 _ rfl ?_)
 case c2=>intro u hu;simp at hu;subst hu;rfl
 case c3=>unfold maxLen;omega
 case c4=>omega
 case c5=>simp;omega
 intro g3 Am w3 zO zM Fu Eh;obtain⟨⟨y1,y2⟩,y3,y4⟩:=HV.out.word ((A1.refl w []).alloc (.cells #[.string s] 9)) hgb hBw (v':=ae g3 (nr+1) Am) (by rw[Ky];exact zO) zM;have HY:=hid (And.intro y3 y4);clear y3 y4 zO zM Fu Eh q3 c3 c4
 go_upto_region 3 with fail
 obtain⟨W4,Dv⟩:=qE (w3.setCell (af gb 3) (ae g3 (nr+1) Am));rw[Dv]at HY ⊢;clear Dv y1 y2;have c4:W4.cell? (af gb 4)=some (.slice Vk nt Vl):=(A0 HY.out.1.blk).trans rfl;have q4:((W4.alloc (.cells #[.string s,ab (-1),ab 1] 129))).cell? (af gb 4)=some (.slice Vk nt Vl):=A2 _ c4;have hT4:=HY.out.1.tree;rw[hnt]at hT4;have HT4:=hid hT4;have Vc:=HY.out.2.size;have Vc:B<=W4.heap.size:=by omega
 clear hT4
 go_wp2_with (at_builtin;refine jq _ rfl _ _ 40 rfl B 129 iN (.agg #[.string ByteArray.empty,ab 0,ab 0]) 3 32 Tryz.underlying40 Hx Nr Ns Nt rfl (by decide) _ _ _ rfl (HT4.out.alloc _) (af W4.heap.size 0) 1 1 [.string s,ab (-1),ab 1] rfl rfl (dh (dw W4 _)) ?d2 (yF 1) ?d3 ?d4 ?d5 _ rfl ?_)
 case d2=>simp[Value.oneCell']
 case d3=>unfold maxLen;omega
 case d4=>omega
 case d5=>simp;omega
 intro g5 abA w5 abB abC aeE abc;obtain⟨⟨y1,y2⟩,y3,y4⟩:=HY.out.1.node (nd:=(s,-1,1)) ((A1.refl W4 []).alloc (.cells #[.string s,ab (-1),ab 1] 129)) hgb Vc (v':=ae g5 (nt+1) abA) (by rw[hnt];exact abB) abC;have HZ:=hid (And.intro y3 y4);clear y3 y4 abB abC aeE abc q4 c4;go_wp2;refine xm (ql rfl _ _ _) rfl ?_;refine⟨rfl,[t],[⟨.tok t,-1,1⟩],ae g3 (nr+1) Am,ae g5 (nt+1) abA,x,left,.tok .nil,rfl,yF _,?_,?_,?_,HY.out.2.trans HZ.out.2⟩
 ·exact xH (by omega)
 ·exact xH (by omega)
 ·have h1:=HZ.out.1
  rw[HS.out]at h1;exact h1
theorem V6:∀(w:List UInt8) (ws:List (List UInt8)),BP (w::ws)=w++ws.flatMap (λv=>32::v)
 |w,[]=>by simp[BP]
 |w,v::r=>by
  have ih:=V6 v r;show w++32::BP (v::r)=_;rw[ih,gy];rfl
def J9 (k:Nat) (r:List (List UInt8)):List UInt8:=(if 0<k then [32,124]else [])++r.flatMap λv=>32::v
theorem XG:∀(L:List (List (List UInt8))) (q:List (List UInt8)) (k:Nat),0<k->((q::L).zipIdx k).flatMap (λx=>J9 x.2 x.1)=[32,124]++(G8 (q::L)).flatMap λv=>32::v
 | [],q,k,hk=>by
  rw[vw,List.zipIdx_nil,gy,List.flatMap_nil,iq];show J9 k q=[32,124]++q.flatMap λv=>32::v
  unfold J9;rw[aq hk]
 |r::L,q,k,hk=>by
  have ih:=XG L r (k+1) (by omega);rw[vw,gy,ih];show J9 k q++_=[32,124]++(q++ [124]::G8 (r::L)).flatMap λv=>32::v
  rw[mg,gy];unfold J9;rw[aq hk];simp
theorem o2 (L:List (List (List UInt8))):(G8 L).flatMap (λv=>32::v)=L.zipIdx.flatMap λx=>J9 x.2 x.1:=by
 cases L with
 |nil=>rfl
 |cons q L=>
  cases L with
  |nil=>simp[G8,J9]
  |cons r L=>
   have h:=XG L r 1 (by omega);rw[vw,gy,show 0+1=1 from rfl,h];show(q++ [124]::G8 (r::L)).flatMap (λv=>32::v)=_;rw[mg,gy];simp[J9]
def JV (m:Mk) (i j:Nat):List UInt8:=if 0<D1 m i j then [115,119,97,112,32]++wB (.tok i)++ [32]++wB (.tok j)++ [32]++ [UInt8.ofNat (48+D1 m i j)]++ [10]else []
def KJ (m:Mk) (i:Nat):List UInt8:=[116,111,107,101,110,32]++wB (.tok i)++ [32]++ [UInt8.ofNat (48+m.yP.getD i 0)]++ [32]++ [UInt8.ofNat (48+m.zk.getD i 0)]++ [10]
def K1 (m:Mk) (i:Nat):List UInt8:=KJ m i++(List.range m.yP.length).flatMap (JV m i)
def LE (n:Nat):List UInt8:=[114,117,108,101,32]++wB (.yB n)++ [32,61]
def GW (r:List Pt):List UInt8:=r.flatMap λp=>32::wB p
def LO (k:Nat):List UInt8:=if 0<k then [32,124]else []
def LS (x:List (List Pt) × Nat):List UInt8:=LE x.2++x.1.zipIdx.flatMap (λy=>LO y.2++GW y.1)++ [10]
theorem jF (n:Nat) (rs:List (List Pt)):BP (E4 n rs)++ [10]=LS (rs,n):=by
 unfold E4 LS LE;rw[V6,gy,gy,o2,List.zipIdx_map,rj];have e:(λx:List Pt × Nat=>J9 (Prod.map (λr=>List.map wB r) id x).2 (Prod.map (λr=>List.map wB r) id x).1)=λy=>LO y.2++GW y.1:=by
  funext x
  show J9 x.2 (x.1.map wB)=_;unfold J9 LO GW;rw[rj]
 rw[e];simp
theorem jB (m:Mk) (i:Nat):(((I4 m i).map BP).flatMap λl=>l++ [10])=K1 m i:=by
 unfold I4 K1;rw[jv,gy,rq,xO]
 congr 1
 congr 1
 funext j
 unfold JV;split
 ·simp[IC,BP,wB]
 ·rfl
theorem sY (m:Mk):DB m=ba ((List.range m.yP.length).flatMap (K1 m)++m.rules.zipIdx.flatMap LS):=by
 unfold DB LR F7;rw[ew,mg,rq,xO,pz,rj]
 congr 2
 ·congr 1
  funext i
  exact jB m i
 ·congr 1
  funext x
  exact jF x.2 x.1
theorem MC {β:Type} (f:Nat->List β) (k:Nat):(List.range (k+1)).flatMap f=(List.range k).flatMap f++f k:=by
 rw[uj,mg];simp
theorem QS {α β:Type} (f:α->List β) {l:List α}{k:Nat}{a:α} (h:l[k]?=some a):(l.take (k+1)).flatMap f=(l.take k).flatMap f++f a:=by
 rw[sy,h,mg];simp
theorem OC (x:List UInt8) (b:ByteArray):ba x++b=ba (x++b.data.toList):=by
 apply bX;simp[ba]
end Go.Proofs.YtjjggdcnpndgjaaGreatDoor
