import Derived.Test.YtjjggdcnpndgjaaGreatDoorCJ39
set_option linter.unusedSimpArgs false
set_option maxHeartbeats 8000000
set_option maxRecDepth 100000
namespace Go.Proofs.YtjjggdcnpndgjaaGreatDoor
open Go.RowKit Go.Shelf
variable {B n t:Nat}{N:NG}{m:Mk}{v:Value}{w:World}
theorem qV {T:Am}{l:List Nat}{i:Nat} (h:S6 T l i) (hr:D4 T.zH [.zi 0] l=some []):False:=by
 obtain⟨L,h1,h2 | ⟨h2,h3⟩⟩:=h
 ·have h4:D4 T.zH [.zi 0] (l.take (i+1)++l.drop (i+1))=some []:=by rw[td];exact hr
  obtain⟨L',h5,_⟩:=OH h4;rw[h2.2]at h5;cases h5
 ·rw[h2,om,hr]at h1
  injection h1 with h1
  exact h3 h1.symm
theorem UN:∀{l:List Ab}{k:Nat}{e:Ab},l[k]?=some e->(DW l)[k*5]?=some (ab e.loc)/\(DW l)[k*5+1]?=some (ab e.kind)/\(DW l)[k*5+2]?=some (ab e.old)/\(DW l)[k*5+3]?=some (ab e.new)/\(DW l)[k*5+4]?=some (ab e.cost)
 | [],k,e,h=>by cases h
 |a::l,0,e,h=>by
  obtain rfl:a=e:=by simpa using h
  exact⟨rfl,rfl,rfl,rfl,rfl⟩
 |a::l,k+1,e,h=>by
  have h:l[k]?=some e:=by simpa using h
  obtain⟨h0,h1,h2,h3,h4⟩:=UN h;have e1:DW (a::l)=EC a++DW l:=rfl;have e5:(EC a).length=5:=rfl;rw[e1];refine⟨?_,?_,?_,?_,?_⟩
  ·rw[Bc (by omega),e5,show(k+1)*5 - 5=k*5 by omega];exact h0
  ·rw[Bc (by omega),e5,show(k+1)*5+1 - 5=k*5+1 by omega];exact h1
  ·rw[Bc (by omega),e5,show(k+1)*5+2 - 5=k*5+2 by omega];exact h2
  ·rw[Bc (by omega),e5,show(k+1)*5+3 - 5=k*5+3 by omega];exact h3
  ·rw[Bc (by omega),e5,show(k+1)*5+4 - 5=k*5+4 by omega];exact h4
theorem mU  (hN:N.Ok) {l:List Pt}{b:List Nat} (h:Bb N l b):(∀t,Pt.tok t∈l->t<N.nT)->∀x∈b,x<N.nT:=by
 induction h with
 |nil=>intro _ x hx;cases hx
 |tok h ih=>
  intro hl x hx
  rcases bk.1 hx with e |e
  ·subst e;exact hl _ (ew ..)
  ·exact ih (λt ht=>hl t (gj _ ht)) x e
 |zi hm h1 h2 ih1 ih2=>
  intro hl x hx
  rcases ig.1 hx with e |e
  ·exact ih1 (λt ht=>hN.pt _ hm t ht) x e
  ·exact ih2 (λt ht=>hl t (gj _ ht)) x e
theorem uJ  (hG:Zt N) {b:List Nat} (h:Bb N [.zi n] b):b≠ []:=by
 obtain⟨rhs,h1,h2⟩:=WX h;obtain⟨t,ps,h3⟩:=hG _ h1;simp only at h3;subst h3;cases h2 with
 |tok _=>simp
theorem bQ {w':World}{S:List Nat}{e sz:Nat}{xs:List Value} (h:w.ownsRow B e sz v n xs) (hk:A5 w w' S) (hS:∀q∈S,∃c t f,w.heap[q]?=some (.cells c t f)/\e≠t):w'.ownsRow B e sz v n xs:=
 AC h hk (λg hg hm=>by
  obtain⟨c,t,f,h1,h2⟩:=hS g hm;exact A9 h h1 h2 hg)
structure Q0 (T:Am) (w:World) (B:Nat) (row:List Nat) (E:List Ab) (b:List Nat) (c:Nat) (S:List GF) (ve vc vr vt vx:Value) (xs:List Value) (X:List (List ByteArray)):Prop where
 run:Aa T.N row 0 E row.length b c
 tree:Az T.zH [.zi 0] b S
 least:∀b' c',Bb T.N [.zi 0] b'->Al T.N row b' c'->c<=c'
 ed:w.ownsRow B 121 4 ve E.length (E.flatMap (Mt T))
 co:DQ w B vc (E.map (·.cost))
 wd:w.ownsRow B 9 1 vr b.length (Th T b)
 nd:w.ownsRow B 129 3 vt S.length (BT (S.map (PU T)))
 xr:w.ownsRow B 39 1 vx xs.length xs
 xl:xs.length=E.length/\X.length=E.length
 xw:∀(i:Nat) u l,xs[i]?=some u->X[i]?=some l->BL w B u l
 ex:P6 T row E X
theorem sY {T:Am} (hI:T.In w) (Fb:T.Ok) (Ot:∀V,Below w.heap.size w V->TabAt 1 Lib.deBruijn32tab V) {row:List Nat}{rv:Value} (hrw:Em w w.heap.size rv row) (hrl:∀x∈row,x<T.N.nT) (Jp:row.length<=100) (Hz:0< (BH T.N.rules).1.length)
  (hex:∃b c,Bb T.N [.zi 0] b/\Al T.N row b c/\c<=9000):
  Calls Tryz.prog 56 #[ac T.tb,rv] w λr w'=>∃E b c S ve vc vr vt vx xs X,r=.returned (.tuple #[.agg #[ve,vc,ab (c:Nat),vr,vt,vx],ab 0])/\Q0 T w' w.heap.size row E b c S ve vc vr vt vx xs X/\Below w.heap.size w w':=by
 have HI:Hid (∀V,Below w.heap.size w V->T.In V):=hid λV hb=>hI.below hI.bd hb
 have Dy:Hid T.Ok:=hid Fb;have afd:=hid Ot;have Vi:Hid (∀V,Below w.heap.size w V->Em V w.heap.size rv row):=hid λV hb=>hrw.below hb
 have Ms:Hid (∀x∈row,x<T.N.nT):=hid hrl;have HEx:=hid hex;have Mx:=hid Hz;have Sh:Hid (T.Bd w.heap.size):=hid hI.bd;obtain⟨aR,cR,Cn,Fy,_⟩:=hrw;have Dh:T.tb<w.heap.size:=hI.bd.tb;obtain⟨L0,Pc⟩:=qF (row.length);rw[<-Pc]at Cn Fy Jp;have HL:=hid Pc;subst Cn;have ahF:Hid (∀V,Below w.heap.size w V->Calls Tryz.prog 93 #[ac T.tb] V λe w'=>∃wk v,e=.returned (ac wk)/\V.heap.size<=wk/\Ce w' wk T.tb V.heap.size v [.zi 0] 0/\Below V.heap.size V w'):=hid λV hb=>YF (HI.out V hb)
 clear hI Fb Ot hrl hex Hz Pc
 go_enter Tryz.func56,Tryz.ntmps56
 go_upto_region 1 with fail
 obtain⟨W1,hW1⟩:=qE (w.alloc (.cells #[.slice none 0 0,.slice none 0 0,ab 0,.slice none 0 0,.slice none 0 0,.slice none 0 0] 48));have hb1:Below w.heap.size w W1:=by rw[<-hW1];exact(ah _ w).alloc (zn _) _
 have hr1:W1.heap[w.heap.size]?=some (.cells #[.slice none 0 0,.slice none 0 0,ab 0,.slice none 0 0,.slice none 0 0,.slice none 0 0] 48 (0,0)):=by rw[<-hW1];exact bg w _
 rw[hW1];clear hW1;obtain⟨B,hBe⟩:=qF (W1.heap.size);have Te:w.heap.size<B:=by rw[hBe];exact ak hr1
 have HBe:=hid hBe;have zL:=hid hb1;have Dq:=hid hr1;have ahG:Hid (Calls Tryz.prog 93 #[ac T.tb] W1 λe w'=>∃wk v,e=.returned (ac wk)/\B<=wk/\Ce w' wk T.tb B v [.zi 0] 0/\Below B W1 w'):=hid (by rw[hBe];exact ahF.out W1 hb1);clear hb1 hr1 hBe ahF
 go_upto_region 2 with(go_at_call 93;refine ahG.out.mono ?_;rintro r W2 ⟨wk,ws,rfl,hwk,hwv,hb2⟩;have H2:=hid (And.intro hwk (And.intro hwv hb2));clear hwk hwv hb2)
 obtain⟨W3,hW3⟩:=qE (W2.alloc (.cells #[ac T.tb,.slice aR L0 cR,ab 0,.slice none 0 0,ac wk,.slice none 0 0,.slice none 0 0,ab 0,.slice none 0 0,.slice none 0 0,.slice none 0 0] 197));have hb3:Below W2.heap.size W2 W3:=by rw[<-hW3];exact(ah _ W2).alloc (zn _) _
 have hm3:W3.heap[W2.heap.size]?=some (.cells #[ac T.tb,.slice aR L0 cR,ab 0,.slice none 0 0,ac wk,.slice none 0 0,.slice none 0 0,ab 0,.slice none 0 0,.slice none 0 0,.slice none 0 0] 197 (0,0)):=by rw[<-hW3];exact bg W2 _
 rw[hW3];clear hW3;have Ow:B<=W2.heap.size:=by have:=H2.out.2.2.size;rw[HBe.out];exact this
 have afn:Below B W1 W3:=H2.out.2.2.trans (hb3.mono Ow);have hw3:Below w.heap.size w W3:=zL.out.trans (afn.mono (by omega));have hs3:W2.heap.size<W3.heap.size:=ak hm3;have ahH:Ev T W3 W2.heap.size wk B (.slice aR L0 cR) 0 0 [] [] [.zi 0] []:=⟨0,⟨.slice none 0 0,.slice none 0 0,.slice none 0 0,.slice none 0 0,.slice none 0 0,ws,[],
  {blk:=hm3
   rows:=λj hj=>by rcases hj with e |e |e |e |e <;> subst e <;> exact jg _ _ _ _
   kind:=wO
   ap:=λj j' hj _ _ g hg=>by rcases hj with e |e |e |e |e <;> subst e <;> cases hg
   Jr:=H2.out.2.1.keeps (A5.zQ hb3 []) (by simp) (λ_ _=>by simp)
   len:=rfl
   ex:=λi u l h=>by cases h
   ea:=λu hu=>by cases hu
   Qp:=Ow
   Qq:=H2.out.1}⟩,zn _,zn _,⟨λn hn=>by
    have:n=0:=by simpa using hn
    subst this;exact(HI.out w (ah _ _)).fc.gr.ok.pos,λt ht=>by simp at ht⟩⟩
 have ahI:=hid ahH;have HW3:=hid hw3;have akM:=hid afn;have HCh:Hid (Calls Tryz.prog 94 #[ac T.tb,.slice aR L0 cR] W3 λe w'=>∃(v:Value) (B':Nat) (E:List Ab) (b:List Nat) (c:Nat),e=.returned v/\W3.heap.size<=B'/\w'.ownsRow B' 201 5 v E.length (DW E)/\c<AJ/\Aa T.N row 0 E row.length b c/\Bb T.N [.zi 0] b/\(∀b' c',Bb T.N [.zi 0] b'->Al T.N row b' c'->c<=c')/\Below W3.heap.size W3 w'):=hid (ZW (HI.out W3 hw3) Dy.out ((Vi.out W3 hw3).mono hw3.size) Ms.out (by rw[<-HL.out];exact Jp) Mx.out (by
  obtain⟨b,c,h1,h2,h3⟩:=HEx.out;exact⟨b,c,h1,h2,by unfold AJ;omega⟩))
 clear hm3 hb3 ahH afn hw3 ahG
 go_wp2_with (go_at_call 94;refine HCh.out.mono ?_;rintro r W4 ⟨v,B',E,b,c,rfl,hB',hrow,_,hrun,abd,hmin,hb4⟩;obtain⟨va,vc,rfl⟩:=BO hrow;have H4:=hid (And.intro hB' (And.intro hrow (And.intro hrun (And.intro abd (And.intro hmin hb4)))));clear hB' hrow hrun abd hmin hb4)
 obtain⟨nE,Js⟩:=qF (E.length);rw[<-Js]at H4 ⊢;have Tl:=hid Js;clear Js;obtain⟨hB',hrow,hrun,abd,hmin,hb4⟩:=H4.out;have hN:=(HI.out w (ah _ _)).fc.gr.ok;have hrs:D4 T.zH [.zi 0] b=some []:=by
  have h:=uG Dy.out.of Dy.out.led abd []
  rwa [fy]at h
 have Rq:c<=9000:=by
  obtain⟨b',c',h1,h2,h3⟩:=HEx.out;exact zV (hmin b' c' h1 h2) h3
 obtain⟨hbl,hEl⟩:=hrun.afm hN Ms.out;have afK:b.length<=9100:=by have:=HL.out;omega
 have amH:nE<=9000:=by rw[Tl.out];omega
 have ahJ:Below B W1 W4:=akM.out.trans (hb4.mono (by have:=Ow;omega));have akN:Hid (Ev T W4 W2.heap.size wk B (.slice aR L0 cR) 0 0 [] [] [.zi 0] []):=hid (ahI.out.below hb4);have aaa:=hid ahJ;have aan:=hid hrun;have HRs:=hid hrs;have adH:=hid hrow;have HDM:Hid (Bb T.N [.zi 0] b/\∀b' c',Bb T.N [.zi 0] b'->Al T.N row b' c'->c<=c'):=hid ⟨abd,hmin⟩;have Fx:W2.heap.size<W4.heap.size:=by have:=hb4.size;omega
 clear hB' hrow hrun abd hmin hb4 hrs hbl hEl ahJ H4 ahI HCh hN
 go_loopw [21] (λz wr=>∃(k a ck cr:Nat) (made br:List Nat) (L:List Pt) (X:List (List ByteArray)),k<=nE/\z=ab k/\Hid (Ev T wr W2.heap.size wk B (.slice aR L0 cR) a ck made (E.take k) L X)/\Hid (Aa T.N row 0 (E.take k) a made ck)/\Hid (Aa T.N row a (E.drop k) row.length br cr)/\Hid (b=made++br/\c=ck+cr/\X.length=k)/\Hid (D4 T.zH [.zi 0] made=some L/\D4 T.zH L br=some [])/\Hid (P6 T row (E.take k) X)/\Hid (B3 B W4 wr)) (λz _=>nE - (intOf z).toNat)
 case atStart=>exact⟨0,0,0,c,[],b,[.zi 0],[],dh _,rfl,akN,hid (.done 0),aan,hid ⟨rfl,by omega,rfl⟩,hid ⟨rfl,HRs.out⟩,hid (λk e x h=>by simp at h),hid (B3.refl _ _)⟩
 case round=>
  obtain⟨k,a,ck,cr,made,br,L,X,hk,rfl,Gb,Mh,hrb,heq,hrs,aci,hkm⟩:=hrel;have Xx:=hkm.out.size;have Fc:B<=W4.heap.size:=by omega
  have Ga:Below B W4 wr:=hkm.out.below Fc;have hwr:Below w.heap.size w wr:=zL.out.trans ((aaa.out.trans Ga).mono (by omega))
  by_cases hlt:k<nE
  ·obtain⟨e,he⟩:∃e,E[k]?=some e:=⟨_,gE (by rw[<-Tl.out];exact hlt)⟩
   have Jq:k<E.length:=by rw[<-Tl.out];exact hlt
   have ahK:E.drop k=e::E.drop (k+1):=by
    obtain⟨h1,h2⟩:=zM.1 he;rw[gm h1,h2]
   have aa1:E.take (k+1)=E.take k++ [e]:=by rw[sr,he];rfl
   obtain⟨a',nw,br',cr',n1,n2,n3,n4,n5,n6,n7⟩:=hrb.out.next ahK;obtain⟨eb,ec,eX⟩:=heq.out;obtain⟨s1,s2⟩:=hrs.out;rw[n3,aA]at s2;obtain⟨L1,s3,s4⟩:=OH s2;obtain⟨L2,s5,s6,s7⟩:=n6.step s4;have hEl:=aan.out.afm (HI.out w (ah _ _)).fc.gr.ok Ms.out;have hcl:ck+e.cost+cr'=c:=by omega
   have hml:made.length+(e.loc - a)<=9900:=by
    have h1:=congrArg List.length eb;rw[n3]at h1;simp only[lA,nh,lu]at h1;omega
   have hold:e.old<=T.N.nT:=by
    rcases n6 with⟨_,h,_⟩ | ⟨_,h,_⟩ | ⟨_,h,_⟩
    ·omega
    ·exact qp (Ms.out _ (mG h))
    ·exact qp (Ms.out _ (mG h))
   have hnew:e.new<=T.N.nT:=by
    rcases n6 with⟨_,_,h,_⟩ | ⟨_,_,h,_⟩ | ⟨_,_,h,_⟩ <;> omega
   have HDo:Hid (∀V,Below wr.heap.size wr V->Calls Tryz.prog 95 #[ac W2.heap.size,.agg #[ab e.loc,ab e.kind,ab e.old,ab e.new,ab e.cost]] V λr w'=>r=.returned (.tuple #[])/\Ev T w' W2.heap.size wk B (.slice aR L0 cR) a' (ck+e.cost) (made++((row.drop a).take (e.loc - a)++nw)) (E.take (k+1)) L2 (X++ [LP T L1])/\B3 B V w'):=hid λV Bf=>by
    have hV:Below w.heap.size w V:=hwr.trans (Bf.mono hwr.size);have h:=xF (e:=e) Dy.out (HI.out V hV) ⟨zV Sh.out.n0 (by omega),yR Sh.out.tb Te,yR Sh.out.kb Te⟩ (by have:=Bf.size;omega) (λV' hk'=>afd.out V' (hV.trans ((hk'.below (by have:=Bf.size;omega)).mono (by omega)))) (Gb.out.below Bf) ((Vi.out V hV).mono (by omega)) Ms.out n1 (by omega) (by rw[<-HL.out];exact Jp) s3 s5 hold hnew hml (by omega) (by omega) zG (by omega);rw[aa1,<-aA];exact h
   have HN:Hid (Aa T.N row 0 (E.take (k+1)) a' (made++((row.drop a).take (e.loc - a)++nw)) (ck+e.cost)/\Aa T.N row a' (E.drop (k+1)) row.length br' cr'/\b=(made++((row.drop a).take (e.loc - a)++nw))++br'/\c=(ck+e.cost)+cr'/\(X++ [LP T L1]).length=k+1/\D4 T.zH [.zi 0] (made++((row.drop a).take (e.loc - a)++nw))=some L2/\D4 T.zH L2 br'=some []/\P6 T row (E.take (k+1)) (X++ [LP T L1])):=hid (by
    have hkeep:=Aa.keeps (N:=T.N) (row:=row) (e.loc - a) a Yo;rw[show a+(e.loc - a)=e.loc by omega]at hkeep;have Da:=Mh.out.append hkeep;rw[fy,qj]at Da;have hsm:D4 T.zH [.zi 0] (made++(row.drop a).take (e.loc - a))=some L1:=by rw[JA,s1];exact s3
    refine⟨by rw[aa1];exact Mh.out.append n7,n4,by rw[eb,n3];simp,by omega,by simp[eX],?_,s7,?_⟩
    ·rw[<-aA,JA,hsm];exact s6
    ·rw[aa1]
     exact aci.out.snoc (by rw[eX];simp;omega) Da hsm)
   obtain⟨g,cap,hvv,_⟩:=B4 adH.out (by omega);injection hvv with hv1 _ hv3
   subst hv1;subst hv3;obtain⟨cE,hcE⟩:=BQ adH.out (g:=g) rfl;have Bu:g<W4.heap.size:=D8 adH.out rfl;have hgr:wr.heap[g]?=W4.heap[g]?:=hkm.out.block g Bu (.inr ⟨_,_,hcE⟩);have hcell:=λj (hj:j<5)=>((jh hgr:wr.cell? (af g (k*5+j))=_)).trans (qq adH.out (k*5+j) (by omega))
   obtain⟨h0,h1,h2,h3,h4⟩:=UN he;have c0:wr.cell? (af g (k*5))=some (ab e.loc):=(hcell 0 (by omega)).trans h0;have c1:wr.cell? (af g (k*5+1))=some (ab e.kind):=(hcell 1 (by omega)).trans h1;have c2:wr.cell? (af g (k*5+2))=some (ab e.old):=(hcell 2 (by omega)).trans h2;have c3:wr.cell? (af g (k*5+3))=some (ab e.new):=(hcell 3 (by omega)).trans h3;have c4:wr.cell? (af g (k*5+4))=some (ab e.cost):=(hcell 4 (by omega)).trans h4;have hki:((k:Int)< (nE:Int)):=by omega
   clear hcell h0 h1 h2 h3 h4 n1 n2 n3 n4 n5 n6 n7 s1 s2 s3 s4 s5 s6 s7 eb ec eX ahK aa1 hcl hml hold hnew hEl Gb Mh hrb heq hrs aci hcE hgr
   go_upto_region 5 with fail
   obtain⟨W5,Bj⟩:=qE (wr.alloc (.cells #[ab e.loc,ab e.kind,ab e.old,ab e.new,ab e.cost] 201));have zP:Below wr.heap.size wr W5:=by rw[<-Bj];exact(ah _ wr).alloc (zn _) _
   have he5:W5.heap[wr.heap.size]?=some (.cells #[ab e.loc,ab e.kind,ab e.old,ab e.new,ab e.cost] 201 (0,0)):=by rw[<-Bj];exact bg wr _
   rw[Bj];have k0:=(A0 (j:=0) he5).trans rfl;have k1:=(A0 (j:=1) he5).trans rfl;have k2:=(A0 (j:=2) he5).trans rfl;have k3:=(A0 (j:=3) he5).trans rfl;have k4:=(A0 (j:=4) he5).trans rfl;have Av:=hid zP;clear Bj zP he5 c0 c1 c2 c3 c4
   go_wp2_with (go_at_call 95;refine(HDo.out _ Av.out).mono ?_;rintro r W6 ⟨rfl,hm6,Cp⟩;have H6:=hid (And.intro hm6 Cp);clear hm6 Cp)
   obtain⟨r1,r2,r3,r4,r5,r6,r7,r8⟩:=HN.out
   go_roundw
   case rel=>exact⟨k+1,a',ck+e.cost,cr',_,br',L2,_,by omega,by go_num,hid H6.out.1,hid r1,hid r2,hid ⟨r3,r4,r5⟩,hid ⟨r6,r7⟩,hid r8,hid (hkm.out.trans ((B3.zQ Av.out).trans H6.out.2))⟩
   case measure=>simp[intOf];omega
  ·have hke:k=nE:=by omega
   subst hke;have hdr:E.drop k=[]:=by rw[Tl.out];exact List.drop_length
   have htk:E.take k=E:=by rw[Tl.out];exact om
   rw[hdr]at hrb;rw[htk]at Gb Mh aci;have hsum:=hrb.out.sum;have Jl:cr=0:=by simpa using hsum.symm
   have hbr:=hrb.out.same (zn _) rfl;obtain⟨eb,ec,eX⟩:=heq.out;obtain⟨s1,s2⟩:=hrs.out;have hal:=hrb.out.le;rw[hbr]at s2;have ady:T.Bd B:=⟨zV Sh.out.n0 (by omega),yR Sh.out.tb Te,yR Sh.out.kb Te⟩;have HKt:Hid (Calls Tryz.prog 96 #[ac W2.heap.size,ab L0] wr λr w'=>r=.returned (.tuple #[])/\Ev T w' W2.heap.size wk B (.slice aR L0 cR) L0 c b E [] X/\B3 B wr w'):=hid (by
    have h:=V7 (a2:=row.length) Dy.out (HI.out wr hwr) ady (by omega) Gb.out ((Vi.out wr hwr).mono (by omega)) Ms.out hal (zn _) (by rw[<-HL.out];exact Jp) s2 (by
     have h1:=congrArg List.length eb;rw[hbr]at h1;simp only[lA,nh,lu]at h1;omega)
    rw[<-hbr,<-eb,show ck=c by omega,<-HL.out]at h;exact h)
   have HX:Hid (X.length=E.length/\P6 T row E X):=hid ⟨by rw[eX];exact Tl.out,aci.out⟩;clear hdr htk hsum hbr eb ec eX s1 s2 hal Gb Mh hrb heq hrs aci
   go_upto_region 8 with(go_at_call 96;refine HKt.out.mono ?_;rintro r W7 ⟨rfl,hm7,Di⟩;have H7:=hid (And.intro hm7 Di);clear hm7 Di)
   obtain⟨⟨x,⟨vm,ve,vc',vr,vx,ws',xs,hv7⟩,_⟩,Di⟩:=H7.out;have hs7:=Di.size;have hB7:Below B W1 W7:=aaa.out.trans (Ga.trans (Di.below (by omega)));have hw7:Below w.heap.size w W7:=zL.out.trans (hB7.mono (by omega));have hvm:DQ W7 B vm b:=hv7.rows 3 (.inl rfl);have HRd:Hid (Calls Tryz.prog 73 #[ac T.tb,vm] W7 λe w'=>Below W7.heap.size W7 w'/\
    ((∃S v,Az T.zH [.zi 0] b S/\e=.returned (.tuple #[v,ab (-1),ab 0])/\w'.ownsRow W7.heap.size 129 3 v S.length (BT (S.map (PU T))))\/
     (∃i:Nat,S6 T b i/\e=.returned (.tuple #[.slice none 0 0,ab i,ab 0])))):=hid (oM Dy.out (HI.out W7 hw7) ⟨hvm.row (λg hg=>D8 hvm hg),λh=>absurd h (uJ (pZ Dy.out.of Dy.out.led) HDM.out.1)⟩ (mU (HI.out w (ah _ _)).fc.gr.ok HDM.out.1 (λt ht=>by simp at ht)) (by omega))
   have m3:W7.cell? (af W2.heap.size 3)=some vm:=(A0 hv7.blk).trans rfl;have HV7:=hid hv7;have Ml:=hid hB7;clear hv7 hB7 hvm Di H7 HKt hw7
   go_upto_region 9 with(go_at_call 73;refine HRd.out.mono ?_;rintro r W8 ⟨Cm,hres⟩;rcases hres with⟨S,vt,hS,rfl,Vg⟩ | ⟨i,hi,rfl⟩;rotate_left;exact(qV hi HRs.out).elim;obtain⟨ta,tc,rfl⟩:=BO Vg;have H8:=hid (And.intro Cm (And.intro hS Vg));clear Cm hS Vg)
   obtain⟨Cm,hS,Vg⟩:=H8.out;have Lq:=HV7.out.below Cm;obtain⟨nS,Yd⟩:=qF (S.length);rw[<-Yd]at H8 ⊢;have HNS:=hid Yd;have hve:=Lq.rows 5 (.inr (.inl rfl));have hvc:=Lq.rows 6 (.inr (.inr (.inl rfl)));have hvr:=Lq.rows 8 (.inr (.inr (.inr (.inl rfl))));have hvx:=Lq.rows 10 (.inr (.inr (.inr (.inr rfl))));obtain⟨ea,aas,Tj⟩:=BO hve;obtain⟨ca,aat,Ra⟩:=BO hvc;obtain⟨ra,aau,he3⟩:=BO hvr;obtain⟨xa,aav,Us⟩:=BO hvx;have Tj:ve=.slice ea E.length aas:=Tj;have Ra:vc'=.slice ca E.length aat:=Ra;have he3:vr=.slice ra b.length aau:=he3;have Us:vx=.slice xa xs.length aav:=Us;obtain⟨lE,hlE⟩:=qF (E.length);obtain⟨lb,hlb⟩:=qF (b.length);obtain⟨lx,hlx⟩:=qF (xs.length);rw[<-hlE]at Tj Ra;rw[<-hlb]at he3;rw[<-hlx]at Us;have hs8:W7.heap.size<=W8.heap.size:=Cm.size;have ahL:W8.heap[w.heap.size]?=some (.cells #[.slice none 0 0,.slice none 0 0,ab 0,.slice none 0 0,.slice none 0 0,.slice none 0 0] 48 (0,0)):=((Ml.out.trans (Cm.mono (by omega))).block _ Te).trans Dq.out
   have m5:W8.cell? (af W2.heap.size 5)=some (.slice ea lE aas):=by rw[<-Tj];exact(A0 Lq.blk).trans rfl
   have m6:W8.cell? (af W2.heap.size 6)=some (.slice ca lE aat):=by rw[<-Ra];exact(A0 Lq.blk).trans rfl
   have m7:W8.cell? (af W2.heap.size 7)=some (ab c):=(A0 Lq.blk).trans rfl;have m8:W8.cell? (af W2.heap.size 8)=some (.slice ra lb aau):=by rw[<-he3];exact(A0 Lq.blk).trans rfl
   have m9:W8.cell? (af W2.heap.size 9)=some (.slice none 0 0):=(A0 Lq.blk).trans rfl;have m10:W8.cell? (af W2.heap.size 10)=some (.slice xa lx aav):=by rw[<-Us];exact(A0 Lq.blk).trans rfl
   have z9:W8.frozen? (af W2.heap.size 9)=false:=A7 Lq.blk;have HLs:Hid (lE=E.length/\lb=b.length/\lx=xs.length):=hid ⟨hlE,hlb,hlx⟩;have HEq:Hid (ve=.slice ea lE aas/\vc'=.slice ca lE aat/\vr=.slice ra lb aau/\vx=.slice xa lx aav):=hid ⟨Tj,Ra,he3,Us⟩;have Ki:=hid Lq;have ahM:=hid ahL;have akG:W2.heap.size<W8.heap.size:=Lq.Vl;clear Cm hS Vg Lq Yd hve hvc hvr hvx Tj Ra he3 Us hlE hlb hlx ahL m3 HRd
   go_upto_region 12 with fail
   obtain⟨W9,Jm⟩:=qE (W8.setCell (af W2.heap.size 9) (.slice ta nS tc));have Ek:A5 W8 W9 [W2.heap.size]:=by rw[<-Jm];exact(A5.refl W8 _).setCell (by simp) _
   have Ye:W9.heap[W2.heap.size]?=some (.cells #[ac T.tb,.slice aR L0 cR,ab L0,vm,ac wk,ve,vc',ab c,vr,.slice ta nS tc,vx] 197 (0,0)):=by rw[<-Jm];exact AA (j:=9) Ki.out.blk _
   rw[Jm];have Lr:=(Ek.block w.heap.size (by omega) zG).trans ahM.out;have n5:W9.cell? (af W2.heap.size 5)=some (.slice ea lE aas):=by rw[<-HEq.out.1];exact(A0 Ye).trans rfl
   have n6:W9.cell? (af W2.heap.size 6)=some (.slice ca lE aat):=by rw[<-HEq.out.2.1];exact(A0 Ye).trans rfl
   have n7:W9.cell? (af W2.heap.size 7)=some (ab c):=(A0 Ye).trans rfl;have n8:W9.cell? (af W2.heap.size 8)=some (.slice ra lb aau):=by rw[<-HEq.out.2.2.1];exact(A0 Ye).trans rfl
   have n9:W9.cell? (af W2.heap.size 9)=some (.slice ta nS tc):=(A0 Ye).trans rfl;have n10:W9.cell? (af W2.heap.size 10)=some (.slice xa lx aav):=by rw[<-HEq.out.2.2.2];exact(A0 Ye).trans rfl
   have b0:=(A0 (j:=0) Lr).trans rfl;have b1:=(A0 (j:=1) Lr).trans rfl;have b2:=(A0 (j:=2) Lr).trans rfl;have b3:=(A0 (j:=3) Lr).trans rfl;have b4:=(A0 (j:=4) Lr).trans rfl;have b5:=(A0 (j:=5) Lr).trans rfl;have g0:=A7 (j:=0) Lr;have g1:=A7 (j:=1) Lr;have g2:=A7 (j:=2) Lr;have g3:=A7 (j:=3) Lr;have g4:=A7 (j:=4) Lr;have g5:=A7 (j:=5) Lr;have HK9:=hid Ek;have HM9:=hid Ye;have akO:=hid Lr;clear Jm Ek Ye Lr m5 m6 m7 m8 m9 m10 z9;go_wp2;have hrow:=AA (j:=5) (AA (j:=4) (AA (j:=3) (AA (j:=2) (AA (j:=1) (AA (j:=0) akO.out (.slice ea lE aas)) (.slice ca lE aat)) (ab c)) (.slice ra lb aau)) (.slice ta nS tc)) (.slice xa lx aav);have hkF:A5 W9 ((((((W9.setCell (af w.heap.size 0) (.slice ea lE aas)).setCell (af w.heap.size 1) (.slice ca lE aat)).setCell (af w.heap.size 2) (ab c)).setCell (af w.heap.size 3) (.slice ra lb aau)).setCell (af w.heap.size 4) (.slice ta nS tc)).setCell (af w.heap.size 5) (.slice xa lx aav)) [w.heap.size]:=((((((A5.refl W9 _).setCell (by simp) _).setCell (by simp) _).setCell (by simp) _).setCell (by simp) _).setCell (by simp) _).setCell (by simp) _
   refine⟨rfl,_,KF (p:=4) (t:=5) (ty:=48) rfl _ _ w.heap.size _ _ _ _ rfl hrow Tryz.underlying48 rfl yM,?_⟩;obtain⟨WF,hWF⟩:=qE (((((((W9.setCell (af w.heap.size 0) (.slice ea lE aas)).setCell (af w.heap.size 1) (.slice ca lE aat)).setCell (af w.heap.size 2) (ab c)).setCell (af w.heap.size 3) (.slice ra lb aau)).setCell (af w.heap.size 4) (.slice ta nS tc)).setCell (af w.heap.size 5) (.slice xa lx aav)));rw[hWF]at hkF ⊢;have hkA:A5 W8 WF [W2.heap.size,w.heap.size]:=(HK9.out.mono (λq hq=>by simp at hq ⊢;exact .inl hq)).trans (hkF.mono (λq hq=>by simp at hq ⊢;exact .inr hq));have hoff:∀{e sz n:Nat}{v:Value}{l:List Value}{B0:Nat},W8.ownsRow B0 e sz v n l->e≠197->e≠48->w.heap.size<=B0->WF.ownsRow w.heap.size e sz v n l:=λh h1 h2 h3=>SC (bQ h hkA (λq hq=>by
    simp only[bk,ko,su]at hq
    rcases hq with e |e <;> subst e
    ·exact⟨_,_,_,Ki.out.blk,h1⟩
    ·exact⟨_,_,_,ahM.out,h2⟩)) h3
   obtain⟨Cm,hS,Vg⟩:=H8.out;refine⟨E,b,c,S,ve,vc',vr,.slice ta nS tc,vx,xs,X,?_,⟨aan.out,hS,HDM.out.2,?_,?_,?_,?_,?_,⟨by rw[<-Ki.out.len];exact HX.out.1,HX.out.1⟩,λi u l h1 h2=>?_,HX.out.2⟩,?_⟩
   ·rw[HEq.out.1,HEq.out.2.1,HEq.out.2.2.1,HEq.out.2.2.2];rfl
   ·exact hoff (Ki.out.rows 5 (.inr (.inl rfl))) (by decide) (by decide) (by omega)
   ·have h0:W8.ownsRow B 3 1 vc' E.length (DJ (E.map (·.cost))):=Ki.out.rows 6 (.inr (.inr (.inl rfl)))
    have h:=hoff h0 (by decide) (by decide) (by omega);unfold DQ;rw[lM];exact h
   ·exact hoff (Ki.out.rows 8 (.inr (.inr (.inr (.inl rfl))))) (by decide) (by decide) (by omega)
   ·rw[<-HNS.out];exact hoff Vg (by decide) (by decide) (by have:=Ml.out.size;omega)
   ·exact hoff (Ki.out.rows 10 (.inr (.inr (.inr (.inr rfl))))) (by decide) (by decide) (by omega)
   ·exact hoff (Ki.out.ex i u l h1 h2) (by decide) (by decide) (by omega)
   ·have hw8:Below w.heap.size w W8:=zL.out.trans ((Ml.out.mono (by omega)).trans (Cm.mono (by have:=Ml.out.size;omega)))
    exact hw8.trans (hkA.below hw8.size (λq hq=>by
     simp only[bk,ko,su]at hq
     rcases hq with e |e <;> omega))
def WD (zy:List ByteArray) (nT:Nat):Prop:=∀i j,i<nT->j<nT->nth zy i=nth zy j->i=j
theorem nA (a b:ByteArray):(a.toList==b.toList)=decide (a=b):=by
 by_cases h:a=b
 ·subst h;simp
 ·rw[gy h,mh]
  intro e;rw[jl,jl]at e;exact h (ByteArray.ext (yI.mp e))
theorem aK {V:World}{a b:ByteArray}{p d:Int}{sv:Value}{wb:Nat} (hw:V.cell? (af wb 0)=some (.string b)) (hsv:∃ad n c,sv=.slice ad n c):
  Calls Tryz.prog 143 #[.agg #[.string a,ab p,ab d,sv],ac wb] V λe w'=>e=.returned (.bool (decide (a=b)))/\Below V.heap.size V w':=by
 obtain⟨ad,n,c,rfl⟩:=hsv;have hw':(V.alloc (.cells #[.string a,ab p,ab d,.slice ad n c] 268)).cell? (af wb 0)=some (.string b):=A6 _ hw;have b0:=BK V #[.string a,ab p,ab d,.slice ad n c] 268 0
 go_enter Tryz.func143,Tryz.ntmps143
 go_wp2;go_ret;exact⟨by rw[<-nA];rfl,(ah _ V).alloc (zn _) _⟩
theorem jI {n₀:Nat}{zy:List ByteArray}{pg:List Nm}{yZ:Option Addr}{yT gN yQ wb:Nat} (hP:Cz w n₀ N zy pg yZ yT gN yQ) (h0:n₀<=w.heap.size) (ht:t<N.nT) (hw:w.cell? (af wb 0)=some (.string (nth zy t))) (Np:WD zy N.nT):
  Calls Tryz.prog 142 #[.slice yZ N.nT yT,.func (.func 143) #[] #[ac wb]] w λe w'=>e=.returned (ab t)/\Below w.heap.size w w':=by
 have e1:∀args V,(callFunc 143 args).run Tryz.prog V=.ok (.enter 143 args) V:=rq Tryz.func143 yM rfl;have Dx:=hP.Ch;have hlT:=hP.lT;obtain⟨gT,Je,Bu,_,_⟩:=hP.toks t ht;subst Je;have Cs:wb<w.heap.size:=bu w _ hw;have HT:Hid (∀V,Below w.heap.size w V->∀u,u<N.nT->∃gs cs,V.cell? (af gT (u*4))=some (.string (nth zy u))/\V.cell? (af gT (u*4+1))=some (ab (N.put u))/\V.cell? (af gT (u*4+2))=some (ab (N.drop u))/\V.cell? (af gT (u*4+3))=some (ae gs N.nT cs)):=hid λV hb u hu=>by
  obtain⟨g1,e2,_,k1,k2⟩:=hP.toks u hu;obtain⟨g2,gs,cs,e3,_,k3,k4,_⟩:=hP.Zb u hu;injection e2 with e2
  injection e2 with e2
  injection e3 with e3
  injection e3 with e3
  subst e2;subst e3;have Iw:gT<w.heap.size:=by omega
  exact⟨gs,cs,(hb.cell Tr).trans k1,(hb.cell Tr).trans k2,(hb.cell Tr).trans k3,(hb.cell Tr).trans k4⟩
 obtain⟨nT,Ac⟩:=qF (N.nT);rw[<-Ac]at ht HT Np Dx hlT ⊢;have HTw:=hid Np;clear hP Np Ac
 go_enter Tryz.func142,Tryz.ntmps142
 go_wp2
 go_loopw [8] (λz wr=>∃j:Nat,j<=t/\z=ab j/\Hid (Below w.heap.size w wr)) (λz _=>t - (intOf z).toNat)
 case atStart=>exact⟨0,dh _,rfl,hid (ah _ _)⟩
 case round=>
  obtain⟨j,hj,rfl,hb⟩:=hrel;have hjT:j<nT:=by omega
  obtain⟨gs,cs,k0,k1,k2,k3⟩:=HT.out wr hb.out j hjT;have cw:=(hb.out.cell (p:=(af wb 0)) Iv).trans hw;have CC:=aK (V:=wr) (a:=nth zy j) (b:=nth zy t) (p:=(N.put j:Int)) (d:=(N.drop j:Int)) (sv:=ae gs nT cs) cw ⟨_,_,_,rfl⟩;obtain⟨wj,hwj⟩:=qE (nth zy j);have HWj:=hid hwj;rw[hwj]at k0 CC;obtain⟨wt,hwt⟩:=qE (nth zy t);have HWt:=hid hwt;rw[hwt]at cw CC;clear hwj hwt
  by_cases he:wj=wt
  ·have hjt:j=t:=HTw.out j t hjT ht (by rw[HWj.out,HWt.out,he])
   rw[iz he]at CC;subst hjt;have HC:=hid CC;clear CC cw he
   go_wp2_with (refine HC.out.mono ?_;rintro e w2 ⟨rfl,hb2⟩;have zO:=hid (hb.out.trans (hb2.mono hb.out.size));clear hb2)
   go_ret;exact⟨rfl,zO.out⟩
  ·have hjt:j<t:=by
    rcases jz j t with h |h
    ·exact h
    ·exfalso
     have e:j=t:=by omega
     subst e;exact he (HWj.out.symm.trans HWt.out)
   rw[gy he]at CC;have HC:=hid CC;clear CC cw he
   go_wp2_with (refine HC.out.mono ?_;rintro e w2 ⟨rfl,hb2⟩;have zO:=hid (hb.out.trans (hb2.mono hb.out.size));clear hb2)
   go_roundw
   case rel=>exact⟨j+1,by omega,by go_num,zO⟩
   case measure=>simp[intOf];omega
def Ky (w:World) (B:Nat) (v:Value) (ws:List ByteArray):Prop:=∃ad cap,v=.slice ad ws.length cap/\ws.length<=cap/\(0<ws.length->∃g off,ad=some (af g off)/\g<B/\∀(i:Nat) (x:ByteArray),ws[i]?=some x->w.cell? (af g (off+i))=some (.string x))
theorem Ky.below {w':World}{ws:List ByteArray} (h:Ky w B v ws) (hb:Below B w w'):Ky w' B v ws:=by
 obtain⟨ad,cap,h1,h2,h3⟩:=h;refine⟨ad,cap,h1,h2,λh0=>?_⟩;obtain⟨g,off,h4,h5,h6⟩:=h3 h0;exact⟨g,off,h4,h5,λi x hx=>(hb.cell Lb).trans (h6 i x hx)⟩
theorem Ky.mono {B':Nat}{ws:List ByteArray} (h:Ky w B v ws) (hB:B<=B'):Ky w B' v ws:=by
 obtain⟨ad,cap,h1,h2,h3⟩:=h;refine⟨ad,cap,h1,h2,λh0=>?_⟩;obtain⟨g,off,h4,h5,h6⟩:=h3 h0;exact⟨g,off,h4,by omega,h6⟩
theorem fJ {n₀:Nat}{zy:List ByteArray}{pg:List Nm}{yZ:Option Addr}{yT gN yQ:Nat}{l:List Nat}{rv:Value} (hP:Cz w n₀ N zy pg yZ yT gN yQ) (h0:n₀<=w.heap.size) (Np:WD zy N.nT) (hl:∀t∈l,t<N.nT) (hrow:Ky w w.heap.size rv (l.map (nth zy))) (hn:l.length<=1000):
  Calls Tryz.prog 92 #[.agg #[.slice yZ N.nT yT,ae gN N.nN yQ],rv] w λe w'=>∃v,e=.returned (.tuple #[v,.bool true])/\(DQ w' w.heap.size v l/\(l=[]->v=.slice none 0 0))/\Below w.heap.size w w':=by
 obtain⟨iI,Ii,Ij,Ik,Il⟩:=iy Tryz.infoX3;have HI:Hid (∀V t wb,Below w.heap.size w V->t<N.nT->V.cell? (af wb 0)=some (.string (nth zy t))->Calls Tryz.prog 142 #[.slice yZ N.nT yT,.func (.func 143) #[] #[ac wb]] V λe w'=>e=.returned (ab (t:Nat))/\Below V.heap.size V w'):=hid λV t wb hb ht hc=>jI (hP.below (hb.mono h0)) (by have:=hb.size;omega) ht hc Np
 obtain⟨ad,cap,rfl,hcap,hc⟩:=hrow;obtain⟨n,hnn⟩:=qF (l.length);rw[lM,<-hnn]at hcap hc ⊢;rw[<-hnn]at hn;obtain⟨nT,Ac⟩:=qF (N.nT);obtain⟨nN,zT⟩:=qF (N.nN);rw[<-Ac]at HI hl ⊢;rw[<-zT];have HN:=hid hnn;have HC:=hid hc;have HLt:=hid hl;clear hP h0 Np hl hc hnn Ac zT
 go_enter Tryz.func92,Tryz.ntmps92
 go_wp2;obtain⟨W1,hW1⟩:=qE (w.alloc (.cells #[.slice yZ nT yT,ae gN nN yQ] 135));have hb1:Below w.heap.size w W1:=by rw[<-hW1];exact(ah _ w).alloc (zn _) _
 have Bw:W1.heap[w.heap.size]?=some (.cells #[.slice yZ nT yT,ae gN nN yQ] 135 (0,0)):=by rw[<-hW1];exact bg w _
 rw[hW1];have zL:=hid hb1;have Xr:=hid Bw;have hs1:w.heap.size<W1.heap.size:=ak Bw;clear hW1 hb1 Bw
 go_loopw [4,11] (λv z wr=>∃(i:Nat),i<=n/\z=ab i/\Hid (DQ wr w.heap.size v (l.take i)/\(i=0->v=.slice none 0 0))/\Hid (Below w.heap.size w wr)/\Hid (wr.heap[w.heap.size]?=some (.cells #[.slice yZ nT yT,ae gN nN yQ] 135 (0,0)))) (λ_ z _=>n - (intOf z).toNat)
 case atStart=>exact⟨0,dh _,rfl,hid ⟨jg _ _ _ _,λ_=>rfl⟩,zL,Xr⟩
 case round=>
  obtain⟨i,hi,rfl,hiv,hb,hg⟩:=hrel;have Xx:w.heap.size<wr.heap.size:=ak hg.out
  by_cases hlt:i<n
  ·obtain⟨t,ht⟩:∃t,l[i]?=some t:=⟨_,gE abg⟩
   have htT:=HLt.out t (mG ht);obtain⟨g,off,rfl,Bu,Er⟩:=HC.out (by omega);have cx:=(hb.out.cell (p:=(af g (off+i))) (by exact Bu)).trans (Er i (nth zy t) (by rw[gM,ht];rfl));have hii:((i:Int)< (n:Int)):=by omega
   have Dy:Hid (l.take (i+1)=l.take i++ [t]):=hid (by rw[sr,ht];rfl);obtain⟨wd,hwd⟩:=qE (nth zy t);have Le:=hid hwd;rw[hwd]at cx;clear Er ht hwd
   go_upto_region 4 with fail
   obtain⟨W2,hW2⟩:=qE (wr.alloc (.cells #[.string wd] 9));have hb2:Below wr.heap.size wr W2:=by rw[<-hW2];exact(ah _ wr).alloc (zn _) _
   have hw2:W2.heap[wr.heap.size]?=some (.cells #[.string wd] 9 (0,0)):=by rw[<-hW2];exact bg wr _
   rw[hW2];have hs2:wr.heap.size<W2.heap.size:=ak hw2;have hg2:=(hb2.block w.heap.size Xx).trans hg.out;have t0:W2.cell? (af w.heap.size 0)=some (.slice yZ nT yT):=(A0 hg2).trans rfl;have Ko:Below w.heap.size w W2:=hb.out.trans (hb2.mono (by omega));have HIx:Hid (∀V,Below W2.heap.size W2 V->Calls Tryz.prog 142 #[.slice yZ nT yT,.func (.func 143) #[] #[ac wr.heap.size]] V λe w'=>e=.returned (ab (t:Nat))/\Below V.heap.size V w'):=hid λV Bf=>HI.out V t wr.heap.size (Ko.trans (Bf.mono Ko.size)) htT ((Bf.cell (p:=(af wr.heap.size 0)) Vr).trans (by rw[Le.out];exact(A0 hw2).trans rfl))
   have zO:=hid hb2;have Ys:=hid hg2;clear hW2 hb2 hw2 hg2 Ko cx;have hlen:(l.take i).length=i:=by rw[nh,<-HN.out];omega
   have HIv:Hid (∀V,Below wr.heap.size wr V->V.ownsRow w.heap.size 3 1 u4 i (DJ (l.take i))):=hid λV Bf=>by
    have h:=AC hiv.out.1 (A5.zQ Bf []) (λ_ _=>by simp);rw[hlen]at h;exact h
   have hti:¬((t:Int)<0):=by omega
   go_upto_region 7 with(go_at_call 142;refine(HIx.out _ (ah _ W2)).mono ?_;rintro e w3 ⟨rfl,hb3⟩;have Ap:Hid (Below wr.heap.size wr w3):=hid (zO.out.trans (hb3.mono zO.out.size));clear hb3)
   have hs3:=Ap.out.size
   go_wp2_with (at_builtin;refine jt _ rfl _ _ 45 rfl w.heap.size 3 iI (ab 0) 1 8 Tryz.underlying45 Ii Ij Ik Il rfl (by decide) _ _ _ rfl ((HIv.out w3 Ap.out).alloc _) (af w3.heap.size 0) 1 1 [ab t] rfl rfl (dn (dz w3 _)) ?c2 (zn 1) ?c3 ?c4 ?c5 _ rfl ?_)
   case c2=>intro u hu;simp at hu;subst hu;rfl
   case c3=>unfold maxLen;omega
   case c4=>omega
   case c5=>simp;omega
   intro g3 Cf w4 Ad Ae Hy Fi;have hk4:A5 w3 w4 u4.ownBlock.toList:=((A5.refl w3 _).alloc _).grown Ae (λq hq=>.inl Hh);have Cx:∀q∈u4.ownBlock.toList,w.heap.size<=q/\∃c,wr.heap[q]?=some (.cells c 3 (0,0)):=λq hq=>by
    have e:u4.ownBlock=some q:=by simpa using hq
    exact⟨(World.ownsRow.lt hiv.out.1 q e).1,BQ hiv.out.1 e⟩
   have Bk:Hid (Below w.heap.size w w4):=hid ((hb.out.trans (Ap.out.mono (by omega))).trans (hk4.below (by omega) (λq hq=>(Cx q hq).1)));have HG4:Hid (w4.heap[w.heap.size]?=some (.cells #[.slice yZ nT yT,ae gN nN yQ] 135 (0,0))):=hid ((hk4.block _ (by omega) (λhm=>by
    obtain⟨_,c,h1⟩:=Cx _ hm;rw[hg.out]at h1;injection h1 with h1
    injection h1 with _ h1
    exact absurd h1 (by decide))).trans ((Ap.out.block _ Xx).trans hg.out))
   have HI4:Hid (DQ w4 w.heap.size (ae g3 (i+1) Cf) (l.take (i+1))/\(i+1=0->ae g3 (i+1) Cf=.slice none 0 0)):=hid (by
    refine⟨?_,λh=>by omega⟩;unfold DQ;rw[Dy.out,lA,GW,hlen];exact Ad)
   clear hlen Ad Ae Hy Fi hk4 Cx t0 hiv;go_wp2
   go_roundw
   case rel=>exact⟨i+1,by omega,by go_num,HI4,Bk,HG4⟩
   case measure=>simp[intOf];omega
  ·have hie:i=n:=by omega
   have HIv:Hid (DQ wr w.heap.size u4 l/\(l=[]->u4=.slice none 0 0)):=hid (by
    have h:=hiv.out;rw[show l.take i=l from by rw[hie,HN.out];exact om]at h;exact⟨h.1,λe=>h.2 (by rw[hie,HN.out,e];rfl)⟩)
   clear hie;go_wp2
   go_ret2
   exact⟨u4,rfl,HIv.out,hb.out⟩
def FJ (m:Mk) (n k:Nat):Option (List Pt):=(m.rules[n]?).bind λrs=>rs[k]?
theorem KW {k:Nat}{r:List Pt} (h:FJ m n k=some r):∃rs,m.rules[n]?=some rs/\rs[k]?=some r:=by
 unfold FJ at h;cases h1:m.rules[n]? with
 |none=>rw[h1]at h;cases h
 |some rs=>rw[h1]at h;exact⟨rs,rfl,h⟩
theorem P2 {rs:List (List Pt)} (h:m.rules[n]?=some rs) (k:Nat):FJ m n k=rs[k]?:=by unfold FJ;rw[h];rfl
theorem MX (m:Mk):QG (zR m) (FJ m):=λn rhs=>by
 rw[IW];constructor
 ·rintro⟨rs,h1,h2⟩
  obtain⟨k,hk,e⟩:=jv.1 h2;exact⟨k,by rw[P2 h1,gE hk,e]⟩
 ·rintro⟨k,hk⟩
  obtain⟨rs,h1,h2⟩:=KW hk;exact⟨rs,h1,mG h2⟩
theorem N6  (h:m.Good):Wr (FJ m):=λn k rhs hk=>by
 obtain⟨rs,h1,h2⟩:=KW hk;have h3:=(h.head rs (E6 h1).2 k rhs h2).1;cases rhs with
 |nil=>cases h3
 |cons a t=>injection h3 with h3;subst h3;exact⟨t,rfl⟩
theorem iG  (h:m.Good) {rhs:List Pt} (hk:FJ m n t=some rhs):n<m.rules.length/\t<m.zJ.length/\rhs.length<=8/\BE (zR m) rhs:=by
 obtain⟨rs,h1,h2⟩:=KW hk;have hm:=(E6 h1).2;have ht:=(zM.1 h2).1;have hc:=(h.c1 rs hm).2;have hl:=(h.head rs hm t rhs h2).2;have hr:(n,rhs)∈(zR m).rules:=(MX m n rhs).2 ⟨t,hk⟩;exact⟨(E6 h1).1,by omega,by omega,(J5 h).ps hr⟩
def Ls (m:Mk):List Nm:=m.rules.zipIdx.map λx=>(BM x.2,x.1)
def N5 (m:Mk):List ByteArray:=(List.range m.zJ.length).map AB
theorem RP (m:Mk) {rs:List (List Pt)} (h:m.rules[n]?=some rs):(Ls m)[n]?=some (BM n,rs):=by
 unfold Ls;rw[gM,oz,h];simp
theorem iF (m:Mk) {nm:Nm} (h:(Ls m)[n]?=some nm):m.rules[n]?=some nm.2:=by
 unfold Ls at h;rw[gM,oz]at h;cases h1:m.rules[n]? with
 |none=>rw[h1]at h;cases h
 |some rs=>rw[h1]at h;injection h with h;subst h;rfl
theorem OZ (m:Mk)  (ht:t<m.zJ.length):nth (N5 m) t=AB t:=by
 unfold nth N5;rw[Af,gM,ny ht];rfl
theorem vQ  (h:m.Good):WD (N5 m) m.zJ.length:=λi j hi hj e=>by
 rw[OZ m hi,OZ m hj]at e;have h1:=OP i (by have:=h.t6;omega) j (by have:=h.t6;omega);rw[e]at h1;simpa using h1
theorem ZC  (h:m.Good) (l:List Nat) (hl:∀t∈l,t<m.zJ.length) (Ox:l.length<=40):∃b c,Bb (zR m) [.zi 0] b/\Al (zR m) l b c/\c<=9000:=by
 obtain⟨r,hr,ht,h5⟩:=h.acO (n:=0) h.n1;have hps:=(J5 h).ps hr;have key:∀r:List Pt,(∀p∈r,∃t,p=.tok t)->BE (zR m) r->∃b:List Nat,Bb (zR m) r b/\S4 (zR m) b<=99*r.length:=by
  intro r
  induction r with
  |nil=>intro _ _;exact⟨[],.nil,dh _⟩
  |cons p r ih=>
   intro h1 h2;obtain⟨t,rfl⟩:=h1 p (by simp);obtain⟨b,h3,h4⟩:=ih (λp hp=>h1 p (by simp[hp])) h2.tail;refine⟨t::b,.tok h3,?_⟩;have h5:=(J5 h).Za t (h2.2 t (by simp));show(zR m).put t+S4 (zR m) b<=99*(r.length+1);omega
 obtain⟨b,hb,hc⟩:=key r ht hps;refine⟨b,_,by have:=Bb.zi hr hb (.nil);rwa [fy]at this,uO (zR m) l b,?_⟩;have:=PR (J5 h) (row:=l) hl;have h6:99*l.length<=99*40:=za _ Ox;have h7:99*r.length<=99*5:=za _ h5;omega
end Go.Proofs.YtjjggdcnpndgjaaGreatDoor
