import Derived.Test.YtjjggdcnpndgjaaGreatDoorHJ41
set_option linter.unusedSimpArgs false
set_option maxHeartbeats 8000000
set_option maxRecDepth 100000
namespace Go.Proofs.YtjjggdcnpndgjaaGreatDoor
open Go.RowKit Go.Shelf
variable {B n t:Nat}{N:NG}{m:Mk}{v:Value}{w:World}
theorem bY {T:zn}{l:List Nat}{i:Nat} (h:M0 T l i) (hr:CQ T.yN [.yB 0] l=some []):False:=by
 obtain⟨L,h1,h2 | ⟨h2,h3⟩⟩:=h
 ·have h4:CQ T.yN [.yB 0] (l.take (i+1)++l.drop (i+1))=some []:=by rw[qx];exact hr
  obtain⟨L',h5,_⟩:=NZ h4;rw[h2.2]at h5;cases h5
 ·rw[h2,mj,hr]at h1
  injection h1 with h1
  exact h3 h1.symm
theorem UZ:∀{l:List ze}{k:Nat}{e:ze},l[k]?=some e->(DM l)[k*5]?=some (ab e.loc)/\(DM l)[k*5+1]?=some (ab e.kind)/\(DM l)[k*5+2]?=some (ab e.old)/\(DM l)[k*5+3]?=some (ab e.new)/\(DM l)[k*5+4]?=some (ab e.cost)
 | [],k,e,h=>by cases h
 |a::l,0,e,h=>by
  obtain rfl:a=e:=by simpa using h
  exact⟨rfl,rfl,rfl,rfl,rfl⟩
 |a::l,k+1,e,h=>by
  have h:l[k]?=some e:=by simpa using h
  obtain⟨h0,h1,h2,h3,h4⟩:=UZ h;have e1:DM (a::l)=EC a++DM l:=rfl;have e5:(EC a).length=5:=rfl;rw[e1];refine⟨?_,?_,?_,?_,?_⟩
  ·rw[zQ (by omega),e5,show(k+1)*5 - 5=k*5 by omega];exact h0
  ·rw[zQ (by omega),e5,show(k+1)*5+1 - 5=k*5+1 by omega];exact h1
  ·rw[zQ (by omega),e5,show(k+1)*5+2 - 5=k*5+2 by omega];exact h2
  ·rw[zQ (by omega),e5,show(k+1)*5+3 - 5=k*5+3 by omega];exact h3
  ·rw[zQ (by omega),e5,show(k+1)*5+4 - 5=k*5+4 by omega];exact h4
theorem kY  (hN:N.Ok) {l:List Pt}{b:List Nat} (h:zP N l b):(∀t,Pt.tok t∈l->t<N.nT)->∀x∈b,x<N.nT:=by
 induction h with
 |nil=>intro _ x hx;cases hx
 |tok h ih=>
  intro hl x hx
  rcases bh.1 hx with e |e
  ·subst e;exact hl _ (eo ..)
  ·exact ih (λt ht=>hl t (fj _ ht)) x e
 |yB hm h1 h2 ih1 ih2=>
  intro hl x hx
  rcases gj.1 hx with e |e
  ·exact ih1 (λt ht=>hN.pt _ hm t ht) x e
  ·exact ih2 (λt ht=>hl t (fj _ ht)) x e
theorem t8  (hG:Xb N) {b:List Nat} (h:zP N [.yB n] b):b≠ []:=by
 obtain⟨rhs,h1,h2⟩:=WQ h;obtain⟨t,ps,h3⟩:=hG _ h1;simp only at h3;subst h3;cases h2 with
 |tok _=>simp
theorem ZG {w':World}{S:List Nat}{e sz:Nat}{xs:List Value} (h:w.ownsRow B e sz v n xs) (hk:A1 w w' S) (hS:∀q∈S,∃c t f,w.heap[q]?=some (.cells c t f)/\e≠t):w'.ownsRow B e sz v n xs:=
 A7 h hk (λg hg hm=>by
  obtain⟨c,t,f,h1,h2⟩:=hS g hm;exact A5 h h1 h2 hg)
structure PF (T:zn) (w:World) (B:Nat) (row:List Nat) (E:List ze) (b:List Nat) (c:Nat) (S:List IK) (ve vc vr vt vx:Value) (xs:List Value) (X:List (List ByteArray)):Prop where
 run:za T.N row 0 E row.length b c
 tree:zJ T.yN [.yB 0] b S
 least:∀b' c',zP T.N [.yB 0] b'->Al T.N row b' c'->c<=c'
 ed:w.ownsRow B 121 4 ve E.length (E.flatMap (Lb T))
 co:D7 w B vc (E.map (·.cost))
 wd:w.ownsRow B 9 1 vr b.length (Qu T b)
 nd:w.ownsRow B 129 3 vt S.length (BG (S.map (MW T)))
 xr:w.ownsRow B 39 1 vx xs.length xs
 xl:xs.length=E.length/\X.length=E.length
 xw:∀(i:Nat) u l,xs[i]?=some u->X[i]?=some l->DO w B u l
 ex:Q5 T row E X
theorem sB {T:zn} (hI:T.In w) (Dk:T.Ok) (Mx:∀V,Below w.heap.size w V->TabAt 1 Lib.deBruijn32tab V) {row:List Nat}{rv:Value} (hrw:Cw w w.heap.size rv row) (hrl:∀x∈row,x<T.N.nT) (Gx:row.length<=100) (Fv:0< (BD T.N.rules).1.length)
  (hex:∃b c,zP T.N [.yB 0] b/\Al T.N row b c/\c<=9000):
  Calls Tryz.prog 56 #[ac T.tb,rv] w λr w'=>∃E b c S ve vc vr vt vx xs X,r=.returned (.tuple #[.agg #[ve,vc,ab (c:Nat),vr,vt,vx],ab 0])/\PF T w' w.heap.size row E b c S ve vc vr vt vx xs X/\Below w.heap.size w w':=by
 have HI:Hid (∀V,Below w.heap.size w V->T.In V):=hid λV hb=>hI.below hI.bd hb
 have Ab:Hid T.Ok:=hid Dk;have aes:=hid Mx;have Yl:Hid (∀V,Below w.heap.size w V->Cw V w.heap.size rv row):=hid λV hb=>hrw.below hb
 have La:Hid (∀x∈row,x<T.N.nT):=hid hrl;have HEx:=hid hex;have Lh:=hid Fv;have Qd:Hid (T.Bd w.heap.size):=hid hI.bd;obtain⟨aR,cR,Ai,Eb,_⟩:=hrw;have Bk:T.tb<w.heap.size:=hI.bd.tb;obtain⟨L0,Nd⟩:=qF (row.length);rw[<-Nd]at Ai Eb Gx;have HL:=hid Nd;subst Ai;have ag6:Hid (∀V,Below w.heap.size w V->Calls Tryz.prog 93 #[ac T.tb] V λe w'=>∃wk v,e=.returned (ac wk)/\V.heap.size<=wk/\Ah w' wk T.tb V.heap.size v [.yB 0] 0/\Below V.heap.size V w'):=hid λV hb=>Y8 (HI.out V hb)
 clear hI Dk Mx hrl hex Fv Nd
 go_enter Tryz.func56,Tryz.ntmps56
 go_upto_region 1 with fail
 obtain⟨W1,hW1⟩:=qE (w.alloc (.cells #[.slice none 0 0,.slice none 0 0,ab 0,.slice none 0 0,.slice none 0 0,.slice none 0 0] 48));have hb1:Below w.heap.size w W1:=by rw[<-hW1];exact(ah _ w).alloc (yF _) _
 have hr1:W1.heap[w.heap.size]?=some (.cells #[.slice none 0 0,.slice none 0 0,ab 0,.slice none 0 0,.slice none 0 0,.slice none 0 0] 48 (0,0)):=by rw[<-hW1];exact ay w _
 rw[hW1];clear hW1;obtain⟨B,hBe⟩:=qF (W1.heap.size);have Qs:w.heap.size<B:=by rw[hBe];exact ak hr1
 have HBe:=hid hBe;have yR:=hid hb1;have Ck:=hid hr1;have ag7:Hid (Calls Tryz.prog 93 #[ac T.tb] W1 λe w'=>∃wk v,e=.returned (ac wk)/\B<=wk/\Ah w' wk T.tb B v [.yB 0] 0/\Below B W1 w'):=hid (by rw[hBe];exact ag6.out W1 hb1);clear hb1 hr1 hBe ag6
 go_upto_region 2 with(go_at_call 93;refine ag7.out.mono ?_;rintro r W2 ⟨wk,ws,rfl,hwk,hwv,hb2⟩;have H2:=hid (And.intro hwk (And.intro hwv hb2));clear hwk hwv hb2)
 obtain⟨W3,hW3⟩:=qE (W2.alloc (.cells #[ac T.tb,.slice aR L0 cR,ab 0,.slice none 0 0,ac wk,.slice none 0 0,.slice none 0 0,ab 0,.slice none 0 0,.slice none 0 0,.slice none 0 0] 197));have hb3:Below W2.heap.size W2 W3:=by rw[<-hW3];exact(ah _ W2).alloc (yF _) _
 have hm3:W3.heap[W2.heap.size]?=some (.cells #[ac T.tb,.slice aR L0 cR,ab 0,.slice none 0 0,ac wk,.slice none 0 0,.slice none 0 0,ab 0,.slice none 0 0,.slice none 0 0,.slice none 0 0] 197 (0,0)):=by rw[<-hW3];exact ay W2 _
 rw[hW3];clear hW3;have hB2:B<=W2.heap.size:=by have:=H2.out.2.2.size;rw[HBe.out];exact this
 have aeD:Below B W1 W3:=H2.out.2.2.trans (hb3.mono hB2);have hw3:Below w.heap.size w W3:=yR.out.trans (aeD.mono (by omega));have hs3:W2.heap.size<W3.heap.size:=ak hm3;have ag8:Df T W3 W2.heap.size wk B (.slice aR L0 cR) 0 0 [] [] [.yB 0] []:=⟨0,⟨.slice none 0 0,.slice none 0 0,.slice none 0 0,.slice none 0 0,.slice none 0 0,ws,[],
  {blk:=hm3
   rows:=λj hj=>by rcases hj with e |e |e |e |e <;> subst e <;> exact je _ _ _ _
   kind:=vM
   ap:=λj j' hj _ _ g hg=>by rcases hj with e |e |e |e |e <;> subst e <;> cases hg
   Gz:=H2.out.2.1.keeps (A1.yX hb3 []) (by simp) (λ_ _=>by simp)
   len:=rfl
   ex:=λi u l h=>by cases h
   ea:=λu hu=>by cases hu
   Oq:=hB2
   Ot:=H2.out.1}⟩,yF _,yF _,⟨λn hn=>by
    have:n=0:=by simpa using hn
    subst this;exact(HI.out w (ah _ _)).fc.gr.ok.pos,λt ht=>by simp at ht⟩⟩
 have ag9:=hid ag8;have HW3:=hid hw3;have ake:=hid aeD;have HCh:Hid (Calls Tryz.prog 94 #[ac T.tb,.slice aR L0 cR] W3 λe w'=>∃(v:Value) (B':Nat) (E:List ze) (b:List Nat) (c:Nat),e=.returned v/\W3.heap.size<=B'/\w'.ownsRow B' 201 5 v E.length (DM E)/\c<AC/\za T.N row 0 E row.length b c/\zP T.N [.yB 0] b/\(∀b' c',zP T.N [.yB 0] b'->Al T.N row b' c'->c<=c')/\Below W3.heap.size W3 w'):=hid (ZA (HI.out W3 hw3) Ab.out ((Yl.out W3 hw3).mono hw3.size) La.out (by rw[<-HL.out];exact Gx) Lh.out (by
  obtain⟨b,c,h1,h2,h3⟩:=HEx.out;exact⟨b,c,h1,h2,by unfold AC;omega⟩))
 clear hm3 hb3 ag8 aeD hw3 ag7
 go_wp2_with (go_at_call 94;refine HCh.out.mono ?_;rintro r W4 ⟨v,B',E,b,c,rfl,hB',hrow,_,hrun,aay,hmin,hb4⟩;obtain⟨va,vc,rfl⟩:=BB hrow;have H4:=hid (And.intro hB' (And.intro hrow (And.intro hrun (And.intro aay (And.intro hmin hb4)))));clear hB' hrow hrun aay hmin hb4)
 obtain⟨nE,Vh⟩:=qF (E.length);rw[<-Vh]at H4 ⊢;have Qx:=hid Vh;clear Vh;obtain⟨hB',hrow,hrun,aay,hmin,hb4⟩:=H4.out;have hN:=(HI.out w (ah _ _)).fc.gr.ok;have hrs:CQ T.yN [.yB 0] b=some []:=by
  have h:=fQ Ab.out.of Ab.out.Xr aay []
  rwa [iq]at h
 have Rx:c<=9000:=by
  obtain⟨b',c',h1,h2,h3⟩:=HEx.out;exact y5 (hmin b' c' h1 h2) h3
 obtain⟨hbl,hEl⟩:=hrun.ag5 hN La.out;have ae8:b.length<=9100:=by have:=HL.out;omega
 have al5:nE<=9000:=by rw[Qx.out];omega
 have aha:Below B W1 W4:=ake.out.trans (hb4.mono (by have:=hB2;omega));have akf:Hid (Df T W4 W2.heap.size wk B (.slice aR L0 cR) 0 0 [] [] [.yB 0] []):=hid (ag9.out.below hb4);have Xk:=hid aha;have Yu:=hid hrun;have HRs:=hid hrs;have acM:=hid hrow;have HDM:Hid (zP T.N [.yB 0] b/\∀b' c',zP T.N [.yB 0] b'->Al T.N row b' c'->c<=c'):=hid ⟨aay,hmin⟩;have Ea:W2.heap.size<W4.heap.size:=by have:=hb4.size;omega
 clear hB' hrow hrun aay hmin hb4 hrs hbl hEl aha H4 ag9 HCh hN
 go_loopw [21] (λz wr=>∃(k a ck cr:Nat) (made br:List Nat) (L:List Pt) (X:List (List ByteArray)),k<=nE/\z=ab k/\Hid (Df T wr W2.heap.size wk B (.slice aR L0 cR) a ck made (E.take k) L X)/\Hid (za T.N row 0 (E.take k) a made ck)/\Hid (za T.N row a (E.drop k) row.length br cr)/\Hid (b=made++br/\c=ck+cr/\X.length=k)/\Hid (CQ T.yN [.yB 0] made=some L/\CQ T.yN L br=some [])/\Hid (Q5 T row (E.take k) X)/\Hid (AV B W4 wr)) (λz _=>nE - (intOf z).toNat)
 case atStart=>exact⟨0,0,0,c,[],b,[.yB 0],[],bu _,rfl,akf,hid (.done 0),Yu,hid ⟨rfl,by omega,rfl⟩,hid ⟨rfl,HRs.out⟩,hid (λk e x h=>by simp at h),hid (AV.refl _ _)⟩
 case round=>
  obtain⟨k,a,ck,cr,made,br,L,X,hk,rfl,Ee,Kl,hrb,heq,hrs,abz,hkm⟩:=hrel;have Va:=hkm.out.size;have Vc:B<=W4.heap.size:=by omega
  have Ed:Below B W4 wr:=hkm.out.below Vc;have hwr:Below w.heap.size w wr:=yR.out.trans ((Xk.out.trans Ed).mono (by omega))
  by_cases hlt:k<nE
  ·obtain⟨e,he⟩:∃e,E[k]?=some e:=⟨_,gE (by rw[<-Qx.out];exact hlt)⟩
   have Gy:k<E.length:=by rw[<-Qx.out];exact hlt
   have ahb:E.drop k=e::E.drop (k+1):=by
    obtain⟨h1,h2⟩:=yS.1 he;rw[gm h1,h2]
   have aao:E.take (k+1)=E.take k++ [e]:=by rw[sy,he];rfl
   obtain⟨a',nw,br',cr',n1,n2,n3,n4,n5,n6,n7⟩:=hrb.out.next ahb;obtain⟨eb,ec,eX⟩:=heq.out;obtain⟨s1,s2⟩:=hrs.out;rw[n3,aA]at s2;obtain⟨L1,s3,s4⟩:=NZ s2;obtain⟨L2,s5,s6,s7⟩:=n6.step s4;have hEl:=Yu.out.ag5 (HI.out w (ah _ _)).fc.gr.ok La.out;have hcl:ck+e.cost+cr'=c:=by omega
   have hml:made.length+(e.loc - a)<=9900:=by
    have h1:=congrArg List.length eb;rw[n3]at h1;simp only[lA,nk,ku]at h1;omega
   have hold:e.old<=T.N.nT:=by
    rcases n6 with⟨_,h,_⟩ | ⟨_,h,_⟩ | ⟨_,h,_⟩
    ·omega
    ·exact qb (La.out _ (mG h))
    ·exact qb (La.out _ (mG h))
   have hnew:e.new<=T.N.nT:=by
    rcases n6 with⟨_,_,h,_⟩ | ⟨_,_,h,_⟩ | ⟨_,_,h,_⟩ <;> omega
   have HDo:Hid (∀V,Below wr.heap.size wr V->Calls Tryz.prog 95 #[ac W2.heap.size,.agg #[ab e.loc,ab e.kind,ab e.old,ab e.new,ab e.cost]] V λr w'=>r=.returned (.tuple #[])/\Df T w' W2.heap.size wk B (.slice aR L0 cR) a' (ck+e.cost) (made++((row.drop a).take (e.loc - a)++nw)) (E.take (k+1)) L2 (X++ [L4 T L1])/\AV B V w'):=hid λV zR=>by
    have hV:Below w.heap.size w V:=hwr.trans (zR.mono hwr.size);have h:=wG (e:=e) Ab.out (HI.out V hV) ⟨y5 Qd.out.n0 (by omega),yh Qd.out.tb Qs,yh Qd.out.kb Qs⟩ (by have:=zR.size;omega) (λV' hk'=>aes.out V' (hV.trans ((hk'.below (by have:=zR.size;omega)).mono (by omega)))) (Ee.out.below zR) ((Yl.out V hV).mono (by omega)) La.out n1 (by omega) (by rw[<-HL.out];exact Gx) s3 s5 hold hnew hml (by omega) (by omega) yM (by omega);rw[aao,<-aA];exact h
   have HN:Hid (za T.N row 0 (E.take (k+1)) a' (made++((row.drop a).take (e.loc - a)++nw)) (ck+e.cost)/\za T.N row a' (E.drop (k+1)) row.length br' cr'/\b=(made++((row.drop a).take (e.loc - a)++nw))++br'/\c=(ck+e.cost)+cr'/\(X++ [L4 T L1]).length=k+1/\CQ T.yN [.yB 0] (made++((row.drop a).take (e.loc - a)++nw))=some L2/\CQ T.yN L2 br'=some []/\Q5 T row (E.take (k+1)) (X++ [L4 T L1])):=hid (by
    have hkeep:=za.keeps (N:=T.N) (row:=row) (e.loc - a) a Vp;rw[show a+(e.loc - a)=e.loc by omega]at hkeep;have Bb:=Kl.out.append hkeep;rw[iq,ug]at Bb;have hsm:CQ T.yN [.yB 0] (made++(row.drop a).take (e.loc - a))=some L1:=by rw[IW,s1];exact s3
    refine⟨by rw[aao];exact Kl.out.append n7,n4,by rw[eb,n3];simp,by omega,by simp[eX],?_,s7,?_⟩
    ·rw[<-aA,IW,hsm];exact s6
    ·rw[aao]
     exact abz.out.snoc (by rw[eX];simp;omega) Bb hsm)
   obtain⟨g,cap,hvv,_⟩:=AX acM.out (by omega);injection hvv with hv1 _ hv3
   subst hv1;subst hv3;obtain⟨cE,hcE⟩:=BI acM.out (g:=g) rfl;have Bf:g<W4.heap.size:=CJ acM.out rfl;have hgr:wr.heap[g]?=W4.heap[g]?:=hkm.out.block g Bf (.inr ⟨_,_,hcE⟩);have hcell:=λj (hj:j<5)=>((jd hgr:wr.cell? (af g (k*5+j))=_)).trans (qd acM.out (k*5+j) (by omega))
   obtain⟨h0,h1,h2,h3,h4⟩:=UZ he;have c0:wr.cell? (af g (k*5))=some (ab e.loc):=(hcell 0 (by omega)).trans h0;have c1:wr.cell? (af g (k*5+1))=some (ab e.kind):=(hcell 1 (by omega)).trans h1;have c2:wr.cell? (af g (k*5+2))=some (ab e.old):=(hcell 2 (by omega)).trans h2;have c3:wr.cell? (af g (k*5+3))=some (ab e.new):=(hcell 3 (by omega)).trans h3;have c4:wr.cell? (af g (k*5+4))=some (ab e.cost):=(hcell 4 (by omega)).trans h4;have hki:((k:Int)< (nE:Int)):=by omega
   clear hcell h0 h1 h2 h3 h4 n1 n2 n3 n4 n5 n6 n7 s1 s2 s3 s4 s5 s6 s7 eb ec eX ahb aao hcl hml hold hnew hEl Ee Kl hrb heq hrs abz hcE hgr
   go_upto_region 5 with fail
   obtain⟨W5,Dc⟩:=qE (wr.alloc (.cells #[ab e.loc,ab e.kind,ab e.old,ab e.new,ab e.cost] 201));have yT:Below wr.heap.size wr W5:=by rw[<-Dc];exact(ah _ wr).alloc (yF _) _
   have he5:W5.heap[wr.heap.size]?=some (.cells #[ab e.loc,ab e.kind,ab e.old,ab e.new,ab e.cost] 201 (0,0)):=by rw[<-Dc];exact ay wr _
   rw[Dc];have k0:=(A0 (j:=0) he5).trans rfl;have k1:=(A0 (j:=1) he5).trans rfl;have k2:=(A0 (j:=2) he5).trans rfl;have k3:=(A0 (j:=3) he5).trans rfl;have k4:=(A0 (j:=4) he5).trans rfl;have zI:=hid yT;clear Dc yT he5 c0 c1 c2 c3 c4
   go_wp2_with (go_at_call 95;refine(HDo.out _ zI.out).mono ?_;rintro r W6 ⟨rfl,hm6,Bc⟩;have H6:=hid (And.intro hm6 Bc);clear hm6 Bc)
   obtain⟨r1,r2,r3,r4,r5,r6,r7,r8⟩:=HN.out
   go_roundw
   case rel=>exact⟨k+1,a',ck+e.cost,cr',_,br',L2,_,by omega,by go_num,hid H6.out.1,hid r1,hid r2,hid ⟨r3,r4,r5⟩,hid ⟨r6,r7⟩,hid r8,hid (hkm.out.trans ((AV.yX zI.out).trans H6.out.2))⟩
   case measure=>simp[intOf];omega
  ·have hke:k=nE:=by omega
   subst hke;have hdr:E.drop k=[]:=by rw[Qx.out];exact List.drop_length
   have htk:E.take k=E:=by rw[Qx.out];exact mj
   rw[hdr]at hrb;rw[htk]at Ee Kl abz;have hsum:=hrb.out.sum;have Mn:cr=0:=by simpa using hsum.symm
   have hbr:=hrb.out.same (yF _) rfl;obtain⟨eb,ec,eX⟩:=heq.out;obtain⟨s1,s2⟩:=hrs.out;have hal:=hrb.out.le;rw[hbr]at s2;have acD:T.Bd B:=⟨y5 Qd.out.n0 (by omega),yh Qd.out.tb Qs,yh Qd.out.kb Qs⟩;have HKt:Hid (Calls Tryz.prog 96 #[ac W2.heap.size,ab L0] wr λr w'=>r=.returned (.tuple #[])/\Df T w' W2.heap.size wk B (.slice aR L0 cR) L0 c b E [] X/\AV B wr w'):=hid (by
    have h:=VK (a2:=row.length) Ab.out (HI.out wr hwr) acD (by omega) Ee.out ((Yl.out wr hwr).mono (by omega)) La.out hal (yF _) (by rw[<-HL.out];exact Gx) s2 (by
     have h1:=congrArg List.length eb;rw[hbr]at h1;simp only[lA,nk,ku]at h1;omega)
    rw[<-hbr,<-eb,show ck=c by omega,<-HL.out]at h;exact h)
   have HX:Hid (X.length=E.length/\Q5 T row E X):=hid ⟨by rw[eX];exact Qx.out,abz.out⟩;clear hdr htk hsum hbr eb ec eX s1 s2 hal Ee Kl hrb heq hrs abz
   go_upto_region 8 with(go_at_call 96;refine HKt.out.mono ?_;rintro r W7 ⟨rfl,hm7,Bo⟩;have H7:=hid (And.intro hm7 Bo);clear hm7 Bo)
   obtain⟨⟨x,⟨vm,ve,vc',vr,vx,ws',xs,hv7⟩,_⟩,Bo⟩:=H7.out;have hs7:=Bo.size;have hB7:Below B W1 W7:=Xk.out.trans (Ed.trans (Bo.below (by omega)));have hw7:Below w.heap.size w W7:=yR.out.trans (hB7.mono (by omega));have hvm:D7 W7 B vm b:=hv7.rows 3 (.inl rfl);have HRd:Hid (Calls Tryz.prog 73 #[ac T.tb,vm] W7 λe w'=>Below W7.heap.size W7 w'/\
    ((∃S v,zJ T.yN [.yB 0] b S/\e=.returned (.tuple #[v,ab (-1),ab 0])/\w'.ownsRow W7.heap.size 129 3 v S.length (BG (S.map (MW T))))\/
     (∃i:Nat,M0 T b i/\e=.returned (.tuple #[.slice none 0 0,ab i,ab 0])))):=hid (XX Ab.out (HI.out W7 hw7) ⟨hvm.row (λg hg=>CJ hvm hg),λh=>absurd h (t8 (lZ Ab.out.of Ab.out.Xr) HDM.out.1)⟩ (kY (HI.out w (ah _ _)).fc.gr.ok HDM.out.1 (λt ht=>by simp at ht)) (by omega))
   have m3:W7.cell? (af W2.heap.size 3)=some vm:=(A0 hv7.blk).trans rfl;have HV7:=hid hv7;have Kq:=hid hB7;clear hv7 hB7 hvm Bo H7 HKt hw7
   go_upto_region 9 with(go_at_call 73;refine HRd.out.mono ?_;rintro r W8 ⟨Be,hres⟩;rcases hres with⟨S,vt,hS,rfl,Mu⟩ | ⟨i,hi,rfl⟩;rotate_left;exact(bY hi HRs.out).elim;obtain⟨ta,tc,rfl⟩:=BB Mu;have H8:=hid (And.intro Be (And.intro hS Mu));clear Be hS Mu)
   obtain⟨Be,hS,Mu⟩:=H8.out;have Jv:=HV7.out.below Be;obtain⟨nS,hnS⟩:=qF (S.length);rw[<-hnS]at H8 ⊢;have HNS:=hid hnS;have hve:=Jv.rows 5 (.inr (.inl rfl));have hvc:=Jv.rows 6 (.inr (.inr (.inl rfl)));have hvr:=Jv.rows 8 (.inr (.inr (.inr (.inl rfl))));have hvx:=Jv.rows 10 (.inr (.inr (.inr (.inr rfl))));obtain⟨ea,Zd,Qw⟩:=BB hve;obtain⟨ca,Ze,Pa⟩:=BB hvc;obtain⟨ra,Zf,he3⟩:=BB hvr;obtain⟨xa,Zg,Sf⟩:=BB hvx;have Qw:ve=.slice ea E.length Zd:=Qw;have Pa:vc'=.slice ca E.length Ze:=Pa;have he3:vr=.slice ra b.length Zf:=he3;have Sf:vx=.slice xa xs.length Zg:=Sf;obtain⟨lE,hlE⟩:=qF (E.length);obtain⟨lb,hlb⟩:=qF (b.length);obtain⟨lx,hlx⟩:=qF (xs.length);rw[<-hlE]at Qw Pa;rw[<-hlb]at he3;rw[<-hlx]at Sf;have hs8:W7.heap.size<=W8.heap.size:=Be.size;have ahc:W8.heap[w.heap.size]?=some (.cells #[.slice none 0 0,.slice none 0 0,ab 0,.slice none 0 0,.slice none 0 0,.slice none 0 0] 48 (0,0)):=((Kq.out.trans (Be.mono (by omega))).block _ Qs).trans Ck.out
   have m5:W8.cell? (af W2.heap.size 5)=some (.slice ea lE Zd):=by rw[<-Qw];exact(A0 Jv.blk).trans rfl
   have m6:W8.cell? (af W2.heap.size 6)=some (.slice ca lE Ze):=by rw[<-Pa];exact(A0 Jv.blk).trans rfl
   have m7:W8.cell? (af W2.heap.size 7)=some (ab c):=(A0 Jv.blk).trans rfl;have m8:W8.cell? (af W2.heap.size 8)=some (.slice ra lb Zf):=by rw[<-he3];exact(A0 Jv.blk).trans rfl
   have m9:W8.cell? (af W2.heap.size 9)=some (.slice none 0 0):=(A0 Jv.blk).trans rfl;have m10:W8.cell? (af W2.heap.size 10)=some (.slice xa lx Zg):=by rw[<-Sf];exact(A0 Jv.blk).trans rfl
   have z9:W8.frozen? (af W2.heap.size 9)=false:=A3 Jv.blk;have HLs:Hid (lE=E.length/\lb=b.length/\lx=xs.length):=hid ⟨hlE,hlb,hlx⟩;have HEq:Hid (ve=.slice ea lE Zd/\vc'=.slice ca lE Ze/\vr=.slice ra lb Zf/\vx=.slice xa lx Zg):=hid ⟨Qw,Pa,he3,Sf⟩;have Hv:=hid Jv;have ahd:=hid ahc;have aj8:W2.heap.size<W8.heap.size:=Jv.Tb;clear Be hS Mu Jv hnS hve hvc hvr hvx Qw Pa he3 Sf hlE hlb hlx ahc m3 HRd
   go_upto_region 12 with fail
   obtain⟨W9,Mo⟩:=qE (W8.setCell (af W2.heap.size 9) (.slice ta nS tc));have Cu:A1 W8 W9 [W2.heap.size]:=by rw[<-Mo];exact(A1.refl W8 _).setCell (by simp) _
   have Vj:W9.heap[W2.heap.size]?=some (.cells #[ac T.tb,.slice aR L0 cR,ab L0,vm,ac wk,ve,vc',ab c,vr,.slice ta nS tc,vx] 197 (0,0)):=by rw[<-Mo];exact A6 (j:=9) Hv.out.blk _
   rw[Mo];have Jw:=(Cu.block w.heap.size (by omega) yM).trans ahd.out;have n5:W9.cell? (af W2.heap.size 5)=some (.slice ea lE Zd):=by rw[<-HEq.out.1];exact(A0 Vj).trans rfl
   have n6:W9.cell? (af W2.heap.size 6)=some (.slice ca lE Ze):=by rw[<-HEq.out.2.1];exact(A0 Vj).trans rfl
   have n7:W9.cell? (af W2.heap.size 7)=some (ab c):=(A0 Vj).trans rfl;have n8:W9.cell? (af W2.heap.size 8)=some (.slice ra lb Zf):=by rw[<-HEq.out.2.2.1];exact(A0 Vj).trans rfl
   have n9:W9.cell? (af W2.heap.size 9)=some (.slice ta nS tc):=(A0 Vj).trans rfl;have n10:W9.cell? (af W2.heap.size 10)=some (.slice xa lx Zg):=by rw[<-HEq.out.2.2.2];exact(A0 Vj).trans rfl
   have b0:=(A0 (j:=0) Jw).trans rfl;have b1:=(A0 (j:=1) Jw).trans rfl;have b2:=(A0 (j:=2) Jw).trans rfl;have b3:=(A0 (j:=3) Jw).trans rfl;have b4:=(A0 (j:=4) Jw).trans rfl;have b5:=(A0 (j:=5) Jw).trans rfl;have g0:=A3 (j:=0) Jw;have g1:=A3 (j:=1) Jw;have g2:=A3 (j:=2) Jw;have g3:=A3 (j:=3) Jw;have g4:=A3 (j:=4) Jw;have g5:=A3 (j:=5) Jw;have HK9:=hid Cu;have HM9:=hid Vj;have akg:=hid Jw;clear Mo Cu Vj Jw m5 m6 m7 m8 m9 m10 z9;go_wp2;have hrow:=A6 (j:=5) (A6 (j:=4) (A6 (j:=3) (A6 (j:=2) (A6 (j:=1) (A6 (j:=0) akg.out (.slice ea lE Zd)) (.slice ca lE Ze)) (ab c)) (.slice ra lb Zf)) (.slice ta nS tc)) (.slice xa lx Zg);have Zh:A1 W9 ((((((W9.setCell (af w.heap.size 0) (.slice ea lE Zd)).setCell (af w.heap.size 1) (.slice ca lE Ze)).setCell (af w.heap.size 2) (ab c)).setCell (af w.heap.size 3) (.slice ra lb Zf)).setCell (af w.heap.size 4) (.slice ta nS tc)).setCell (af w.heap.size 5) (.slice xa lx Zg)) [w.heap.size]:=((((((A1.refl W9 _).setCell (by simp) _).setCell (by simp) _).setCell (by simp) _).setCell (by simp) _).setCell (by simp) _).setCell (by simp) _
   refine⟨rfl,_,K2 (p:=4) (t:=5) (ty:=48) rfl _ _ w.heap.size _ _ _ _ rfl hrow Tryz.underlying48 rfl yg,?_⟩;obtain⟨WF,hWF⟩:=qE (((((((W9.setCell (af w.heap.size 0) (.slice ea lE Zd)).setCell (af w.heap.size 1) (.slice ca lE Ze)).setCell (af w.heap.size 2) (ab c)).setCell (af w.heap.size 3) (.slice ra lb Zf)).setCell (af w.heap.size 4) (.slice ta nS tc)).setCell (af w.heap.size 5) (.slice xa lx Zg)));rw[hWF]at Zh ⊢;have hkA:A1 W8 WF [W2.heap.size,w.heap.size]:=(HK9.out.mono (λq hq=>by simp at hq ⊢;exact .inl hq)).trans (Zh.mono (λq hq=>by simp at hq ⊢;exact .inr hq));have hoff:∀{e sz n:Nat}{v:Value}{l:List Value}{B0:Nat},W8.ownsRow B0 e sz v n l->e≠197->e≠48->w.heap.size<=B0->WF.ownsRow w.heap.size e sz v n l:=λh h1 h2 h3=>O6 (ZG h hkA (λq hq=>by
    simp only[bh,jy,qu]at hq
    rcases hq with e |e <;> subst e
    ·exact⟨_,_,_,Hv.out.blk,h1⟩
    ·exact⟨_,_,_,ahd.out,h2⟩)) h3
   obtain⟨Be,hS,Mu⟩:=H8.out;refine⟨E,b,c,S,ve,vc',vr,.slice ta nS tc,vx,xs,X,?_,⟨Yu.out,hS,HDM.out.2,?_,?_,?_,?_,?_,⟨by rw[<-Hv.out.len];exact HX.out.1,HX.out.1⟩,λi u l h1 h2=>?_,HX.out.2⟩,?_⟩
   ·rw[HEq.out.1,HEq.out.2.1,HEq.out.2.2.1,HEq.out.2.2.2];rfl
   ·exact hoff (Hv.out.rows 5 (.inr (.inl rfl))) (by decide) (by decide) (by omega)
   ·have h0:W8.ownsRow B 3 1 vc' E.length (D8 (E.map (·.cost))):=Hv.out.rows 6 (.inr (.inr (.inl rfl)))
    have h:=hoff h0 (by decide) (by decide) (by omega);unfold D7;rw[lM];exact h
   ·exact hoff (Hv.out.rows 8 (.inr (.inr (.inr (.inl rfl))))) (by decide) (by decide) (by omega)
   ·rw[<-HNS.out];exact hoff Mu (by decide) (by decide) (by have:=Kq.out.size;omega)
   ·exact hoff (Hv.out.rows 10 (.inr (.inr (.inr (.inr rfl))))) (by decide) (by decide) (by omega)
   ·exact hoff (Hv.out.ex i u l h1 h2) (by decide) (by decide) (by omega)
   ·have Yj:Below w.heap.size w W8:=yR.out.trans ((Kq.out.mono (by omega)).trans (Be.mono (by have:=Kq.out.size;omega)))
    exact Yj.trans (hkA.below Yj.size (λq hq=>by
     simp only[bh,jy,qu]at hq
     rcases hq with e |e <;> omega))
def UR (yL:List ByteArray) (nT:Nat):Prop:=∀i j,i<nT->j<nT->nth yL i=nth yL j->i=j
theorem oY (a b:ByteArray):(a.toList==b.toList)=decide (a=b):=by
 by_cases h:a=b
 ·subst h;simp
 ·rw[fq h,jz]
  intro e;rw[jf,jf]at e;exact h (ByteArray.ext (xV.mp e))
theorem ZU {V:World}{a b:ByteArray}{p d:Int}{sv:Value}{wb:Nat} (hw:V.cell? (af wb 0)=some (.string b)) (hsv:∃ad n c,sv=.slice ad n c):
  Calls Tryz.prog 143 #[.agg #[.string a,ab p,ab d,sv],ac wb] V λe w'=>e=.returned (.bool (decide (a=b)))/\Below V.heap.size V w':=by
 obtain⟨ad,n,c,rfl⟩:=hsv;have hw':(V.alloc (.cells #[.string a,ab p,ab d,.slice ad n c] 268)).cell? (af wb 0)=some (.string b):=A2 _ hw;have b0:=BF V #[.string a,ab p,ab d,.slice ad n c] 268 0
 go_enter Tryz.func143,Tryz.ntmps143
 go_wp2;go_ret;exact⟨by rw[<-oY];rfl,(ah _ V).alloc (yF _) _⟩
theorem kK {n₀:Nat}{yL:List ByteArray}{pg:List Nm}{yu:Option Addr}{yl gN xY wb:Nat} (hP:Ba w n₀ N yL pg yu yl gN xY) (h0:n₀<=w.heap.size) (ht:t<N.nT) (hw:w.cell? (af wb 0)=some (.string (nth yL t))) (Lv:UR yL N.nT):
  Calls Tryz.prog 142 #[.slice yu N.nT yl,.func (.func 143) #[] #[ac wb]] w λe w'=>e=.returned (ab t)/\Below w.heap.size w w':=by
 have e1:∀args V,(callFunc 143 args).run Tryz.prog V=.ok (.enter 143 args) V:=qo Tryz.func143 yg rfl;have Cj:=hP.Aj;have hlT:=hP.lT;obtain⟨gT,Gm,Bf,_,_⟩:=hP.toks t ht;subst Gm;have Au:wb<w.heap.size:=bq w _ hw;have HT:Hid (∀V,Below w.heap.size w V->∀u,u<N.nT->∃gs cs,V.cell? (af gT (u*4))=some (.string (nth yL u))/\V.cell? (af gT (u*4+1))=some (ab (N.put u))/\V.cell? (af gT (u*4+2))=some (ab (N.drop u))/\V.cell? (af gT (u*4+3))=some (ae gs N.nT cs)):=hid λV hb u hu=>by
  obtain⟨g1,e2,_,k1,k2⟩:=hP.toks u hu;obtain⟨g2,gs,cs,e3,_,k3,k4,_⟩:=hP.Wc u hu;injection e2 with e2
  injection e2 with e2
  injection e3 with e3
  injection e3 with e3
  subst e2;subst e3;have Hl:gT<w.heap.size:=by omega
  exact⟨gs,cs,(hb.cell Rb).trans k1,(hb.cell Rb).trans k2,(hb.cell Rb).trans k3,(hb.cell Rb).trans k4⟩
 obtain⟨nT,zo⟩:=qF (N.nT);rw[<-zo]at ht HT Lv Cj hlT ⊢;have HTw:=hid Lv;clear hP Lv zo
 go_enter Tryz.func142,Tryz.ntmps142
 go_wp2
 go_loopw [8] (λz wr=>∃j:Nat,j<=t/\z=ab j/\Hid (Below w.heap.size w wr)) (λz _=>t - (intOf z).toNat)
 case atStart=>exact⟨0,bu _,rfl,hid (ah _ _)⟩
 case round=>
  obtain⟨j,hj,rfl,hb⟩:=hrel;have hjT:j<nT:=by omega
  obtain⟨gs,cs,k0,k1,k2,k3⟩:=HT.out wr hb.out j hjT;have cw:=(hb.out.cell (p:=(af wb 0)) Gd).trans hw;have CC:=ZU (V:=wr) (a:=nth yL j) (b:=nth yL t) (p:=(N.put j:Int)) (d:=(N.drop j:Int)) (sv:=ae gs nT cs) cw ⟨_,_,_,rfl⟩;obtain⟨wj,hwj⟩:=qE (nth yL j);have HWj:=hid hwj;rw[hwj]at k0 CC;obtain⟨wt,hwt⟩:=qE (nth yL t);have HWt:=hid hwt;rw[hwt]at cw CC;clear hwj hwt
  by_cases he:wj=wt
  ·have hjt:j=t:=HTw.out j t hjT ht (by rw[HWj.out,HWt.out,he])
   rw[ij he]at CC;subst hjt;have HC:=hid CC;clear CC cw he
   go_wp2_with (refine HC.out.mono ?_;rintro e w2 ⟨rfl,hb2⟩;have yV:=hid (hb.out.trans (hb2.mono hb.out.size));clear hb2)
   go_ret;exact⟨rfl,yV.out⟩
  ·have hjt:j<t:=by
    rcases jw j t with h |h
    ·exact h
    ·exfalso
     have e:j=t:=by omega
     subst e;exact he (HWj.out.symm.trans HWt.out)
   rw[fq he]at CC;have HC:=hid CC;clear CC cw he
   go_wp2_with (refine HC.out.mono ?_;rintro e w2 ⟨rfl,hb2⟩;have yV:=hid (hb.out.trans (hb2.mono hb.out.size));clear hb2)
   go_roundw
   case rel=>exact⟨j+1,by omega,by go_num,yV⟩
   case measure=>simp[intOf];omega
def Hf (w:World) (B:Nat) (v:Value) (ws:List ByteArray):Prop:=∃ad cap,v=.slice ad ws.length cap/\ws.length<=cap/\(0<ws.length->∃g off,ad=some (af g off)/\g<B/\∀(i:Nat) (x:ByteArray),ws[i]?=some x->w.cell? (af g (off+i))=some (.string x))
theorem Hf.below {w':World}{ws:List ByteArray} (h:Hf w B v ws) (hb:Below B w w'):Hf w' B v ws:=by
 obtain⟨ad,cap,h1,h2,h3⟩:=h;refine⟨ad,cap,h1,h2,λh0=>?_⟩;obtain⟨g,off,h4,h5,h6⟩:=h3 h0;exact⟨g,off,h4,h5,λi x hx=>(hb.cell (by exact h5)).trans (h6 i x hx)⟩
theorem Hf.mono {B':Nat}{ws:List ByteArray} (h:Hf w B v ws) (hB:B<=B'):Hf w B' v ws:=by
 obtain⟨ad,cap,h1,h2,h3⟩:=h;refine⟨ad,cap,h1,h2,λh0=>?_⟩;obtain⟨g,off,h4,h5,h6⟩:=h3 h0;exact⟨g,off,h4,by omega,h6⟩
theorem eI {n₀:Nat}{yL:List ByteArray}{pg:List Nm}{yu:Option Addr}{yl gN xY:Nat}{l:List Nat}{rv:Value} (hP:Ba w n₀ N yL pg yu yl gN xY) (h0:n₀<=w.heap.size) (Lv:UR yL N.nT) (hl:∀t∈l,t<N.nT) (hrow:Hf w w.heap.size rv (l.map (nth yL))) (hn:l.length<=1000):
  Calls Tryz.prog 92 #[.agg #[.slice yu N.nT yl,ae gN N.nN xY],rv] w λe w'=>∃v,e=.returned (.tuple #[v,.bool true])/\(D7 w' w.heap.size v l/\(l=[]->v=.slice none 0 0))/\Below w.heap.size w w':=by
 obtain⟨iI,Io,Ip,Iq,Ir⟩:=jc Tryz.infoX3;have HI:Hid (∀V t wb,Below w.heap.size w V->t<N.nT->V.cell? (af wb 0)=some (.string (nth yL t))->Calls Tryz.prog 142 #[.slice yu N.nT yl,.func (.func 143) #[] #[ac wb]] V λe w'=>e=.returned (ab (t:Nat))/\Below V.heap.size V w'):=hid λV t wb hb ht hc=>kK (hP.below (hb.mono h0)) (by have:=hb.size;omega) ht hc Lv
 obtain⟨ad,cap,rfl,hcap,hc⟩:=hrow;obtain⟨n,hnn⟩:=qF (l.length);rw[lM,<-hnn]at hcap hc ⊢;rw[<-hnn]at hn;obtain⟨nT,zo⟩:=qF (N.nT);obtain⟨nN,yY⟩:=qF (N.nN);rw[<-zo]at HI hl ⊢;rw[<-yY];have HN:=hid hnn;have HC:=hid hc;have Zi:=hid hl;clear hP h0 Lv hl hc hnn zo yY
 go_enter Tryz.func92,Tryz.ntmps92
 go_wp2;obtain⟨W1,hW1⟩:=qE (w.alloc (.cells #[.slice yu nT yl,ae gN nN xY] 135));have hb1:Below w.heap.size w W1:=by rw[<-hW1];exact(ah _ w).alloc (yF _) _
 have Av:W1.heap[w.heap.size]?=some (.cells #[.slice yu nT yl,ae gN nN xY] 135 (0,0)):=by rw[<-hW1];exact ay w _
 rw[hW1];have yR:=hid hb1;have HG1:=hid Av;have hs1:w.heap.size<W1.heap.size:=ak Av;clear hW1 hb1 Av
 go_loopw [4,11] (λv z wr=>∃(i:Nat),i<=n/\z=ab i/\Hid (D7 wr w.heap.size v (l.take i)/\(i=0->v=.slice none 0 0))/\Hid (Below w.heap.size w wr)/\Hid (wr.heap[w.heap.size]?=some (.cells #[.slice yu nT yl,ae gN nN xY] 135 (0,0)))) (λ_ z _=>n - (intOf z).toNat)
 case atStart=>exact⟨0,bu _,rfl,hid ⟨je _ _ _ _,λ_=>rfl⟩,yR,HG1⟩
 case round=>
  obtain⟨i,hi,rfl,hiv,hb,hg⟩:=hrel;have Va:w.heap.size<wr.heap.size:=ak hg.out
  by_cases hlt:i<n
  ·obtain⟨t,ht⟩:∃t,l[i]?=some t:=⟨_,gE abQ⟩
   have htT:=Zi.out t (mG ht);obtain⟨g,off,rfl,Bf,Fj⟩:=HC.out (by omega);have cx:=(hb.out.cell (p:=(af g (off+i))) (by exact Bf)).trans (Fj i (nth yL t) (by rw[gM,ht];rfl));have hii:((i:Int)< (n:Int)):=by omega
   have Ab:Hid (l.take (i+1)=l.take i++ [t]):=hid (by rw[sy,ht];rfl);obtain⟨wd,hwd⟩:=qE (nth yL t);have Jf:=hid hwd;rw[hwd]at cx;clear Fj ht hwd
   go_upto_region 4 with fail
   obtain⟨W2,hW2⟩:=qE (wr.alloc (.cells #[.string wd] 9));have hb2:Below wr.heap.size wr W2:=by rw[<-hW2];exact(ah _ wr).alloc (yF _) _
   have hw2:W2.heap[wr.heap.size]?=some (.cells #[.string wd] 9 (0,0)):=by rw[<-hW2];exact ay wr _
   rw[hW2];have hs2:wr.heap.size<W2.heap.size:=ak hw2;have hg2:=(hb2.block w.heap.size Va).trans hg.out;have t0:W2.cell? (af w.heap.size 0)=some (.slice yu nT yl):=(A0 hg2).trans rfl;have Ib:Below w.heap.size w W2:=hb.out.trans (hb2.mono (by omega));have HIx:Hid (∀V,Below W2.heap.size W2 V->Calls Tryz.prog 142 #[.slice yu nT yl,.func (.func 143) #[] #[ac wr.heap.size]] V λe w'=>e=.returned (ab (t:Nat))/\Below V.heap.size V w'):=hid λV zR=>HI.out V t wr.heap.size (Ib.trans (zR.mono Ib.size)) htT ((zR.cell (p:=(af wr.heap.size 0)) Th).trans (by rw[Jf.out];exact(A0 hw2).trans rfl))
   have yV:=hid hb2;have HG2:=hid hg2;clear hW2 hb2 hw2 hg2 Ib cx;have hlen:(l.take i).length=i:=by rw[nk,<-HN.out];omega
   have HIv:Hid (∀V,Below wr.heap.size wr V->V.ownsRow w.heap.size 3 1 u4 i (D8 (l.take i))):=hid λV zR=>by
    have h:=A7 hiv.out.1 (A1.yX zR []) (λ_ _=>by simp);rw[hlen]at h;exact h
   have hti:¬((t:Int)<0):=by omega
   go_upto_region 7 with(go_at_call 142;refine(HIx.out _ (ah _ W2)).mono ?_;rintro e w3 ⟨rfl,hb3⟩;have zy:Hid (Below wr.heap.size wr w3):=hid (yV.out.trans (hb3.mono yV.out.size));clear hb3)
   have hs3:=zy.out.size
   go_wp2_with (at_builtin;refine jq _ rfl _ _ 45 rfl w.heap.size 3 iI (ab 0) 1 8 Tryz.underlying45 Io Ip Iq Ir rfl (by decide) _ _ _ rfl ((HIv.out w3 zy.out).alloc _) (af w3.heap.size 0) 1 1 [ab t] rfl rfl (dh (dw w3 _)) ?c2 (yF 1) ?c3 ?c4 ?c5 _ rfl ?_)
   case c2=>intro u hu;simp at hu;subst hu;rfl
   case c3=>unfold maxLen;omega
   case c4=>omega
   case c5=>simp;omega
   intro g3 Am w4 zO zM Fu Eh;have hk4:A1 w3 w4 u4.ownBlock.toList:=((A1.refl w3 _).alloc _).grown zM (λq hq=>.inl Fp);have Js:∀q∈u4.ownBlock.toList,w.heap.size<=q/\∃c,wr.heap[q]?=some (.cells c 3 (0,0)):=λq hq=>by
    have e:u4.ownBlock=some q:=by simpa using hq
    exact⟨(World.ownsRow.lt hiv.out.1 q e).1,BI hiv.out.1 e⟩
   have zV:Hid (Below w.heap.size w w4):=hid ((hb.out.trans (zy.out.mono (by omega))).trans (hk4.below (by omega) (λq hq=>(Js q hq).1)));have HG4:Hid (w4.heap[w.heap.size]?=some (.cells #[.slice yu nT yl,ae gN nN xY] 135 (0,0))):=hid ((hk4.block _ (by omega) (λhm=>by
    obtain⟨_,c,h1⟩:=Js _ hm;rw[hg.out]at h1;injection h1 with h1
    injection h1 with _ h1
    exact absurd h1 (by decide))).trans ((zy.out.block _ Va).trans hg.out))
   have HI4:Hid (D7 w4 w.heap.size (ae g3 (i+1) Am) (l.take (i+1))/\(i+1=0->ae g3 (i+1) Am=.slice none 0 0)):=hid (by
    refine⟨?_,λh=>by omega⟩;unfold D7;rw[Ab.out,lA,GK,hlen];exact zO)
   clear hlen zO zM Fu Eh hk4 Js t0 hiv;go_wp2
   go_roundw
   case rel=>exact⟨i+1,by omega,by go_num,HI4,zV,HG4⟩
   case measure=>simp[intOf];omega
  ·have hie:i=n:=by omega
   have HIv:Hid (D7 wr w.heap.size u4 l/\(l=[]->u4=.slice none 0 0)):=hid (by
    have h:=hiv.out;rw[show l.take i=l from by rw[hie,HN.out];exact mj]at h;exact⟨h.1,λe=>h.2 (by rw[hie,HN.out,e];rfl)⟩)
   clear hie;go_wp2
   go_ret2
   exact⟨u4,rfl,HIv.out,hb.out⟩
def F8 (m:Mk) (n k:Nat):Option (List Pt):=(m.rules[n]?).bind λrs=>rs[k]?
theorem LZ {k:Nat}{r:List Pt} (h:F8 m n k=some r):∃rs,m.rules[n]?=some rs/\rs[k]?=some r:=by
 unfold F8 at h;cases h1:m.rules[n]? with
 |none=>rw[h1]at h;cases h
 |some rs=>rw[h1]at h;exact⟨rs,rfl,h⟩
theorem OM {rs:List (List Pt)} (h:m.rules[n]?=some rs) (k:Nat):F8 m n k=rs[k]?:=by unfold F8;rw[h];rfl
theorem IX (m:Mk):Q2 (zg m) (F8 m):=λn rhs=>by
 rw[IB];constructor
 ·rintro⟨rs,h1,h2⟩
  obtain⟨k,hk,e⟩:=jr.1 h2;exact⟨k,by rw[OM h1,gE hk,e]⟩
 ·rintro⟨k,hk⟩
  obtain⟨rs,h1,h2⟩:=LZ hk;exact⟨rs,h1,mG h2⟩
theorem LG  (h:m.Good):Tx (F8 m):=λn k rhs hk=>by
 obtain⟨rs,h1,h2⟩:=LZ hk;have h3:=(h.head rs (EI h1).2 k rhs h2).1;cases rhs with
 |nil=>cases h3
 |cons a t=>injection h3 with h3;subst h3;exact⟨t,rfl⟩
theorem gL  (h:m.Good) {rhs:List Pt} (hk:F8 m n t=some rhs):n<m.rules.length/\t<m.yP.length/\rhs.length<=8/\B3 (zg m) rhs:=by
 obtain⟨rs,h1,h2⟩:=LZ hk;have hm:=(EI h1).2;have ht:=(yS.1 h2).1;have hc:=(h.c1 rs hm).2;have hl:=(h.head rs hm t rhs h2).2;have hr:(n,rhs)∈(zg m).rules:=(IX m n rhs).2 ⟨t,hk⟩;exact⟨(EI h1).1,by omega,by omega,(IU h).ps hr⟩
def Jy (m:Mk):List Nm:=m.rules.zipIdx.map λx=>(BL x.2,x.1)
def N0 (m:Mk):List ByteArray:=(List.range m.yP.length).map AA
theorem QT (m:Mk) {rs:List (List Pt)} (h:m.rules[n]?=some rs):(Jy m)[n]?=some (BL n,rs):=by
 unfold Jy;rw[gM,om,h];simp
theorem fD (m:Mk) {nm:Nm} (h:(Jy m)[n]?=some nm):m.rules[n]?=some nm.2:=by
 unfold Jy at h;rw[gM,om]at h;cases h1:m.rules[n]? with
 |none=>rw[h1]at h;cases h
 |some rs=>rw[h1]at h;injection h with h;subst h;rfl
theorem OE (m:Mk)  (ht:t<m.yP.length):nth (N0 m) t=AA t:=by
 unfold nth N0;rw[zh,gM,ng ht];rfl
theorem uY  (h:m.Good):UR (N0 m) m.yP.length:=λi j hi hj e=>by
 rw[OE m hi,OE m hj]at e;have h1:=RD i (by have:=h.t6;omega) j (by have:=h.t6;omega);rw[e]at h1;simpa using h1
theorem XC  (h:m.Good) (l:List Nat) (hl:∀t∈l,t<m.yP.length) (Gb:l.length<=40):∃b c,zP (zg m) [.yB 0] b/\Al (zg m) l b c/\c<=9000:=by
 obtain⟨r,hr,ht,h5⟩:=h.ab0 (n:=0) h.n1;have hps:=(IU h).ps hr;have key:∀r:List Pt,(∀p∈r,∃t,p=.tok t)->B3 (zg m) r->∃b:List Nat,zP (zg m) r b/\QU (zg m) b<=99*r.length:=by
  intro r
  induction r with
  |nil=>intro _ _;exact⟨[],.nil,bu _⟩
  |cons p r ih=>
   intro h1 h2;obtain⟨t,rfl⟩:=h1 p (by simp);obtain⟨b,h3,h4⟩:=ih (λp hp=>h1 p (by simp[hp])) h2.tail;refine⟨t::b,.tok h3,?_⟩;have h5:=(IU h).Vz t (h2.2 t (by simp));show(zg m).put t+QU (zg m) b<=99*(r.length+1);omega
 obtain⟨b,hb,hc⟩:=key r ht hps;refine⟨b,_,by have:=zP.yB hr hb (.nil);rwa [iq]at this,tI (zg m) l b,?_⟩;have:=PY (IU h) (row:=l) hl;have h6:99*l.length<=99*40:=yx _ Gb;have h7:99*r.length<=99*5:=yx _ h5;omega
end Go.Proofs.YtjjggdcnpndgjaaGreatDoor
