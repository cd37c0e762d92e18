import Derived.Test.YtjjggdcnpndgjaaGreatDoorHJ37
set_option linter.unusedSimpArgs false
set_option maxHeartbeats 8000000
set_option maxRecDepth 100000
namespace Go.Proofs.YtjjggdcnpndgjaaGreatDoor
open Go.RowKit Go.Shelf
variable {w:World}
section
section
variable {Q:zu}{W0:World}{cn ct:Nat->Nat->Nat->Wt}
theorem agR {P:Prop} (h:P:=by
  refine tB 0 hH ?_;refine tB 1 hH ?_;refine tB 2 hH ?_;refine tB 3 hH ?_;refine tB 4 hH ?_;refine tB 5 hH ?_;refine tB 6 hH ?_;refine tB 7 hH ?_;refine tB 9 hH ?_;refine tL ?_;refine tS 8 λK hK=>?_
  refine tM ?_
  go_simp;refine(HSp.out _ (ah _ wr).drew).mono ?_;rintro e w4 ⟨rfl,hb4⟩;try dsimp only
  refine hK.out _ _ ?_ λhH=>?_
  ·exact⟨A4 hb4 hH.1,A4 hb4 hH.2.1,A4 hb4 hH.2.2⟩
  clear hK K;refine tB 10 hH ?_;refine tL ?_;refine bk yg ?_ _;have zV:Hid (Below wr.heap.size wr w4):=hid ((ah _ wr).drew.trans hb4);clear hH hb4 t0 t1 t2;go_wp2
  go_roundw
  case rel=>exact⟨a+1,by omega,by omega,by go_num,hid (y6.out.trans (zV.out.mono y6.out.size))⟩
  case measure=>simp[intOf];omega):P:=h
theorem b9 (zL:Ez Q W0 cn ct) {q i k:Nat}{l:List Pt} (hq:BJ Q.yQ q=some l) (hik:i<=k) (hk:k<=Q.row.length) (hlt:(ct q i k).1<AC)
  (hsub:∀p ps j,l=p::ps->i<=j->j<=k->ct q i k=D3 Q.T.N Q.row cn ct p q i j k->UJ Q W0 cn p i j/\U7 Q W0 ct (q+1) ps j k/\(CZ Q.T.N Q.row cn p i j).1+(ct (q+1) j k).1=(ct q i k).1):U7 Q W0 ct q l i k:=by
 intro W sb v E hb hS hE;have hQ:=zL.Mv hb;have Hu:=hQ.Em;have Bk:=hQ.Ql;have Oc:=hQ.Qm;have hsw:sb<W.heap.size:=ak hS.blk;have hBW:W0.heap.size<=W.heap.size:=hb.size;have hgB:Q.gp<W0.heap.size:=zL.inn.Dd;have aas:=hQ.Mp;have abj:=hQ.Uo;have hqQ:=fJ hq;obtain⟨gi,gq,ajN,Iw,cgi,cgq,Yv⟩:=zL.tlv hb hik hk;obtain⟨kq1,kq2⟩:=Yv q hqQ;have s0:W.cell? (af sb 0)=some (ac Q.wb):=(A0 hS.blk).trans rfl;have e3:W.cell? (af Q.wb 3)=some (ae Q.gt Q.yQ.length Q.ct):=(A0 hQ.blk).trans rfl;have e5:W.cell? (af Q.wb 5)=some (ae Q.gp (Q.row.length+1) (Q.row.length+1)):=(A0 hQ.blk).trans rfl;obtain⟨L1,Cb⟩:=qF (Q.row.length+1);obtain⟨nQ,Dw⟩:=qF (Q.yQ.length);have hiL:((i:Int)< (L1:Int)):=by omega
 have hkL:((k:Int)< (L1:Int)):=by omega
 rw[<-Cb]at e5 cgi;rw[<-Dw]at e3 cgq Yv Bk Oc hqQ;have hqi:((q:Int)< (nQ:Int)):=by omega
 obtain⟨c1,hc1⟩:=qE ((ct q i k).1);obtain⟨c2,hc2⟩:=qE ((ct q i k).2);have Vb:Hid (ct q i k=(c1,c2)):=hid (vv hc1 hc2);rw[hc1]at kq1 hlt hE ⊢;rw[hc2]at kq2;have Ey:=hid zL;have HQl:Hid (BJ Q.yQ q=some l):=hid hq;have HSub:=hid hsub;have HB:=hid hb;have HS:=hid hS;have Mt:Hid (nQ=Q.yQ.length/\L1=Q.row.length+1):=hid ⟨Dw,Cb⟩;unfold AC at hlt;clear Cb Dw hQ hc1 hc2 hq hsub zL hb hS Yv;show Calls Tryz.prog 223 #[ac sb,ab q,ab i,ab k] W _
 by_cases h0:c1=0
 ·subst h0
  go_enter Tryz.func223,Tryz.ntmps223
  have b0:=BF W #[ab 0,ab c2] 313 0;go_wp2;refine xm (ql rfl _ _ _) rfl ?_;have hQ:=Ey.out.Mv HB.out;have hz:=pR hQ.tab.fc.gr.ok Ey.out.gnf Ey.out.yQ Ey.out.pt2 hQ.rl Ey.out.wd _ q i k l (yF _) HQl.out hik hk (by rw[Vb.out]);have hr:=za.keeps (N:=Q.T.N) (row:=Q.row) (k - i) i (by omega);rw[show i+(k - i)=k by omega]at hr;exact⟨rfl,v,[],_,by rw[iq];exact HS.out.keeps ((A1.refl W []).alloc _) (by simp) (λ_ _=>by simp),⟨((A1.refl W []).alloc _).mono (λq h=>by cases h),BH.refl _ _⟩,hr,hz⟩
 ·-- the tail has a first part
  obtain⟨p,ps,hl⟩:∃p ps,l=p::ps:=by
   cases l with
   |nil=>
    exfalso;have h1:=(Ey.out.wd i k hik hk).Hr q HQl.out;rw[Vb.out]at h1;split at h1
    ·injection h1 with h1 _;exact h0 h1
    ·injection h1 with h1 _;unfold AC at h1;omega
   |cons p ps=>exact⟨p,ps,rfl⟩
  subst hl;obtain⟨j0,hj1,hj2,hj3⟩:∃j,i<=j/\j<=k/\ct q i k=D3 Q.T.N Q.row cn ct p q i j k:=by
   rcases(Ey.out.wd i k hik hk).Mg q p ps HQl.out with h1 |h1
   ·rw[Vb.out]at h1
    injection h1 with h1 _
    unfold AC at h1;omega
   ·exact h1
  have htq:Q.yQ[q]?=some (some p):=by
   rcases RQ Ey.out.tlk HQl.out with⟨h1,_⟩ | ⟨p',ps',h1,h2⟩
   ·cases h1
   ·injection h1 with h1 _;rw[h1];exact h2
  obtain⟨ajT,_⟩:=MM Ey.out.tlk htq;have hc0:((c1:Int)==0)=false:=by rw[jz];omega
  obtain⟨W2,hW2⟩:=qE (W.alloc (.cells #[ab c1,ab c2] 313));have hk2:A1 W W2 []:=by rw[<-hW2];exact(A1.refl W []).alloc _
  have hl2:W2.heap[W.heap.size]?=some (.cells #[ab c1,ab c2] 313 (0,0)):=by rw[<-hW2];exact ay W _
  have hs2:W.heap.size<W2.heap.size:=ak hl2;have hb2:Below W0.heap.size W0 W2:=HB.out.trans (hk2.below hBW (λq h=>by cases h));have hS2:DI W2 sb W0.heap.size Q.wb v E:=HS.out.keeps hk2 (by simp) (λ_ _=>by simp);have Ak:=hid hW2;have HL2:=hid hl2;have yV:=hid hb2;have HS2:=hid hS2;have Fc:=hid hk2;have HJ:Hid (D3 Q.T.N Q.row cn ct p q i j0 k=(c1,c2)):=hid (by rw[<-hj3];exact Vb.out);have HTq:=hid htq;have ajU:Hid (∀V a,Below W2.heap.size W2 V->i<=a->a<=k->Calls Tryz.prog 234 #[ac Q.wb,ab q,ab i,ab a,ab k] V λe w'=>e=.returned (Bz (D3 Q.T.N Q.row cn ct p q i a k))/\Below V.heap.size V w'):=hid λV a zR h1 h2=>by
   have hbW:=yV.out.trans (zR.mono (by omega));have hQ:=Ey.out.Mv hbW;have ht:=Ey.out.pcs.st (q+1) a k;unfold AC FZ at ht;exact RH (cn:=cn) (ct:=ct) hQ (B:=W0.heap.size) htq ajT h1 h2 hk (λn _=>Ey.out.nm hbW h1 (by omega)) (Ey.out.tlv hbW h2 hk) hbW.size (TF hQ.tab.fc.gr.ok hQ.rl hQ.Em Ey.out.pcs.sn (hQ.Up q p htq) i a) ⟨by omega,ht.2⟩
  have Ro:(0:Int)<=(q:Int):=by omega
  clear hj3 hW2 hl2 hb2 hS2 hk2 htq
  go_enter Tryz.func223,Tryz.ntmps223
  have b0:=BF W #[ab c1,ab c2] 313 0
  go_wp2_with fail
  rw[Ak.out];clear b0
  go_loopw [9] (λz wr=>∃(a:Nat),i<=a/\a<=j0/\z=ab a/\Hid (Below W2.heap.size W2 wr)) (λz _=>j0 - (intOf z).toNat)
  case atStart=>exact⟨i,yF _,hj1,rfl,hid (ah _ _)⟩
  case round=>
   obtain⟨a,ha1,ha2,rfl,y6⟩:=hrel;have Va:=y6.out.size;obtain⟨y,hy⟩:=qE (D3 Q.T.N Q.row cn ct p q i a k);obtain⟨y1,y2⟩:=y;have HSp:Hid (∀V,Below wr.heap.size wr V->Calls Tryz.prog 234 #[ac Q.wb,ab q,ab i,ab a,ab k] V λe w'=>e=.returned (.agg #[ab y1,ab y2])/\Below V.heap.size V w'):=hid λV zR=>by
    have h:=ajU.out V a (y6.out.trans (zR.mono Va)) ha1 (by omega);rw[hy]at h;exact h
   have t0:wr.cell? (af sb 0)=some (ac Q.wb):=(y6.out.cell (by show sb<W2.heap.size;omega)).trans ((A0 HS2.out.blk).trans rfl);have t1:wr.cell? (af W.heap.size 0)=some (ab c1):=(y6.out.cell Th).trans ((A0 HL2.out).trans rfl);have t2:wr.cell? (af W.heap.size 1)=some (ab c2):=(y6.out.cell Th).trans ((A0 HL2.out).trans rfl);have HY:=hid hy;clear hy
   by_cases hne:y1=c1
   ·subst hne
    by_cases aaP:y2=c2
    ·subst aaP
     go_upto_region 3 with fail
     refine dn (S:=λw'=>w'.cell? (af sb 0)=some (ac Q.wb)/\w'.cell? (af W.heap.size 0)=some (ab y1)/\w'.cell? (af W.heap.size 1)=some (ab y2)) yg ⟨t0,t1,t2⟩ (λhH=>?_);refine tB 0 hH ?_;refine tB 1 hH ?_;refine tB 2 hH ?_;refine tB 3 hH ?_;refine tB 4 hH ?_;refine tB 5 hH ?_;refine tB 6 hH ?_;refine tB 7 hH ?_;refine tB 9 hH ?_;refine tL ?_;refine tS 8 λK hK=>?_
     refine tM ?_
     go_simp;refine(HSp.out _ (ah _ wr).drew).mono ?_;rintro e w4 ⟨rfl,hb4⟩;try dsimp only
     refine hK.out _ _ ?_ λhH=>?_
     ·exact⟨A4 hb4 hH.1,A4 hb4 hH.2.1,A4 hb4 hH.2.2⟩
     clear hK K;refine tB 10 hH ?_;refine tL ?_;refine bk yg ?_ _;have zV:Hid (Below wr.heap.size wr w4):=hid ((ah _ wr).drew.trans hb4);clear hH hb4 t0 t1 t2;have hEq:ct q i k=D3 Q.T.N Q.row cn ct p q i a k:=by rw[Vb.out,HY.out]
     obtain⟨hPC,hTC,hsum⟩:=HSub.out p ps a rfl ha1 (by omega) hEq;rw[Vb.out]at hsum;have hsum:(CZ Q.T.N Q.row cn p i a).1+(ct (q+1) a k).1=y1:=hsum;have Mw:Below W2.heap.size W2 w4:=y6.out.trans (zV.out.mono Va);have alO:=Mw.size;have Yw:Below W0.heap.size W0 w4:=yV.out.trans (Mw.mono (by omega));have Js:DI w4 sb W0.heap.size Q.wb v E:=HS2.out.keeps (A1.yX Mw []) (by simp) (λ_ _=>by simp);have hQ4:=Ey.out.Mv Yw;obtain⟨_,r1,r2⟩:=hQ4.Qk q _ HTq.out;have r0:w4.cell? (af sb 0)=some (ac Q.wb):=(A0 Js.blk).trans rfl;have r3:w4.cell? (af Q.wb 3)=some (ae Q.gt nQ Q.ct):=by rw[Mt.out.1];exact(A0 hQ4.blk).trans rfl
     replace r1:w4.cell? (af Q.gt (q*3+1))=some (.bool (AQ p)):=r1;replace r2:w4.cell? (af Q.gt (q*3+2))=some (ab (AP p)):=r2;have HPa:Hid (Calls Tryz.prog 146 #[ac sb,.agg #[.bool (AQ p),ab (AP p)],ab i,ab a] w4 λe w'=>e=.returned (.tuple #[])/\∃(v':Value) (F:List ze) (b:List Nat),DI w' sb W0.heap.size Q.wb v' (E++F)/\(A1 w4 w' (sb::v.ownBlock.toList)/\BH w4.heap.size v v')/\za Q.T.N Q.row i F a b (CZ Q.T.N Q.row cn p i a).1/\zP Q.T.N [p] b):=hid (hPC w4 sb v E Yw Js (by omega));have Yx:Hid (∀V v1 F b1,Below W0.heap.size W0 V->DI V sb W0.heap.size Q.wb v1 (E++F)->za Q.T.N Q.row i F a b1 (CZ Q.T.N Q.row cn p i a).1->Calls Tryz.prog 223 #[ac sb,ab ((q:Int)+1),ab a,ab k] V λe w'=>e=.returned (.tuple #[])/\∃(v':Value) (G:List ze) (b:List Nat),DI w' sb W0.heap.size Q.wb v' (E++F++G)/\(A1 V w' (sb::v1.ownBlock.toList)/\BH V.heap.size v1 v')/\za Q.T.N Q.row a G k b (ct (q+1) a k).1/\zP Q.T.N ps b):=hid λV v1 F b1 zR hSV hR=>hTC V sb v1 (E++F) zR hSV (by
      have:=hR.len hQ4.tab.fc.gr.ok hQ4.rl;rw[lA];omega)
     obtain⟨bn,zY⟩:=qE (AQ p);obtain⟨np,hnp⟩:=qE (AP p);rw[zY]at r1 HPa;rw[hnp]at r2 HPa;have ajV:=hid hsum;have Ht:Hid (A1 W w4 []):=hid (Fc.out.trans (A1.yX Mw []));have Xk:=hid Yw;have Md:=hid Js;have alP:IntKind.i64.wrap ((q:Int)+1)=(q:Int)+1:=by rw[Cy];omega
     have ajW:W.heap.size<=w4.heap.size:=by omega
     clear hEq hPC hTC hsum Mw Yw Js hQ4 zY hnp
     go_wp2_with (first
      | (go_at_call 146;refine HPa.out.mono ?_;rintro e w5 ⟨rfl,v1,F1,b1,g1,⟨g2,g3⟩,g4,g5⟩;have H5:=hid (And.intro g1 (And.intro (And.intro g2 g3) (And.intro g4 g5)));clear g1 g2 g3 g4 g5)
      | (go_at_call 223;refine(Yx.out _ _ _ _ (Below.abu Xk.out rfl Md.out H5.out.2.1.1) H5.out.1 H5.out.2.2.1).mono ?_;rintro e w6 ⟨rfl,v2,F2,b2,g1,⟨g2,g3⟩,g4,g5⟩;have H6:=hid (And.intro g1 (And.intro (And.intro g2 g3) (And.intro g4 g5)));clear g1 g2 g3 g4 g5))
     go_end0
     obtain⟨a1,⟨a2,a3⟩,a4,a5⟩:=H5.out;obtain⟨z1,⟨z2,z3⟩,z4,z5⟩:=H6.out;have hrun:=a4.append z4;rw[ajV.out]at hrun;refine⟨rfl,v2,F1++F2,b1++b2,by rw[<-aA];exact z1,⟨(Ht.out.mono (λq h=>by cases h)).trans (a2.fresh z2 a3 (yF _)),(BH.refl _ v).trans (a3.trans z3 a2.size) ajW⟩,hrun,?_⟩;cases p with
     |tok t=>
      cases a5 with
      |tok h=>cases h;exact .tok z5
     |yB n=>
      cases a5 with
      |yB h1 h2 h3=>cases h3;rw[iq];exact .yB h1 h2 z5
    ·have ajX:¬((y2:Int)=(c2:Int)):=by omega
     have haj:a<j0:=by
      rcases jw a j0 with h |h
      ·exact h
      ·exfalso
       have e:a=j0:=by omega
       have h1:=HY.out;rw[e,HJ.out]at h1;injection h1 with _ h1
       exact aaP h1.symm
     go_upto_region 3 with fail
     refine dn (S:=λw'=>w'.cell? (af sb 0)=some (ac Q.wb)/\w'.cell? (af W.heap.size 0)=some (ab y1)/\w'.cell? (af W.heap.size 1)=some (ab c2)) yg ⟨t0,t1,t2⟩ (λhH=>?_);exact agR
   ·have ajX:¬((y1:Int)=(c1:Int)):=by omega
    have haj:a<j0:=by
     rcases jw a j0 with h |h
     ·exact h
     ·exfalso
      have e:a=j0:=by omega
      have h1:=HY.out;rw[e,HJ.out]at h1;injection h1 with h1 _
      exact hne h1.symm
    go_upto_region 3 with fail
    refine dn (S:=λw'=>w'.cell? (af sb 0)=some (ac Q.wb)/\w'.cell? (af W.heap.size 0)=some (ab c1)/\w'.cell? (af W.heap.size 1)=some (ab c2)) yg ⟨t0,t1,t2⟩ (λhH=>?_);exact agR
theorem qJ (zL:Ez Q W0 cn ct):∀m q i k l,LP (BJ Q.yQ) q i k (ct q i k).1<m->BJ Q.yQ q=some l->i<=k->k<=Q.row.length->(ct q i k).1<AC->U7 Q W0 ct q l i k:=by
 intro m
 induction m with
 |zero=>intro q i k l h;omega
 |succ m ih=>
  intro q i k l hm hq hik hk hlt;refine b9 zL hq hik hk hlt (λp ps j hl h1 h2 e=>?_);subst hl;have hN:=zL.inn.tab.fc.gr.ok;have Ae:=zL.pt hq (eo ..);obtain⟨s1,s2,s3⟩:=TE hN zL.gnf zL.yQ zL.wd hq (λt e=>by subst e;exact Ae) (λn e=>by subst e;exact Ae) hlt h1 h2 hk e;refine⟨dK zL Ae h1 (by omega) (by omega) (λn hn=>?_),ih (q+1) j k ps (by omega) (zL.yQ.next _ _ _ hq) h2 hk (by omega),s1⟩;subst hn;have hc:(CZ Q.T.N Q.row cn (.yB n) i j).1=(cn n i j).1:=rfl;refine SR zL Ae h1 (by omega) (by omega) (λr l' hr hl' e'=>?_);obtain⟨s4,s5⟩:=s3 n rfl r hr e';exact ih r i j l' (by omega) hl' h1 (by omega) (by omega)
theorem oQ (zL:Ez Q W0 cn ct) {n i k:Nat} (hn:n<Q.T.N.nN) (hik:i<=k) (hk:k<=Q.row.length) (hlt:(cn n i k).1<AC):ZD Q W0 cn n i k:=by
 refine SR zL hn hik hk hlt (λr l' hr hl' e'=>?_);exact qJ zL _ r i k l' (Nat.lt_succ_self _) hl' hik hk (by rw[e']at hlt;simpa[named,GD] using hlt)
end
end
section
section
variable {N:NG}{tl:Nat->Option (List Pt)}{hd:Nat->Nat->Prop}{row:List Nat}{cn ct:Nat->Nat->Nat->Wt}
theorem iA (hT:Pz N tl hd) (hW:∀i k,i<=k->k<=row.length->EH N tl hd row cn ct i k) {b:List Nat}{c:Nat} (hb:zP N [.yB 0] b) (ha:Al N row b c):∃a,a<=row.length/\(cn 0 0 a).1+E2 N row a row.length<=c:=by
 obtain⟨rhs,h1,h2⟩:=WQ hb;obtain⟨q,h3,h4⟩:=hT.head 0 rhs h1;obtain⟨a1,d,h5,h6⟩:=X1 hT (MD hW) h2 q [] row [] c h4 (by simp) ha;have hl:a1.length<=row.length:=by rw[h5];simp
 have h8:=(MD hW).rule 0 q 0 a1.length h3 (by omega) hl;simp only[iw,jl]at h6;have h9:E2 N row a1.length row.length=AU N d:=by
  have:=XO (N:=N) (a:=a1) (d:=d);rw[<-h5]at this;exact this
 have h8:(cn 0 0 a1.length).1<=(ct q 0 a1.length).1:=h8;exact⟨a1.length,hl,by omega⟩
end
theorem nC {Q:zu}{cn ct:Nat->Nat->Nat->Wt} (hT:Pz Q.T.N (BJ Q.yQ) (FJ Q.hds)) (hW:∀i k,i<=k->k<=Q.row.length->EH Q.T.N (BJ Q.yQ) (FJ Q.hds) Q.row cn ct i k) (hex:∃b c,zP Q.T.N [.yB 0] b/\Al Q.T.N Q.row b c/\c<AC) {e:Nat} (he:e=(F6 (DV Q cn) (Q.row.length+1)).2):
  e<=Q.row.length/\(cn 0 0 e).1+E2 Q.T.N Q.row e Q.row.length<AC/\∀b c,zP Q.T.N [.yB 0] b->Al Q.T.N Q.row b c->(cn 0 0 e).1+E2 Q.T.N Q.row e Q.row.length<=c:=by
 obtain⟨h1,h2,h3⟩:=gK (DV Q cn) (Q.row.length+1);have aaF:∀a,(DV Q cn a).1=(cn 0 0 a).1+E2 Q.T.N Q.row a Q.row.length:=λa=>rfl
 obtain⟨b,c,hb,ha,hc⟩:=hex;obtain⟨a,h4,h5⟩:=iA hT hW hb ha;have h6:=K9 (h3 a (by omega));rw[aaF]at h6;have h7:(F6 (DV Q cn) (Q.row.length+1)).1=DV Q cn e:=by
  rcases fH (DV Q cn) (Q.row.length+1)with h | ⟨_,h⟩
  ·rw[h]at h6;simp only at h6;omega
  ·rw[h,he]
 have hmin:∀a,a<=Q.row.length->(cn 0 0 e).1+E2 Q.T.N Q.row e Q.row.length<=(cn 0 0 a).1+E2 Q.T.N Q.row a Q.row.length:=λa ha=>by
  have:=K9 (h3 a (by omega));rw[h7,aaF,aaF]at this;exact this
 refine⟨by omega,?_,λb' c' hb' ha'=>dM hT hW hmin hb' ha'⟩;have:=hmin a h4;omega
theorem ZA {T:zn} (hI:T.In w) (Dk:T.Ok) {row:List Nat}{rv:Value} (hrw:Cw w w.heap.size rv row) (hrl:∀x∈row,x<T.N.nT) (Gx:row.length<=100) (Fv:0< (BD T.N.rules).1.length)
  (hex:∃b c,zP T.N [.yB 0] b/\Al T.N row b c/\c<AC):
  Calls Tryz.prog 94 #[ac T.tb,rv] w λe w'=>∃(v:Value) (B:Nat) (E:List ze) (b:List Nat) (c:Nat),e=.returned v/\w.heap.size<=B/\w'.ownsRow B 201 5 v E.length (DM E)/\c<AC/\za T.N row 0 E row.length b c/\zP T.N [.yB 0] b/\(∀b' c',zP T.N [.yB 0] b'->Al T.N row b' c'->c<=c')/\Below w.heap.size w w':=by
 have HWe:Hid (Calls Tryz.prog 144 #[ac T.tb,rv] w λe w'=>∃(Q:zu) (cn ct:Nat->Nat->Nat->Wt),e=.returned (ac Q.wb)/\Q.T=T/\Q.row=row/\Q.yQ=(BD T.N.rules).1/\Q.hds=M5 T.N.nN (BD T.N.rules).2/\Q.In w'/\M4 Q w' 0 cn ct/\Below w.heap.size w w'):=hid (kX hI hrw hrl Gx Fv);have Ab:Hid (Xb T.N/\Pz T.N (BJ (BD T.N.rules).1) (FJ (M5 T.N.nN (BD T.N.rules).2))):=hid ⟨lZ Dk.of Dk.Xr,sW hI.fc.gr.ok⟩;have HEx:=hid hex;obtain⟨aR,cR,rfl,_,_⟩:=hrw;have h0N:0<T.N.nN:=hI.fc.gr.ok.pos;have Bk:T.tb<w.heap.size:=hI.bd.tb;clear hI Dk hrl Fv hex
 go_enter Tryz.func94,Tryz.ntmps94
 go_wp2_with (first
  | (go_at_call 144;refine HWe.out.mono ?_;rintro e W0 ⟨Q,cn,ct,rfl,q1,q2,q3,q4,q5,q6,q7⟩;have HQ:=hid (And.intro q1 (And.intro q2 (And.intro q3 (And.intro q4 (And.intro q5 (And.intro q6 q7))))));clear q1 q2 q3 q4 q5 q6 q7)
  |fail)
 obtain⟨q1,q2,q3,q4,q5,q6,q7⟩:=HQ.out;clear HQ HWe;subst q1;subst q2;have zL:Ez Q W0 cn ct:=⟨q5,q6,by rw[q3];exact(PP Q.T.N.rules).ok,by rw[q3,q4];exact Ab.out.2,Ab.out.1⟩;obtain⟨e,he⟩:=qF ((F6 (DV Q cn) (Q.row.length+1)).2);obtain⟨hel,Yy,hem⟩:=nC zL.yQ zL.wd HEx.out he;obtain⟨W1,hW1⟩:=qE (W0.alloc (.cells #[ac Q.wb,.slice none 0 0] 273));have hk1:A1 W0 W1 []:=by rw[<-hW1];exact(A1.refl W0 []).alloc _
 have hb1:W1.heap[W0.heap.size]?=some (.cells #[ac Q.wb,.slice none 0 0] 273 (0,0)):=by rw[<-hW1];exact ay W0 _
 have Jr:Below W0.heap.size W0 W1:=hk1.below (yF _) (λq h=>by cases h);have hS1:DI W1 W0.heap.size W0.heap.size Q.wb (.slice none 0 0) []:=⟨hb1,je _ _ _ _,yF _⟩;have hgB:Q.gp<W0.heap.size:=q5.Dd;have Je:w.heap.size<=W0.heap.size:=q7.size;have Sd:Hid (Calls Tryz.prog 145 #[ac W0.heap.size] W1 λe' w'=>e'=.returned (ab e)/\Below W1.heap.size W1 w'):=hid (by
  rw[he];exact VL (zL.Mv Jr) hS1 hgB Jr.size q6.sn (λa ha=>zL.nm Jr (bu _) ha))
 have ajY:Hid (∀V,Below W1.heap.size W1 V->Calls Tryz.prog 146 #[ac W0.heap.size,.agg #[.bool true,ab 0],ab 0,ab e] V λe' w'=>e'=.returned (.tuple #[])/\∃(v':Value) (F:List ze) (b:List Nat),DI w' W0.heap.size W0.heap.size Q.wb v' F/\(A1 V w' (W0.heap.size::(Value.slice none 0 0).ownBlock.toList)/\BH V.heap.size (.slice none 0 0) v')/\za Q.T.N Q.row 0 F e b (cn 0 0 e).1/\zP Q.T.N [.yB 0] b):=hid λV zR=>by
  have hbW:Below W0.heap.size W0 V:=Jr.trans (zR.mono Jr.size);have h:=SX (oQ zL (n:=0) (i:=0) (k:=e) h0N (bu _) hel (by omega)) V W0.heap.size (.slice none 0 0) [] hbW (hS1.keeps (A1.yX zR []) (by simp) (λ_ _=>by simp)) (by
   show 0+(cn 0 0 e).1<=3000000;unfold AC at Yy;omega)
  exact h
 have agS:Hid (∀V v1 F b,Below W0.heap.size W0 V->DI V W0.heap.size W0.heap.size Q.wb v1 F->za Q.T.N Q.row 0 F e b (cn 0 0 e).1->Calls Tryz.prog 147 #[ac W0.heap.size,ab e,ab Q.row.length] V λe' w'=>e'=.returned (.tuple #[])/\∃v',DI w' W0.heap.size W0.heap.size Q.wb v' (F++DP Q.T.N Q.row e (Q.row.length - e))/\A1 V w' (W0.heap.size::v1.ownBlock.toList)/\BH V.heap.size v1 v'):=hid λV v1 F b zR hSV hR=>by
  have hQ:=zL.Mv zR;have hl:=hR.len hQ.tab.fc.gr.ok hQ.rl;exact QK hQ hSV hgB zR.size hel (yF _) (by unfold AC at Yy;omega)
 obtain⟨d0,d1,_⟩:=(zL.Mv Jr).tab.tv.Ar;have alQ:Q.T.tb<W0.heap.size:=by omega
 have HN:Hid (Q.T.N.Ok/\∀x∈Q.row,x<Q.T.N.nT):=hid ⟨q5.tab.fc.gr.ok,q5.rl⟩;obtain⟨nT,zo⟩:=qF (Q.T.N.nT);obtain⟨nN,yY⟩:=qF (Q.T.N.nN);obtain⟨L,hL⟩:=qF (Q.row.length);rw[<-zo]at d0;rw[<-yY]at d1;rw[<-hL]at agS hel Yy hem Gx ⊢;have HL:=hid hL;have agT:=hid (And.intro Yy hem);have yR:=hid Jr;have Yd:=hid hS1;have H7:=hid q7;have hs1:W0.heap.size<W1.heap.size:=ak hb1;rw[hW1];clear hW1 hk1 hb1 Jr hS1 he hem Yy zo yY hL zL q3 q4 q5 q6 q7
 go_wp2_with (first
  | (go_at_call 145;refine Sd.out.mono ?_;rintro e' w2 ⟨rfl,hb2⟩;have H2:=hid hb2;have d2:=(hb2.cell (p:=(af Q.T.tb 0)) (by show Q.T.tb<W1.heap.size;omega)).trans d0;have d3:=(hb2.cell (p:=(af Q.T.tb 1)) (by show Q.T.tb<W1.heap.size;omega)).trans d1;clear hb2 d0 d1)
  | (go_at_call 118;refine(N9 _ _ _).mono ?_;rintro e' w3 ⟨rfl,hb3⟩;have H3:Hid (Below W1.heap.size W1 w3):=hid (H2.out.trans (hb3.mono H2.out.size));clear hb3)
  | (go_at_call 146;refine(ajY.out _ H3.out).mono ?_;rintro e' w4 ⟨rfl,v1,F,b,g1,⟨g2,g3⟩,g4,g5⟩;have H4:=hid (And.intro g1 (And.intro g2 (And.intro g4 g5)));clear g1 g2 g3 g4 g5)
  | (go_at_call 147;refine(agS.out _ _ _ _ (Below.abu (yR.out.trans (H3.out.mono yR.out.size)) rfl (Yd.out.keeps (A1.yX H3.out []) (by simp) (λ_ _=>by simp)) H4.out.2.1) H4.out.1 H4.out.2.2.1).mono ?_;rintro e' w5 ⟨rfl,v2,g1,g2,g3⟩;have H5:=hid (And.intro g1 g2);have c5:w5.cell? (af W0.heap.size 1)=some v2:=(A0 g1.blk).trans rfl;clear g1 g2 g3))
 go_ret;have hr:=za.zk (N:=Q.T.N) (row:=Q.row) (L - e) e Zv;rw[show e+(L - e)=L by omega]at hr;have hrun:=H4.out.2.2.1.append hr;rw[iq]at hrun;refine⟨v2,W0.heap.size,_,b,_,rfl,Je,H5.out.1.row,agT.out.1,?_,H4.out.2.2.2,agT.out.2,?_⟩
 ·have e1:E2 Q.T.N Q.row e L=AU Q.T.N ((Q.row.drop e).take (L - e)):=rfl
  rw[e1,<-HL.out];exact hrun
 ·have Vc:=Below.abu (yR.out.trans (H3.out.mono yR.out.size)) rfl (Yd.out.keeps (A1.yX H3.out []) (by simp) (λ_ _=>by simp)) H4.out.2.1
  exact H7.out.trans ((Below.abu Vc rfl H4.out.1 H5.out.2).mono Je)
end
theorem O6 {B B' e sz n:Nat}{v:Value}{xs:List Value} (h:w.ownsRow B e sz v n xs) (hB:B'<=B):w.ownsRow B' e sz v n xs:=by
 obtain⟨h1,h2⟩:=h;refine⟨h1,?_⟩
 rcases h2 with h2 | ⟨g,cap,cur,hv,hg,r⟩
 ·exact .inl h2
 ·exact .inr ⟨g,cap,cur,hv,y5 hB hg,r⟩
theorem XX {T:zn} (hT:T.Ok)  (hI:T.In w) {l:List Nat}{rv:Value} (hr:wA w w.heap.size rv l) (hl:∀x∈l,x<T.N.nT) (hlen:l.length<=10000):
  Calls Tryz.prog 73 #[ac T.tb,rv] w λe w'=>Below w.heap.size w w'/\
   ((∃S v,zJ T.yN [.yB 0] l S/\e=.returned (.tuple #[v,ab (-1),ab 0])/\w'.ownsRow w.heap.size 129 3 v S.length (BG (S.map (MW T))))\/
    (∃i:Nat,M0 T l i/\e=.returned (.tuple #[.slice none 0 0,ab i,ab 0]))):=by
 obtain⟨iN,Hx,Nr,Ns,Nt⟩:=jc Tryz.infoB129;obtain⟨iI,Io,Ip,Iq,Ir⟩:=jc Tryz.infoX3;obtain⟨d0,d1,_⟩:=hI.tv.Ar;have zW:=hI.bd;have Cj:T.N.nT<=20:=hI.fc.gr.Aj;have hlt:T.tb<w.heap.size:=zW.tb;have Gu:Hid (∀W,Below w.heap.size w W->T.In W):=hid λW hb=>hI.below zW hb
 have HCl:Hid (∀W,Below w.heap.size w W->Calls Tryz.prog 114 #[rv] W λe w'=>∃v',e=.returned v'/\D7 w' W.heap.size v' l/\Below W.heap.size W w'):=hid λW hb=>kN W w.heap.size hb.size rv l ⟨hr.1.below hb,hr.2⟩ (by omega)
 have HL:Hid (∀x∈l,x<T.N.nT):=hid hl;obtain⟨n,hn⟩:=qF (l.length);have HN:Hid (n=l.length):=hid hn;rw[<-hn]at hlen;clear hI hr hl hn
 go_enter Tryz.func73,Tryz.ntmps73
 go_upto_region 1 with fail
 refine dn (S:=λw'=>w'.cell? (af T.tb 0)=some (.slice T.yu T.N.nT T.yl)/\w'.cell? (af T.tb 1)=some (ae T.gN T.N.nN T.xY)) yg ⟨d0,d1⟩ (λhH=>?_);refine tB 0 hH ?_;refine tB 2 hH ?_;refine tB 3 hH ?_;refine tB 4 hH ?_;refine tB 5 hH ?_;refine tB 6 hH ?_;refine tL ?_;refine tS 1 λK hK=>?_
 refine tM ?_
 go_simp;refine(HCl.out _ (ah _ w).drew).mono ?_;rintro e w1 ⟨v1,rfl,hv1,hbc⟩;try dsimp only
 refine hK.out _ _ ?_ λhH=>?_
 ·exact⟨(hbc.cell (by exact hlt)).trans hH.1,(hbc.cell (by exact hlt)).trans hH.2⟩
 clear hK K;refine tL ?_;have hs1:w.heap.size<=w1.heap.size:=hbc.size;have hb1:Below w.heap.size w w1:=(ah _ w).drew.trans hbc;refine tS 7 λK hK=>?_
 refine tM ?_
 go_simp;refine(MN _ _ _ _ _ _ _).mono ?_;rintro e w2 ⟨rfl,Hz⟩;try dsimp only
 refine hK.out _ _ ?_ λhH=>?_
 ·exact⟨(Hz.cell (by show T.tb<w1.heap.size;omega)).trans hH.1,(Hz.cell (by show T.tb<w1.heap.size;omega)).trans hH.2⟩
 clear hK K;refine tL ?_;have hs2:w1.heap.size<=w2.heap.size:=Hz.size;have hb2:Below w.heap.size w w2:=hb1.trans (Hz.mono hs1);have HO2:Hid (D7 w2 w.heap.size v1 l):=hid (A7 (hv1) (A1.yX Hz []) (by simp));have agU:some T.tb≠v1.ownBlock:=λe=>by have h1:=(HO2.out.lt _ e.symm).1;omega
 refine tS 8 λK hK=>?_
 refine tM ?_;go_simp;refine hK.out _ _ ?_ λhH=>?_
 ·exact⟨A2 _ hH.1,A2 _ hH.2⟩
 clear hK K;refine tL ?_;have agV:Hid (w2.ownsRow w.heap.size 3 1 v1 n (D8 l)):=hid (by rw[HN.out];exact HO2.out);refine tS 9 λK hK=>?_
 refine tM ?_;rw[aq (by rfl)];refine mz _ (.tmp 13) (.tmp 20) 45 rfl w.heap.size 3 iI (ab 0) 1 8 Tryz.underlying45 Io Ip Iq Ir rfl (by decide) v1 _ _ rfl (agV.out.alloc _) (af w2.heap.size 0) 1 1 [ab T.N.nT] rfl rfl (dh (fr:=(0,0)) (dw w2 _)) Fb (by omega) zX (by omega) yM _ rfl ?_;intro g2 cap2 w3 hown hgrow hat Bv;refine hK.out _ _ ?_ λhH=>?_
 ·exact⟨(hgrow.cell_far _ yM (by exact agU)).trans hH.1,(hgrow.cell_far _ yM (by exact agU)).trans hH.2⟩
 clear hK K;refine tL ?_;refine tB 10 hH ?_;refine tL ?_;refine bk yg ?_ _;clear hH;have hb3:Below w.heap.size w w3:=(hb2.alloc (by omega) _).grown hgrow yM (λq hq=>(agV.out.lt q hq).1);have hI3:D7 w3 w.heap.size (ae g2 (n+1) cap2) (l++ [T.N.nT]):=by
  unfold D7;rw[lA,<-HN.out,GK];exact hown
 have H3:=hid (And.intro hb3 hI3);clear hb3 hI3 hown hgrow hat hb1 hb2 Hz hbc hv1;have HBg:=Gu.out w3 H3.out.1;have HBe:=hid (Y8 HBg);clear HBg
 go_upto_region 3 with(go_at_call 93;refine HBe.out.mono ?_;rintro e w4 ⟨wk,v4,rfl,ajZ,Dv,hb4⟩;have H4:=hid (And.intro Dv hb4);clear Dv hb4)
 have aj0:g2<w3.heap.size:=CJ H3.out.2 rfl;have Vc:T.Bd w3.heap.size:=(Gu.out w3 H3.out.1).bd;have zV:=hid Vc;have Ea:=H4.out.2.size;go_wp2
 go_loopw [26] (λq wr=>∃(i:Nat) (L:List Pt) (x:Nat) (v:Value),i<=n+1/\q=ab i/\Hid (ZE T l i L)/\Hid (Ah wr wk T.tb w3.heap.size v L x)/\Hid (Below w3.heap.size w3 wr)/\Hid (x<=2*i/\L.length<=1+7*i/\B3 T.N L)) (λq _=>n+1 - (intOf q).toNat)
 case atStart=>exact⟨0,_,_,v4,by omega,rfl,hid (.inl ⟨bu _,rfl⟩),hid H4.out.1,hid H4.out.2,hid ⟨yF _,by simp,⟨λm hm=>by simp at hm;subst hm;exact hT.nN,λm hm=>by simp at hm⟩⟩⟩
 case round=>
  obtain⟨i,L,x,v,hi,rfl,hp,hw,hb,hbd⟩:=hrel
  by_cases hlt:i<n+1
  ·obtain⟨t,ht⟩:∃t,(l++ [T.N.nT])[i]?=some t:=⟨_,gE (by rw[lA,<-HN.out];exact hlt)⟩
   have ct:wr.cell? (af g2 i)=some (ab t):=by
    exact(hb.out.cell (by exact aj0)).trans (H3.out.2.at ht)
   have Jh:t<=T.N.nT:=by
    rcases gj.1 (mG ht)with h1 |h1
    ·exact qb (HL.out t h1)
    ·have:=mS.1 h1;omega
   have Ab:=hid (d7 hT (Gu.out wr (H3.out.1.trans (hb.out.mono H3.out.1.size))) zV.out ajZ hw.out (by have:=hbd.out.1;omega) (by have:=hbd.out.2.1;omega) hbd.out.2.2 Jh);have hvB:∀g,v.ownBlock=some g->w3.heap.size<=g:=λg hg=>(hw.out.2.lt g hg).1
   have aam:=hb.out.size;have Au:wk<wr.heap.size:=ak hw.out.1;have HPS:=hid (o8 (x:=x) hT HL.out hp.out abQ hbd.out.2.2 (by have:=hbd.out.1;omega) ht);obtain⟨res,hres⟩:=qE (C3 T.yN T.N.nT t L x);rw[hres]at Ab HPS;obtain⟨rb,rL,rx⟩:=res;clear hres ht hw;cases rb
   ·have Vd:Hid (M0 T l i):=hid (by
     rcases HPS.out with h1 |h1
     ·exact h1.2
     ·cases h1.1)
    clear HPS
    go_wp2_with (go_at_call 116;refine Ab.out.mono ?_;rintro e w5 ⟨v5,rfl,Jn,zj,Jo⟩;have H5:=hid (zj.below (B:=w3.heap.size) aam (λq hq=>(bh.1 hq).elim (λe=>by omega) (λe=>hvB q Cp)));clear Jn zj Jo)
    go_ret3
    exact⟨(H3.out.1.trans ((hb.out.trans H5.out).mono H3.out.1.size)),.inr ⟨i,Vd.out,rfl⟩⟩
   ·have Vd:Hid (ZE T l (i+1) rL/\rx<=x+2/\rL.length<=L.length+7/\B3 T.N rL):=hid (by
     rcases HPS.out with h1 |h1
     ·cases h1.1
     ·exact h1.2)
    clear HPS
    go_wp2_with (go_at_call 116;refine Ab.out.mono ?_;rintro e w5 ⟨v5,rfl,Jn,zj,Jo⟩;have H5:=hid (And.intro Jn (zj.below (B:=w3.heap.size) aam (λq hq=>(bh.1 hq).elim (λe=>by omega) (λe=>hvB q Cp))));clear Jn zj Jo)
    go_roundw
    case rel=>exact⟨i+1,rL,rx,v5,by omega,by go_num,hid Vd.out.1,hid H5.out.1,hid (hb.out.trans H5.out.2),hid ⟨by have h1:=Vd.out.2.1;have h2:=hbd.out.1;omega,by have h1:=Vd.out.2.2.1;have h2:=hbd.out.2.1;omega,Vd.out.2.2.2⟩⟩
    case measure=>simp[intOf];omega
  ·obtain rfl:i=n+1:=by omega
   have hend:L=[]/\CQ T.yN [.yB 0] l=some []:=by
    rcases hp.out with⟨h1,_⟩ | ⟨_,h1⟩
    ·have:=HN.out;omega
    ·exact h1
   obtain⟨S,hS⟩:=pT hT.of (VZ hT.of hT.Xr l [.yB 0] hend.2);have hx1:x<=20004:=by have:=hbd.out.1;omega
   have hSl:S.length<=20004:=by have h1:=hS.small hT.Xr;have h2:=HN.out;simp only[UX]at h1;omega
   have hI5:T.In wr:=Gu.out wr (H3.out.1.trans (hb.out.mono H3.out.1.size));obtain⟨e0,e1,_⟩:=hI5.tv.Ar;have Au:wk<wr.heap.size:=ak hw.out.1;have cx:wr.cell? (af wk 2)=some (ab x):=(A0 hw.out.1).trans rfl;have hng:¬((x:Int)>939524096):=by omega
   have aam:=hb.out.size;have alR:=H3.out.2;clear hI5
   go_upto_region 12 with(at_make;refine wpList_make_own _ rfl _ _ 40 rfl wr.heap.size 129 iN (.agg #[.string ByteArray.empty,ab 0,ab 0]) 3 Tryz.underlying40 Hx Nr Ns .i64 .i64 x x rfl rfl rfl (by rw[Nt];omega) zX (yF _) ?_;intro w6 ho6 hg6)
   have Bc:A1 wr w6 []:=(A1.refl wr []).grown hg6 (λk e=>by cases e);have Uf:=Bc.size;have hka:A1 w6 (w6.alloc (.cells #[ac T.tb,ae g2 (n+1) cap2,ae wr.heap.size 0 x] 232)) []:=(A1.refl w6 []).alloc _;have hV7:Fk (w6.alloc (.cells #[ac T.tb,ae g2 (n+1) cap2,ae wr.heap.size 0 x] 232)) w6.heap.size T.tb wr.heap.size (ae g2 (n+1) cap2) (ae wr.heap.size 0 x) (l++ [T.N.nT]) []:=
    ⟨ay w6 _,((((D7.row H3.out.2 (B':=w3.heap.size) (λg hg=>CJ H3.out.2 hg)).below hb.out).mono aam).below ((Bc.below (yF _) (by simp)).trans (hka.below Uf (by simp)))),A7 ho6 hka (by simp)⟩
   have aep:Below wr.heap.size wr (w6.alloc (.cells #[ac T.tb,ae g2 (n+1) cap2,ae wr.heap.size 0 x] 232)):=(Bc.below (yF _) (by simp)).trans (hka.below Uf (by simp));have aj1:w6.heap.size< (w6.alloc (.cells #[ac T.tb,ae g2 (n+1) cap2,ae wr.heap.size 0 x] 232)).heap.size:=by rw[bg];omega
   obtain⟨W7,Ym⟩:=qE (w6.alloc (.cells #[ac T.tb,ae g2 (n+1) cap2,ae wr.heap.size 0 x] 232));rw[Ym]at hV7 aep aj1 ⊢;have hbr:Below w.heap.size w wr:=H3.out.1.trans (hb.out.mono H3.out.1.size);have Kq:=hid (hbr.trans (aep.mono hbr.size));have hI7:T.In W7:=Gu.out W7 Kq.out;obtain⟨e0,e1,_⟩:=hI7.tv.Ar;have HBr:Hid (T.Bd wr.heap.size):=hid (Gu.out wr hbr).bd;have HV7:=hid hV7;have HS:=hid hS;have hIb:Hid _:=Gu;clear Ym hV7 aep hka Bc ho6 hg6 hI7 cx hng hS
   go_wp2_with (first
    | (go_at_call 118;refine(N9 _ _ _).mono ?_;rintro e w8 ⟨rfl,Be⟩;have Hv:=hid (HV7.out.keeps (A1.yX Be []) (by omega) (by simp) (by simp) (by simp));have Xe:=hid (Kq.out.trans (Be.mono Kq.out.size));have hs8:=Be.size;clear Be)
    | (go_at_call 117;have hA:=sV hT wr.heap.size HBr.out S.length (.yB 0) l [T.N.nT] S w8 w6.heap.size _ _ [] HS.out (yF _) hT.nN (Gu.out w8 Xe.out) Uf (by omega) Hv yM;rw[show((AP (Pt.yB 0):Nat):Int)=0 from rfl,show AQ (Pt.yB 0)=true from rfl]at hA;refine hA.mono ?_;clear hA;rintro e w9 ⟨rfl,rv9,nv9,Sm,Yn⟩;have c9:w9.cell? (af w6.heap.size 2)=some nv9:=(A0 Sm.1).trans rfl;have H9:=hid (And.intro Sm Yn);clear Sm Yn))
   have hs0:w.heap.size<=wr.heap.size:=by have:=H3.out.1.size;omega
   go_ret3
   have Yn:Below w.heap.size w w9:=Xe.out.trans (H9.out.2.mono hs0);refine⟨Yn,.inl ⟨S,nv9,HS.out,rfl,?_⟩⟩;have h9:=O6 H9.out.1.2.2 hs0;simpa using h9
end Go.Proofs.YtjjggdcnpndgjaaGreatDoor
