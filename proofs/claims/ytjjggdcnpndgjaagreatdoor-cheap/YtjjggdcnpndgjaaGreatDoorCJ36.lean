import Derived.Test.YtjjggdcnpndgjaaGreatDoorCJ35
set_option linter.unusedSimpArgs false
set_option maxHeartbeats 8000000
set_option maxRecDepth 100000
namespace Go.Proofs.YtjjggdcnpndgjaaGreatDoor
open Go.RowKit Go.Shelf
variable {w:World}
section
section
variable {Q:Aq}{W0:World}{cn ct:Nat->Nat->Nat->Wt}
theorem ahr {P:Prop} (h:P:=by
  refine tB 0 hH ?_;refine tB 1 hH ?_;refine tB 2 hH ?_;refine tB 3 hH ?_;refine tB 4 hH ?_;refine tB 5 hH ?_;refine tB 6 hH ?_;refine tB 7 hH ?_;refine tB 9 hH ?_;refine tL ?_;refine tS 8 λK hK=>?_
  refine tM ?_
  go_simp;refine(HSp.out _ (ah _ wr).drew).mono ?_;rintro e w4 ⟨rfl,hb4⟩;try dsimp only
  refine hK.out _ _ ?_ λhH=>?_
  ·exact⟨A8 hb4 hH.1,A8 hb4 hH.2.1,A8 hb4 hH.2.2⟩
  clear hK K;refine tB 10 hH ?_;refine tL ?_;refine bq yM ?_ _;have Bk:Hid (Below wr.heap.size wr w4):=hid ((ah _ wr).drew.trans hb4);clear hH hb4 t0 t1 t2;go_wp2
  go_roundw
  case rel=>exact⟨a+1,by omega,by omega,by go_num,hid (zX.out.trans (Bk.out.mono zX.out.size))⟩
  case measure=>simp[intOf];omega):P:=h
theorem aV (Ay:Hf Q W0 cn ct) {q i k:Nat}{l:List Pt} (hq:BR Q.zK q=some l) (hik:i<=k) (hk:k<=Q.row.length) (hlt:(ct q i k).1<AJ)
  (hsub:∀p ps j,l=p::ps->i<=j->j<=k->ct q i k=DE Q.T.N Q.row cn ct p q i j k->VV Q W0 cn p i j/\UM Q W0 ct (q+1) ps j k/\(D9 Q.T.N Q.row cn p i j).1+(ct (q+1) j k).1=(ct q i k).1):UM Q W0 ct q l i k:=by
 intro W sb v E hb hS hE;have hQ:=Ay.Oo hb;have Kh:=hQ.Gi;have Dh:=hQ.Sw;have Qf:=hQ.Sx;have hsw:sb<W.heap.size:=ak hS.blk;have hBW:W0.heap.size<=W.heap.size:=hb.size;have hgB:Q.gp<W0.heap.size:=Ay.inn.Et;have aa6:=hQ.Og;have ab0:=hQ.Xk;have hqQ:=gH hq;obtain⟨gi,gq,akl,Kw,cgi,cgq,wgq⟩:=Ay.tlv hb hik hk;obtain⟨kq1,kq2⟩:=wgq q hqQ;have s0:W.cell? (af sb 0)=some (ac Q.wb):=(A0 hS.blk).trans rfl;have e3:W.cell? (af Q.wb 3)=some (ae Q.gt Q.zK.length Q.ct):=(A0 hQ.blk).trans rfl;have e5:W.cell? (af Q.wb 5)=some (ae Q.gp (Q.row.length+1) (Q.row.length+1)):=(A0 hQ.blk).trans rfl;obtain⟨L1,Fh⟩:=qF (Q.row.length+1);obtain⟨nQ,Fq⟩:=qF (Q.zK.length);have hiL:((i:Int)< (L1:Int)):=by omega
 have hkL:((k:Int)< (L1:Int)):=by omega
 rw[<-Fh]at e5 cgi;rw[<-Fq]at e3 cgq wgq Dh Qf hqQ;have hqi:((q:Int)< (nQ:Int)):=by omega
 obtain⟨c1,hc1⟩:=qE ((ct q i k).1);obtain⟨c2,hc2⟩:=qE ((ct q i k).2);have Xy:Hid (ct q i k=(c1,c2)):=hid (xe hc1 hc2);rw[hc1]at kq1 hlt hE ⊢;rw[hc2]at kq2;have Gz:=hid Ay;have HQl:Hid (BR Q.zK q=some l):=hid hq;have HSub:=hid hsub;have HB:=hid hb;have HS:=hid hS;have Ol:Hid (nQ=Q.zK.length/\L1=Q.row.length+1):=hid ⟨Fq,Fh⟩;unfold AJ at hlt;clear Fh Fq hQ hc1 hc2 hq hsub Ay hb hS wgq;show Calls Tryz.prog 223 #[ac sb,ab q,ab i,ab k] W _
 by_cases h0:c1=0
 ·subst h0
  go_enter Tryz.func223,Tryz.ntmps223
  have b0:=BK W #[ab 0,ab c2] 313 0;go_wp2;refine ya (qz rfl _ _ _) rfl ?_;have hQ:=Gz.out.Oo HB.out;have hz:=rU hQ.tab.fc.gr.ok Gz.out.gnf Gz.out.zK Gz.out.pt2 hQ.rl Gz.out.wd _ q i k l (zn _) HQl.out hik hk (by rw[Xy.out]);have hr:=Aa.keeps (N:=Q.T.N) (row:=Q.row) (k - i) i (by omega);rw[show i+(k - i)=k by omega]at hr;exact⟨rfl,v,[],_,by rw[fy];exact HS.out.keeps ((A5.refl W []).alloc _) (by simp) (λ_ _=>by simp),⟨((A5.refl W []).alloc _).mono (λq h=>by cases h),BN.refl _ _⟩,hr,hz⟩
 ·-- the tail has a first part
  obtain⟨p,ps,hl⟩:∃p ps,l=p::ps:=by
   cases l with
   |nil=>
    exfalso;have h1:=(Gz.out.wd i k hik hk).Jz q HQl.out;rw[Xy.out]at h1;split at h1
    ·injection h1 with h1 _;exact h0 h1
    ·injection h1 with h1 _;unfold AJ at h1;omega
   |cons p ps=>exact⟨p,ps,rfl⟩
  subst hl;obtain⟨j0,Rw,hj2,hj3⟩:∃j,i<=j/\j<=k/\ct q i k=DE Q.T.N Q.row cn ct p q i j k:=by
   rcases(Gz.out.wd i k hik hk).Ny q p ps HQl.out with h1 |h1
   ·rw[Xy.out]at h1
    injection h1 with h1 _
    unfold AJ at h1;omega
   ·exact h1
  have htq:Q.zK[q]?=some (some p):=by
   rcases SJ Gz.out.tlk HQl.out with⟨h1,_⟩ | ⟨p',ps',h1,h2⟩
   ·cases h1
   ·injection h1 with h1 _;rw[h1];exact h2
  obtain⟨akr,_⟩:=MZ Gz.out.tlk htq;have hc0:((c1:Int)==0)=false:=by rw[mh];omega
  obtain⟨W2,hW2⟩:=qE (W.alloc (.cells #[ab c1,ab c2] 313));have hk2:A5 W W2 []:=by rw[<-hW2];exact(A5.refl W []).alloc _
  have hl2:W2.heap[W.heap.size]?=some (.cells #[ab c1,ab c2] 313 (0,0)):=by rw[<-hW2];exact bg W _
  have hs2:W.heap.size<W2.heap.size:=ak hl2;have hb2:Below W0.heap.size W0 W2:=HB.out.trans (hk2.below hBW (λq h=>by cases h));have Fv:DT W2 sb W0.heap.size Q.wb v E:=HS.out.keeps hk2 (by simp) (λ_ _=>by simp);have Ci:=hid hW2;have HL2:=hid hl2;have zO:=hid hb2;have HS2:=hid Fv;have Hj:=hid hk2;have HJ:Hid (DE Q.T.N Q.row cn ct p q i j0 k=(c1,c2)):=hid (by rw[<-hj3];exact Xy.out);have HTq:=hid htq;have aks:Hid (∀V a,Below W2.heap.size W2 V->i<=a->a<=k->Calls Tryz.prog 234 #[ac Q.wb,ab q,ab i,ab a,ab k] V λe w'=>e=.returned (Dt (DE Q.T.N Q.row cn ct p q i a k))/\Below V.heap.size V w'):=hid λV a Bf h1 h2=>by
   have hbW:=zO.out.trans (Bf.mono (by omega));have hQ:=Gz.out.Oo hbW;have ht:=Gz.out.pcs.st (q+1) a k;unfold AJ GH at ht;exact S8 (cn:=cn) (ct:=ct) hQ (B:=W0.heap.size) htq akr h1 h2 hk (λn _=>Gz.out.nm hbW h1 (by omega)) (Gz.out.tlv hbW h2 hk) hbW.size (UF hQ.tab.fc.gr.ok hQ.rl hQ.Gi Gz.out.pcs.sn (hQ.Xl q p htq) i a) ⟨by omega,ht.2⟩
  have Ud:(0:Int)<=(q:Int):=by omega
  clear hj3 hW2 hl2 hb2 Fv hk2 htq
  go_enter Tryz.func223,Tryz.ntmps223
  have b0:=BK W #[ab c1,ab c2] 313 0
  go_wp2_with fail
  rw[Ci.out];clear b0
  go_loopw [9] (λz wr=>∃(a:Nat),i<=a/\a<=j0/\z=ab a/\Hid (Below W2.heap.size W2 wr)) (λz _=>j0 - (intOf z).toNat)
  case atStart=>exact⟨i,zn _,Rw,rfl,hid (ah _ _)⟩
  case round=>
   obtain⟨a,ha1,ha2,rfl,zX⟩:=hrel;have Xx:=zX.out.size;obtain⟨y,hy⟩:=qE (DE Q.T.N Q.row cn ct p q i a k);obtain⟨y1,y2⟩:=y;have HSp:Hid (∀V,Below wr.heap.size wr V->Calls Tryz.prog 234 #[ac Q.wb,ab q,ab i,ab a,ab k] V λe w'=>e=.returned (.agg #[ab y1,ab y2])/\Below V.heap.size V w'):=hid λV Bf=>by
    have h:=aks.out V a (zX.out.trans (Bf.mono Xx)) ha1 (by omega);rw[hy]at h;exact h
   have t0:wr.cell? (af sb 0)=some (ac Q.wb):=(zX.out.cell (by show sb<W2.heap.size;omega)).trans ((A0 HS2.out.blk).trans rfl);have t1:wr.cell? (af W.heap.size 0)=some (ab c1):=(zX.out.cell Vr).trans ((A0 HL2.out).trans rfl);have t2:wr.cell? (af W.heap.size 1)=some (ab c2):=(zX.out.cell Vr).trans ((A0 HL2.out).trans rfl);have HY:=hid hy;clear hy
   by_cases hne:y1=c1
   ·subst hne
    by_cases abw:y2=c2
    ·subst abw
     go_upto_region 3 with fail
     refine dy (S:=λw'=>w'.cell? (af sb 0)=some (ac Q.wb)/\w'.cell? (af W.heap.size 0)=some (ab y1)/\w'.cell? (af W.heap.size 1)=some (ab y2)) yM ⟨t0,t1,t2⟩ (λhH=>?_);refine tB 0 hH ?_;refine tB 1 hH ?_;refine tB 2 hH ?_;refine tB 3 hH ?_;refine tB 4 hH ?_;refine tB 5 hH ?_;refine tB 6 hH ?_;refine tB 7 hH ?_;refine tB 9 hH ?_;refine tL ?_;refine tS 8 λK hK=>?_
     refine tM ?_
     go_simp;refine(HSp.out _ (ah _ wr).drew).mono ?_;rintro e w4 ⟨rfl,hb4⟩;try dsimp only
     refine hK.out _ _ ?_ λhH=>?_
     ·exact⟨A8 hb4 hH.1,A8 hb4 hH.2.1,A8 hb4 hH.2.2⟩
     clear hK K;refine tB 10 hH ?_;refine tL ?_;refine bq yM ?_ _;have Bk:Hid (Below wr.heap.size wr w4):=hid ((ah _ wr).drew.trans hb4);clear hH hb4 t0 t1 t2;have hEq:ct q i k=DE Q.T.N Q.row cn ct p q i a k:=by rw[Xy.out,HY.out]
     obtain⟨Ir,hTC,hsum⟩:=HSub.out p ps a rfl ha1 (by omega) hEq;rw[Xy.out]at hsum;have hsum:(D9 Q.T.N Q.row cn p i a).1+(ct (q+1) a k).1=y1:=hsum;have Oq:Below W2.heap.size W2 w4:=zX.out.trans (Bk.out.mono Xx);have amq:=Oq.size;have aao:Below W0.heap.size W0 w4:=zO.out.trans (Oq.mono (by omega));have Cx:DT w4 sb W0.heap.size Q.wb v E:=HS2.out.keeps (A5.zQ Oq []) (by simp) (λ_ _=>by simp);have hQ4:=Gz.out.Oo aao;obtain⟨_,r1,r2⟩:=hQ4.Sv q _ HTq.out;have r0:w4.cell? (af sb 0)=some (ac Q.wb):=(A0 Cx.blk).trans rfl;have r3:w4.cell? (af Q.wb 3)=some (ae Q.gt nQ Q.ct):=by rw[Ol.out.1];exact(A0 hQ4.blk).trans rfl
     replace r1:w4.cell? (af Q.gt (q*3+1))=some (.bool (AW p)):=r1;replace r2:w4.cell? (af Q.gt (q*3+2))=some (ab (AV p)):=r2;have HPa:Hid (Calls Tryz.prog 146 #[ac sb,.agg #[.bool (AW p),ab (AV p)],ab i,ab a] w4 λe w'=>e=.returned (.tuple #[])/\∃(v':Value) (F:List Ab) (b:List Nat),DT w' sb W0.heap.size Q.wb v' (E++F)/\(A5 w4 w' (sb::v.ownBlock.toList)/\BN w4.heap.size v v')/\Aa Q.T.N Q.row i F a b (D9 Q.T.N Q.row cn p i a).1/\Bb Q.T.N [p] b):=hid (Ir w4 sb v E aao Cx (by omega));have Vj:Hid (∀V v1 F b1,Below W0.heap.size W0 V->DT V sb W0.heap.size Q.wb v1 (E++F)->Aa Q.T.N Q.row i F a b1 (D9 Q.T.N Q.row cn p i a).1->Calls Tryz.prog 223 #[ac sb,ab ((q:Int)+1),ab a,ab k] V λe w'=>e=.returned (.tuple #[])/\∃(v':Value) (G:List Ab) (b:List Nat),DT w' sb W0.heap.size Q.wb v' (E++F++G)/\(A5 V w' (sb::v1.ownBlock.toList)/\BN V.heap.size v1 v')/\Aa Q.T.N Q.row a G k b (ct (q+1) a k).1/\Bb Q.T.N ps b):=hid λV v1 F b1 Bf hSV hR=>hTC V sb v1 (E++F) Bf hSV (by
      have:=hR.len hQ4.tab.fc.gr.ok hQ4.rl;rw[lA];omega)
     obtain⟨bn,Bp⟩:=qE (AW p);obtain⟨np,hnp⟩:=qE (AV p);rw[Bp]at r1 HPa;rw[hnp]at r2 HPa;have akt:=hid hsum;have Ke:Hid (A5 W w4 []):=hid (Hj.out.trans (A5.zQ Oq []));have aaa:=hid aao;have Kc:=hid Cx;have amr:IntKind.i64.wrap ((q:Int)+1)=(q:Int)+1:=by rw[Db];omega
     have aku:W.heap.size<=w4.heap.size:=by omega
     clear hEq Ir hTC hsum Oq aao Cx hQ4 Bp hnp
     go_wp2_with (first
      | (go_at_call 146;refine HPa.out.mono ?_;rintro e w5 ⟨rfl,v1,F1,b1,g1,⟨g2,g3⟩,g4,g5⟩;have H5:=hid (And.intro g1 (And.intro (And.intro g2 g3) (And.intro g4 g5)));clear g1 g2 g3 g4 g5)
      | (go_at_call 223;refine(Vj.out _ _ _ _ (Below.acd aaa.out rfl Kc.out H5.out.2.1.1) H5.out.1 H5.out.2.2.1).mono ?_;rintro e w6 ⟨rfl,v2,F2,b2,g1,⟨g2,g3⟩,g4,g5⟩;have H6:=hid (And.intro g1 (And.intro (And.intro g2 g3) (And.intro g4 g5)));clear g1 g2 g3 g4 g5))
     go_end0
     obtain⟨a1,⟨a2,a3⟩,a4,a5⟩:=H5.out;obtain⟨z1,⟨z2,z3⟩,z4,z5⟩:=H6.out;have hrun:=a4.append z4;rw[akt.out]at hrun;refine⟨rfl,v2,F1++F2,b1++b2,by rw[<-aA];exact z1,⟨(Ke.out.mono (λq h=>by cases h)).trans (a2.fresh z2 a3 (zn _)),(BN.refl _ v).trans (a3.trans z3 a2.size) aku⟩,hrun,?_⟩;cases p with
     |tok t=>
      cases a5 with
      |tok h=>cases h;exact .tok z5
     |zi n=>
      cases a5 with
      |zi h1 h2 h3=>cases h3;rw[fy];exact .zi h1 h2 z5
    ·have akv:¬((y2:Int)=(c2:Int)):=by omega
     have haj:a<j0:=by
      rcases jz a j0 with h |h
      ·exact h
      ·exfalso
       have e:a=j0:=by omega
       have h1:=HY.out;rw[e,HJ.out]at h1;injection h1 with _ h1
       exact abw h1.symm
     go_upto_region 3 with fail
     refine dy (S:=λw'=>w'.cell? (af sb 0)=some (ac Q.wb)/\w'.cell? (af W.heap.size 0)=some (ab y1)/\w'.cell? (af W.heap.size 1)=some (ab c2)) yM ⟨t0,t1,t2⟩ (λhH=>?_);exact ahr
   ·have akv:¬((y1:Int)=(c1:Int)):=by omega
    have haj:a<j0:=by
     rcases jz a j0 with h |h
     ·exact h
     ·exfalso
      have e:a=j0:=by omega
      have h1:=HY.out;rw[e,HJ.out]at h1;injection h1 with h1 _
      exact hne h1.symm
    go_upto_region 3 with fail
    refine dy (S:=λw'=>w'.cell? (af sb 0)=some (ac Q.wb)/\w'.cell? (af W.heap.size 0)=some (ab c1)/\w'.cell? (af W.heap.size 1)=some (ab c2)) yM ⟨t0,t1,t2⟩ (λhH=>?_);exact ahr
theorem qN (Ay:Hf Q W0 cn ct):∀m q i k l,M4 (BR Q.zK) q i k (ct q i k).1<m->BR Q.zK q=some l->i<=k->k<=Q.row.length->(ct q i k).1<AJ->UM Q W0 ct q l i k:=by
 intro m
 induction m with
 |zero=>intro q i k l h;omega
 |succ m ih=>
  intro q i k l hm hq hik hk hlt;refine aV Ay hq hik hk hlt (λp ps j hl h1 h2 e=>?_);subst hl;have hN:=Ay.inn.tab.fc.gr.ok;have Ca:=Ay.pt hq (ew ..);obtain⟨s1,s2,s3⟩:=U0 hN Ay.gnf Ay.zK Ay.wd hq (λt e=>by subst e;exact Ca) (λn e=>by subst e;exact Ca) hlt h1 h2 hk e;refine⟨eU Ay Ca h1 (by omega) (by omega) (λn hn=>?_),ih (q+1) j k ps (by omega) (Ay.zK.next _ _ _ hq) h2 hk (by omega),s1⟩;subst hn;have hc:(D9 Q.T.N Q.row cn (.zi n) i j).1=(cn n i j).1:=rfl;refine T2 Ay Ca h1 (by omega) (by omega) (λr l' hr hl' e'=>?_);obtain⟨s4,s5⟩:=s3 n rfl r hr e';exact ih r i j l' (by omega) hl' h1 (by omega) (by omega)
theorem oN (Ay:Hf Q W0 cn ct) {n i k:Nat} (hn:n<Q.T.N.nN) (hik:i<=k) (hk:k<=Q.row.length) (hlt:(cn n i k).1<AJ):aD Q W0 cn n i k:=by
 refine T2 Ay hn hik hk hlt (λr l' hr hl' e'=>?_);exact qN Ay _ r i k l' (Nat.lt_succ_self _) hl' hik hk (by rw[e']at hlt;simpa[named,GO] using hlt)
end
end
section
section
variable {N:NG}{tl:Nat->Option (List Pt)}{hd:Nat->Nat->Prop}{row:List Nat}{cn ct:Nat->Nat->Nat->Wt}
theorem kZ (hT:Rx N tl hd) (hW:∀i k,i<=k->k<=row.length->ET N tl hd row cn ct i k) {b:List Nat}{c:Nat} (hb:Bb N [.zi 0] b) (ha:Al N row b c):∃a,a<=row.length/\(cn 0 0 a).1+EH N row a row.length<=c:=by
 obtain⟨rhs,h1,h2⟩:=WX hb;obtain⟨q,h3,h4⟩:=hT.head 0 rhs h1;obtain⟨a1,d,h5,h6⟩:=XZ hT (MN hW) h2 q [] row [] c h4 (by simp) ha;have hl:a1.length<=row.length:=by rw[h5];simp
 have h8:=(MN hW).rule 0 q 0 a1.length h3 (by omega) hl;simp only[jd,ju]at h6;have h9:EH N row a1.length row.length=AY N d:=by
  have:=YY (N:=N) (a:=a1) (d:=d);rw[<-h5]at this;exact this
 have h8:(cn 0 0 a1.length).1<=(ct q 0 a1.length).1:=h8;exact⟨a1.length,hl,by omega⟩
end
theorem nF {Q:Aq}{cn ct:Nat->Nat->Nat->Wt} (hT:Rx Q.T.N (BR Q.zK) (FY Q.hds)) (hW:∀i k,i<=k->k<=Q.row.length->ET Q.T.N (BR Q.zK) (FY Q.hds) Q.row cn ct i k) (hex:∃b c,Bb Q.T.N [.zi 0] b/\Al Q.T.N Q.row b c/\c<AJ) {e:Nat} (he:e=(FG (E8 Q cn) (Q.row.length+1)).2):
  e<=Q.row.length/\(cn 0 0 e).1+EH Q.T.N Q.row e Q.row.length<AJ/\∀b c,Bb Q.T.N [.zi 0] b->Al Q.T.N Q.row b c->(cn 0 0 e).1+EH Q.T.N Q.row e Q.row.length<=c:=by
 obtain⟨h1,h2,h3⟩:=i8 (E8 Q cn) (Q.row.length+1);have abk:∀a,(E8 Q cn a).1=(cn 0 0 a).1+EH Q.T.N Q.row a Q.row.length:=λa=>rfl
 obtain⟨b,c,hb,ha,hc⟩:=hex;obtain⟨a,h4,h5⟩:=kZ hT hW hb ha;have h6:=KK (h3 a (by omega));rw[abk]at h6;have h7:(FG (E8 Q cn) (Q.row.length+1)).1=E8 Q cn e:=by
  rcases gJ (E8 Q cn) (Q.row.length+1)with h | ⟨_,h⟩
  ·rw[h]at h6;simp only at h6;omega
  ·rw[h,he]
 have hmin:∀a,a<=Q.row.length->(cn 0 0 e).1+EH Q.T.N Q.row e Q.row.length<=(cn 0 0 a).1+EH Q.T.N Q.row a Q.row.length:=λa ha=>by
  have:=KK (h3 a (by omega));rw[h7,abk,abk]at this;exact this
 refine⟨by omega,?_,λb' c' hb' ha'=>eG hT hW hmin hb' ha'⟩;have:=hmin a h4;omega
theorem ZW {T:Am} (hI:T.In w) (Fb:T.Ok) {row:List Nat}{rv:Value} (hrw:Em w w.heap.size rv row) (hrl:∀x∈row,x<T.N.nT) (Jp:row.length<=100) (Hz:0< (BH T.N.rules).1.length)
  (hex:∃b c,Bb T.N [.zi 0] b/\Al T.N row b c/\c<AJ):
  Calls Tryz.prog 94 #[ac T.tb,rv] w λe w'=>∃(v:Value) (B:Nat) (E:List Ab) (b:List Nat) (c:Nat),e=.returned v/\w.heap.size<=B/\w'.ownsRow B 201 5 v E.length (DW E)/\c<AJ/\Aa T.N row 0 E row.length b c/\Bb T.N [.zi 0] b/\(∀b' c',Bb T.N [.zi 0] b'->Al T.N row b' c'->c<=c')/\Below w.heap.size w w':=by
 have HWe:Hid (Calls Tryz.prog 144 #[ac T.tb,rv] w λe w'=>∃(Q:Aq) (cn ct:Nat->Nat->Nat->Wt),e=.returned (ac Q.wb)/\Q.T=T/\Q.row=row/\Q.zK=(BH T.N.rules).1/\Q.hds=MH T.N.nN (BH T.N.rules).2/\Q.In w'/\MG Q w' 0 cn ct/\Below w.heap.size w w'):=hid (lY hI hrw hrl Jp Hz);have Dy:Hid (Zt T.N/\Rx T.N (BR (BH T.N.rules).1) (FY (MH T.N.nN (BH T.N.rules).2))):=hid ⟨pZ Fb.of Fb.led,vW hI.fc.gr.ok⟩;have HEx:=hid hex;obtain⟨aR,cR,rfl,_,_⟩:=hrw;have h0N:0<T.N.nN:=hI.fc.gr.ok.pos;have Dh:T.tb<w.heap.size:=hI.bd.tb;clear hI Fb hrl Hz hex
 go_enter Tryz.func94,Tryz.ntmps94
 go_wp2_with (first
  | (go_at_call 144;refine HWe.out.mono ?_;rintro e W0 ⟨Q,cn,ct,rfl,q1,q2,q3,q4,q5,q6,q7⟩;have HQ:=hid (And.intro q1 (And.intro q2 (And.intro q3 (And.intro q4 (And.intro q5 (And.intro q6 q7))))));clear q1 q2 q3 q4 q5 q6 q7)
  |fail)
 obtain⟨q1,q2,q3,q4,q5,q6,q7⟩:=HQ.out;clear HQ HWe;subst q1;subst q2;have Ay:Hf Q W0 cn ct:=⟨q5,q6,by rw[q3];exact(Q8 Q.T.N.rules).ok,by rw[q3,q4];exact Dy.out.2,Dy.out.1⟩;obtain⟨e,he⟩:=qF ((FG (E8 Q cn) (Q.row.length+1)).2);obtain⟨hel,Qo,hem⟩:=nF Ay.zK Ay.wd HEx.out he;obtain⟨W1,hW1⟩:=qE (W0.alloc (.cells #[ac Q.wb,.slice none 0 0] 273));have hk1:A5 W0 W1 []:=by rw[<-hW1];exact(A5.refl W0 []).alloc _
 have hb1:W1.heap[W0.heap.size]?=some (.cells #[ac Q.wb,.slice none 0 0] 273 (0,0)):=by rw[<-hW1];exact bg W0 _
 have He:Below W0.heap.size W0 W1:=hk1.below (zn _) (λq h=>by cases h);have hS1:DT W1 W0.heap.size W0.heap.size Q.wb (.slice none 0 0) []:=⟨hb1,jg _ _ _ _,zn _⟩;have hgB:Q.gp<W0.heap.size:=q5.Et;have Ld:w.heap.size<=W0.heap.size:=q7.size;have Up:Hid (Calls Tryz.prog 145 #[ac W0.heap.size] W1 λe' w'=>e'=.returned (ab e)/\Below W1.heap.size W1 w'):=hid (by
  rw[he];exact VY (Ay.Oo He) hS1 hgB He.size q6.sn (λa ha=>Ay.nm He (dh _) ha))
 have akw:Hid (∀V,Below W1.heap.size W1 V->Calls Tryz.prog 146 #[ac W0.heap.size,.agg #[.bool true,ab 0],ab 0,ab e] V λe' w'=>e'=.returned (.tuple #[])/\∃(v':Value) (F:List Ab) (b:List Nat),DT w' W0.heap.size W0.heap.size Q.wb v' F/\(A5 V w' (W0.heap.size::(Value.slice none 0 0).ownBlock.toList)/\BN V.heap.size (.slice none 0 0) v')/\Aa Q.T.N Q.row 0 F e b (cn 0 0 e).1/\Bb Q.T.N [.zi 0] b):=hid λV Bf=>by
  have hbW:Below W0.heap.size W0 V:=He.trans (Bf.mono He.size);have h:=T4 (oN Ay (n:=0) (i:=0) (k:=e) h0N (dh _) hel (by omega)) V W0.heap.size (.slice none 0 0) [] hbW (hS1.keeps (A5.zQ Bf []) (by simp) (λ_ _=>by simp)) (by
   show 0+(cn 0 0 e).1<=3000000;unfold AJ at Qo;omega)
  exact h
 have ahs:Hid (∀V v1 F b,Below W0.heap.size W0 V->DT V W0.heap.size W0.heap.size Q.wb v1 F->Aa Q.T.N Q.row 0 F e b (cn 0 0 e).1->Calls Tryz.prog 147 #[ac W0.heap.size,ab e,ab Q.row.length] V λe' w'=>e'=.returned (.tuple #[])/\∃v',DT w' W0.heap.size W0.heap.size Q.wb v' (F++DY Q.T.N Q.row e (Q.row.length - e))/\A5 V w' (W0.heap.size::v1.ownBlock.toList)/\BN V.heap.size v1 v'):=hid λV v1 F b Bf hSV hR=>by
  have hQ:=Ay.Oo Bf;have hl:=hR.len hQ.tab.fc.gr.ok hQ.rl;exact RH hQ hSV hgB Bf.size hel (zn _) (by unfold AJ at Qo;omega)
 obtain⟨d0,d1,_⟩:=(Ay.Oo He).tab.tv.Cq;have ams:Q.T.tb<W0.heap.size:=by omega
 have HN:Hid (Q.T.N.Ok/\∀x∈Q.row,x<Q.T.N.nT):=hid ⟨q5.tab.fc.gr.ok,q5.rl⟩;obtain⟨nT,Ac⟩:=qF (Q.T.N.nT);obtain⟨nN,zT⟩:=qF (Q.T.N.nN);obtain⟨L,hL⟩:=qF (Q.row.length);rw[<-Ac]at d0;rw[<-zT]at d1;rw[<-hL]at ahs hel Qo hem Jp ⊢;have HL:=hid hL;have aht:=hid (And.intro Qo hem);have zL:=hid He;have HS1:=hid hS1;have H7:=hid q7;have hs1:W0.heap.size<W1.heap.size:=ak hb1;rw[hW1];clear hW1 hk1 hb1 He hS1 he hem Qo Ac zT hL Ay q3 q4 q5 q6 q7
 go_wp2_with (first
  | (go_at_call 145;refine Up.out.mono ?_;rintro e' w2 ⟨rfl,hb2⟩;have H2:=hid hb2;have d2:=(hb2.cell (p:=(af Q.T.tb 0)) (by show Q.T.tb<W1.heap.size;omega)).trans d0;have d3:=(hb2.cell (p:=(af Q.T.tb 1)) (by show Q.T.tb<W1.heap.size;omega)).trans d1;clear hb2 d0 d1)
  | (go_at_call 118;refine(O3 _ _ _).mono ?_;rintro e' w3 ⟨rfl,hb3⟩;have H3:Hid (Below W1.heap.size W1 w3):=hid (H2.out.trans (hb3.mono H2.out.size));clear hb3)
  | (go_at_call 146;refine(akw.out _ H3.out).mono ?_;rintro e' w4 ⟨rfl,v1,F,b,g1,⟨g2,g3⟩,g4,g5⟩;have H4:=hid (And.intro g1 (And.intro g2 (And.intro g4 g5)));clear g1 g2 g3 g4 g5)
  | (go_at_call 147;refine(ahs.out _ _ _ _ (Below.acd (zL.out.trans (H3.out.mono zL.out.size)) rfl (HS1.out.keeps (A5.zQ H3.out []) (by simp) (λ_ _=>by simp)) H4.out.2.1) H4.out.1 H4.out.2.2.1).mono ?_;rintro e' w5 ⟨rfl,v2,g1,g2,g3⟩;have H5:=hid (And.intro g1 g2);have c5:w5.cell? (af W0.heap.size 1)=some v2:=(A0 g1.blk).trans rfl;clear g1 g2 g3))
 go_ret;have hr:=Aa.Ai (N:=Q.T.N) (row:=Q.row) (L - e) e aaI;rw[show e+(L - e)=L by omega]at hr;have hrun:=H4.out.2.2.1.append hr;rw[fy]at hrun;refine⟨v2,W0.heap.size,_,b,_,rfl,Ld,H5.out.1.row,aht.out.1,?_,H4.out.2.2.2,aht.out.2,?_⟩
 ·have e1:EH Q.T.N Q.row e L=AY Q.T.N ((Q.row.drop e).take (L - e)):=rfl
  rw[e1,<-HL.out];exact hrun
 ·have Fc:=Below.acd (zL.out.trans (H3.out.mono zL.out.size)) rfl (HS1.out.keeps (A5.zQ H3.out []) (by simp) (λ_ _=>by simp)) H4.out.2.1
  exact H7.out.trans ((Below.acd Fc rfl H4.out.1 H5.out.2).mono Ld)
end
theorem SC {B B' e sz n:Nat}{v:Value}{xs:List Value} (h:w.ownsRow B e sz v n xs) (hB:B'<=B):w.ownsRow B' e sz v n xs:=by
 obtain⟨h1,h2⟩:=h;refine⟨h1,?_⟩
 rcases h2 with h2 | ⟨g,cap,cur,hv,hg,r⟩
 ·exact .inl h2
 ·exact .inr ⟨g,cap,cur,hv,zV hB hg,r⟩
theorem oM {T:Am} (hT:T.Ok)  (hI:T.In w) {l:List Nat}{rv:Value} (hr:xA w w.heap.size rv l) (hl:∀x∈l,x<T.N.nT) (hlen:l.length<=10000):
  Calls Tryz.prog 73 #[ac T.tb,rv] w λe w'=>Below w.heap.size w w'/\
   ((∃S v,Az T.zH [.zi 0] l S/\e=.returned (.tuple #[v,ab (-1),ab 0])/\w'.ownsRow w.heap.size 129 3 v S.length (BT (S.map (PU T))))\/
    (∃i:Nat,S6 T l i/\e=.returned (.tuple #[.slice none 0 0,ab i,ab 0]))):=by
 obtain⟨iN,Kl,Pr,Pu,Pv⟩:=iy Tryz.infoB129;obtain⟨iI,Ii,Ij,Ik,Il⟩:=iy Tryz.infoX3;obtain⟨d0,d1,_⟩:=hI.tv.Cq;have Bo:=hI.bd;have Dx:T.N.nT<=20:=hI.fc.gr.Ch;have hlt:T.tb<w.heap.size:=Bo.tb;have Jk:Hid (∀W,Below w.heap.size w W->T.In W):=hid λW hb=>hI.below Bo hb
 have HCl:Hid (∀W,Below w.heap.size w W->Calls Tryz.prog 114 #[rv] W λe w'=>∃v',e=.returned v'/\DQ w' W.heap.size v' l/\Below W.heap.size W w'):=hid λW hb=>kW W w.heap.size hb.size rv l ⟨hr.1.below hb,hr.2⟩ (by omega)
 have HL:Hid (∀x∈l,x<T.N.nT):=hid hl;obtain⟨n,hn⟩:=qF (l.length);have HN:Hid (n=l.length):=hid hn;rw[<-hn]at hlen;clear hI hr hl hn
 go_enter Tryz.func73,Tryz.ntmps73
 go_upto_region 1 with fail
 refine dy (S:=λw'=>w'.cell? (af T.tb 0)=some (.slice T.yZ T.N.nT T.yT)/\w'.cell? (af T.tb 1)=some (ae T.gN T.N.nN T.yQ)) yM ⟨d0,d1⟩ (λhH=>?_);refine tB 0 hH ?_;refine tB 2 hH ?_;refine tB 3 hH ?_;refine tB 4 hH ?_;refine tB 5 hH ?_;refine tB 6 hH ?_;refine tL ?_;refine tS 1 λK hK=>?_
 refine tM ?_
 go_simp;refine(HCl.out _ (ah _ w).drew).mono ?_;rintro e w1 ⟨v1,rfl,hv1,hbc⟩;try dsimp only
 refine hK.out _ _ ?_ λhH=>?_
 ·exact⟨(hbc.cell (by exact hlt)).trans hH.1,(hbc.cell (by exact hlt)).trans hH.2⟩
 clear hK K;refine tL ?_;have hs1:w.heap.size<=w1.heap.size:=hbc.size;have hb1:Below w.heap.size w w1:=(ah _ w).drew.trans hbc;refine tS 7 λK hK=>?_
 refine tM ?_
 go_simp;refine(N2 _ _ _ _ _ _ _).mono ?_;rintro e w2 ⟨rfl,Kn⟩;try dsimp only
 refine hK.out _ _ ?_ λhH=>?_
 ·exact⟨(Kn.cell (by show T.tb<w1.heap.size;omega)).trans hH.1,(Kn.cell (by show T.tb<w1.heap.size;omega)).trans hH.2⟩
 clear hK K;refine tL ?_;have hs2:w1.heap.size<=w2.heap.size:=Kn.size;have hb2:Below w.heap.size w w2:=hb1.trans (Kn.mono hs1);have HO2:Hid (DQ w2 w.heap.size v1 l):=hid (AC (hv1) (A5.zQ Kn []) (by simp));have ahu:some T.tb≠v1.ownBlock:=λe=>by have h1:=(HO2.out.lt _ e.symm).1;omega
 refine tS 8 λK hK=>?_
 refine tM ?_;go_simp;refine hK.out _ _ ?_ λhH=>?_
 ·exact⟨A6 _ hH.1,A6 _ hH.2⟩
 clear hK K;refine tL ?_;have ahv:Hid (w2.ownsRow w.heap.size 3 1 v1 n (DJ l)):=hid (by rw[HN.out];exact HO2.out);refine tS 9 λK hK=>?_
 refine tM ?_;rw[ay (by rfl)];refine mq _ (.tmp 13) (.tmp 20) 45 rfl w.heap.size 3 iI (ab 0) 1 8 Tryz.underlying45 Ii Ij Ik Il rfl (by decide) v1 _ _ rfl (ahv.out.alloc _) (af w2.heap.size 0) 1 1 [ab T.N.nT] rfl rfl (dn (fr:=(0,0)) (dz w2 _)) Gl (by omega) Bg (by omega) zG _ rfl ?_;intro g2 cap2 w3 hown hgrow hat Cu;refine hK.out _ _ ?_ λhH=>?_
 ·exact⟨(hgrow.cell_far _ zG (by exact ahu)).trans hH.1,(hgrow.cell_far _ zG (by exact ahu)).trans hH.2⟩
 clear hK K;refine tL ?_;refine tB 10 hH ?_;refine tL ?_;refine bq yM ?_ _;clear hH;have hb3:Below w.heap.size w w3:=(hb2.alloc (by omega) _).grown hgrow zG (λq hq=>(ahv.out.lt q hq).1);have hI3:DQ w3 w.heap.size (ae g2 (n+1) cap2) (l++ [T.N.nT]):=by
  unfold DQ;rw[lA,<-HN.out,GW];exact hown
 have H3:=hid (And.intro hb3 hI3);clear hb3 hI3 hown hgrow hat hb1 hb2 Kn hbc hv1;have HBg:=Jk.out w3 H3.out.1;have HBe:=hid (YF HBg);clear HBg
 go_upto_region 3 with(go_at_call 93;refine HBe.out.mono ?_;rintro e w4 ⟨wk,v4,rfl,akx,Be,hb4⟩;have H4:=hid (And.intro Be hb4);clear Be hb4)
 have aky:g2<w3.heap.size:=D8 H3.out.2 rfl;have Fc:T.Bd w3.heap.size:=(Jk.out w3 H3.out.1).bd;have Bk:=hid Fc;have Fx:=H4.out.2.size;go_wp2
 go_loopw [26] (λq wr=>∃(i:Nat) (L:List Pt) (x:Nat) (v:Value),i<=n+1/\q=ab i/\Hid (aF T l i L)/\Hid (Ce wr wk T.tb w3.heap.size v L x)/\Hid (Below w3.heap.size w3 wr)/\Hid (x<=2*i/\L.length<=1+7*i/\BE T.N L)) (λq _=>n+1 - (intOf q).toNat)
 case atStart=>exact⟨0,_,_,v4,by omega,rfl,hid (.inl ⟨dh _,rfl⟩),hid H4.out.1,hid H4.out.2,hid ⟨zn _,by simp,⟨λm hm=>by simp at hm;subst hm;exact hT.nN,λm hm=>by simp at hm⟩⟩⟩
 case round=>
  obtain⟨i,L,x,v,hi,rfl,hp,hw,hb,hbd⟩:=hrel
  by_cases hlt:i<n+1
  ·obtain⟨t,ht⟩:∃t,(l++ [T.N.nT])[i]?=some t:=⟨_,gE (by rw[lA,<-HN.out];exact hlt)⟩
   have ct:wr.cell? (af g2 i)=some (ab t):=by
    exact(hb.out.cell (by exact aky)).trans (H3.out.2.at ht)
   have Lg:t<=T.N.nT:=by
    rcases ig.1 (mG ht)with h1 |h1
    ·exact qp (HL.out t h1)
    ·have:=mS.1 h1;omega
   have Dy:=hid (bM hT (Jk.out wr (H3.out.1.trans (hb.out.mono H3.out.1.size))) Bk.out akx hw.out (by have:=hbd.out.1;omega) (by have:=hbd.out.2.1;omega) hbd.out.2.2 Lg);have hvB:∀g,v.ownBlock=some g->w3.heap.size<=g:=λg hg=>(hw.out.2.lt g hg).1
   have aaZ:=hb.out.size;have Cs:wk<wr.heap.size:=ak hw.out.1;have HPS:=hid (nG (x:=x) hT HL.out hp.out abg hbd.out.2.2 (by have:=hbd.out.1;omega) ht);obtain⟨res,hres⟩:=qE (D2 T.zH T.N.nT t L x);rw[hres]at Dy HPS;obtain⟨rb,rL,rx⟩:=res;clear hres ht hw;cases rb
   ·have Xz:Hid (S6 T l i):=hid (by
     rcases HPS.out with h1 |h1
     ·exact h1.2
     ·cases h1.1)
    clear HPS
    go_wp2_with (go_at_call 116;refine Dy.out.mono ?_;rintro e w5 ⟨v5,rfl,Sr,Ag,Lj⟩;have H5:=hid (Ag.below (B:=w3.heap.size) aaZ (λq hq=>(bk.1 hq).elim (λe=>by omega) (λe=>hvB q Ee)));clear Sr Ag Lj)
    go_ret3
    exact⟨(H3.out.1.trans ((hb.out.trans H5.out).mono H3.out.1.size)),.inr ⟨i,Xz.out,rfl⟩⟩
   ·have Xz:Hid (aF T l (i+1) rL/\rx<=x+2/\rL.length<=L.length+7/\BE T.N rL):=hid (by
     rcases HPS.out with h1 |h1
     ·cases h1.1
     ·exact h1.2)
    clear HPS
    go_wp2_with (go_at_call 116;refine Dy.out.mono ?_;rintro e w5 ⟨v5,rfl,Sr,Ag,Lj⟩;have H5:=hid (And.intro Sr (Ag.below (B:=w3.heap.size) aaZ (λq hq=>(bk.1 hq).elim (λe=>by omega) (λe=>hvB q Ee))));clear Sr Ag Lj)
    go_roundw
    case rel=>exact⟨i+1,rL,rx,v5,by omega,by go_num,hid Xz.out.1,hid H5.out.1,hid (hb.out.trans H5.out.2),hid ⟨by have h1:=Xz.out.2.1;have h2:=hbd.out.1;omega,by have h1:=Xz.out.2.2.1;have h2:=hbd.out.2.1;omega,Xz.out.2.2.2⟩⟩
    case measure=>simp[intOf];omega
  ·obtain rfl:i=n+1:=by omega
   have hend:L=[]/\D4 T.zH [.zi 0] l=some []:=by
    rcases hp.out with⟨h1,_⟩ | ⟨_,h1⟩
    ·have:=HN.out;omega
    ·exact h1
   obtain⟨S,hS⟩:=tI hT.of (XT hT.of hT.led l [.zi 0] hend.2);have hx1:x<=20004:=by have:=hbd.out.1;omega
   have hSl:S.length<=20004:=by have h1:=hS.small hT.led;have h2:=HN.out;simp only[VJ]at h1;omega
   have hI5:T.In wr:=Jk.out wr (H3.out.1.trans (hb.out.mono H3.out.1.size));obtain⟨e0,e1,_⟩:=hI5.tv.Cq;have Cs:wk<wr.heap.size:=ak hw.out.1;have cx:wr.cell? (af wk 2)=some (ab x):=(A0 hw.out.1).trans rfl;have hng:¬((x:Int)>939524096):=by omega
   have aaZ:=hb.out.size;have amt:=H3.out.2;clear hI5
   go_upto_region 12 with(at_make;refine wpList_make_own _ rfl _ _ 40 rfl wr.heap.size 129 iN (.agg #[.string ByteArray.empty,ab 0,ab 0]) 3 Tryz.underlying40 Kl Pr Pu .i64 .i64 x x rfl rfl rfl (by rw[Pv];omega) Bg (zn _) ?_;intro w6 ho6 hg6)
   have Cp:A5 wr w6 []:=(A5.refl wr []).grown hg6 (λk e=>by cases e);have Wy:=Cp.size;have hka:A5 w6 (w6.alloc (.cells #[ac T.tb,ae g2 (n+1) cap2,ae wr.heap.size 0 x] 232)) []:=(A5.refl w6 []).alloc _;have hV7:Ht (w6.alloc (.cells #[ac T.tb,ae g2 (n+1) cap2,ae wr.heap.size 0 x] 232)) w6.heap.size T.tb wr.heap.size (ae g2 (n+1) cap2) (ae wr.heap.size 0 x) (l++ [T.N.nT]) []:=
    ⟨bg w6 _,((((DQ.row H3.out.2 (B':=w3.heap.size) (λg hg=>D8 H3.out.2 hg)).below hb.out).mono aaZ).below ((Cp.below (zn _) (by simp)).trans (hka.below Wy (by simp)))),AC ho6 hka (by simp)⟩
   have afb:Below wr.heap.size wr (w6.alloc (.cells #[ac T.tb,ae g2 (n+1) cap2,ae wr.heap.size 0 x] 232)):=(Cp.below (zn _) (by simp)).trans (hka.below Wy (by simp));have akz:w6.heap.size< (w6.alloc (.cells #[ac T.tb,ae g2 (n+1) cap2,ae wr.heap.size 0 x] 232)).heap.size:=by rw[bh];omega
   obtain⟨W7,hW7⟩:=qE (w6.alloc (.cells #[ac T.tb,ae g2 (n+1) cap2,ae wr.heap.size 0 x] 232));rw[hW7]at hV7 afb akz ⊢;have hbr:Below w.heap.size w wr:=H3.out.1.trans (hb.out.mono H3.out.1.size);have Ml:=hid (hbr.trans (afb.mono hbr.size));have hI7:T.In W7:=Jk.out W7 Ml.out;obtain⟨e0,e1,_⟩:=hI7.tv.Cq;have HBr:Hid (T.Bd wr.heap.size):=hid (Jk.out wr hbr).bd;have HV7:=hid hV7;have HS:=hid hS;have hIb:Hid _:=Jk;clear hW7 hV7 afb hka Cp ho6 hg6 hI7 cx hng hS
   go_wp2_with (first
    | (go_at_call 118;refine(O3 _ _ _).mono ?_;rintro e w8 ⟨rfl,Cm⟩;have Ki:=hid (HV7.out.keeps (A5.zQ Cm []) (by omega) (by simp) (by simp) (by simp));have Se:=hid (Ml.out.trans (Cm.mono Ml.out.size));have hs8:=Cm.size;clear Cm)
    | (go_at_call 117;have hA:=uH hT wr.heap.size HBr.out S.length (.zi 0) l [T.N.nT] S w8 w6.heap.size _ _ [] HS.out (zn _) hT.nN (Jk.out w8 Se.out) Wy (by omega) Ki zG;rw[show((AV (Pt.zi 0):Nat):Int)=0 from rfl,show AW (Pt.zi 0)=true from rfl]at hA;refine hA.mono ?_;clear hA;rintro e w9 ⟨rfl,rv9,nv9,Ux,hb9⟩;have c9:w9.cell? (af w6.heap.size 2)=some nv9:=(A0 Ux.1).trans rfl;have H9:=hid (And.intro Ux hb9);clear Ux hb9))
   have hs0:w.heap.size<=wr.heap.size:=by have:=H3.out.1.size;omega
   go_ret3
   have hb9:Below w.heap.size w w9:=Se.out.trans (H9.out.2.mono hs0);refine⟨hb9,.inl ⟨S,nv9,HS.out,rfl,?_⟩⟩;have h9:=SC H9.out.1.2.2 hs0;simpa using h9
end Go.Proofs.YtjjggdcnpndgjaaGreatDoor
