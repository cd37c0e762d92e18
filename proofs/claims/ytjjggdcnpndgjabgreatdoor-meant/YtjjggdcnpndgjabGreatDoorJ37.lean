import Derived.Test.YtjjggdcnpndgjabGreatDoorJ36
set_option linter.unusedSimpArgs false
set_option maxHeartbeats 8000000
set_option maxRecDepth 100000
namespace Go.Proofs.YtjjggdcnpndgjabGreatDoor
open Go.RowKit Go.Shelf
variable {w:World}
section
section
variable {Q:Wts}{W0:World}{cn ct:Nat->Nat->Nat->Wt}
theorem Mz36 {P:Prop} (h:P:=by
  refine tB 0 hH ?_;refine tB 1 hH ?_;refine tB 2 hH ?_;refine tB 3 hH ?_;refine tB 4 hH ?_;refine tB 5 hH ?_;refine tB 6 hH ?_;refine tB 7 hH ?_;refine tB 9 hH ?_;refine tL ?_;refine tS 8 fun K hK=>?_
  refine tM ?_
  go_simp;refine(HSp.out _ (Below.refl _ wr).drew).mono ?_;rintro e w4 ⟨rfl,hb4⟩;try dsimp only
  refine hK.out _ _ ?_ fun hH=>?_
  ·exact⟨A4 hb4 hH.1,A4 hb4 hH.2.1,A4 hb4 hH.2.2⟩
  clear hK K;refine tB 10 hH ?_;refine tL ?_;refine wpAnyH_done y1Z ?_ _;have HB4:Hid (Below wr.heap.size wr w4):=hid ((Below.refl _ wr).drew.trans hb4);clear hH hb4 t0 t1 t2;go_wp2
  go_roundw
  case rel=>exact⟨a+1,by omega,by omega,by go_num,hid (hbw.out.trans (HB4.out.mono hbw.out.size))⟩
  case measure=>simp[intOf];omega):P:=h
theorem aE (hE0:ScE Q W0 cn ct) {q i k:Nat}{l:List Pt} (hq:BK Q.tls q=some l) (hik:i<=k) (hk:k<=Q.row.length) (hlt:(ct q i k).1<AB)
  (hsub:∀p ps j,l=p::ps->i<=j->j<=k->ct q i k=D3 Q.T.N Q.row cn ct p q i j k->VJ Q W0 cn p i j/\V4 Q W0 ct (q+1) ps j k/\(CZ Q.T.N Q.row cn p i j).1+(ct (q+1) j k).1=(ct q i k).1):V4 Q W0 ct q l i k:=by
 intro W sb v E hb hS hE;have hQ:=hE0.inW hb;have hr100:=hQ.r40;have htl:=hQ.tl20;have htc:=hQ.tlc2;have hsw:sb<W.heap.size:=lt_of_block hS.blk;have hBW:W0.heap.size<=W.heap.size:=hb.size;have hgB:Q.gp<W0.heap.size:=hE0.inn.gpl;have hwbl:=hQ.wbl;have hgtl:=hQ.gtl;have hqQ:=fX hq;obtain⟨gi,gq,hgiB,hgqB,cgi,cgq,wgq⟩:=hE0.tlv hb hik hk;obtain⟨kq1,kq2⟩:=wgq q hqQ;have s0:W.cell? (af sb 0)=some (ac Q.wb):=(A0 hS.blk).trans rfl;have e3:W.cell? (af Q.wb 3)=some (ae Q.gt Q.tls.length Q.ct):=(A0 hQ.blk).trans rfl;have e5:W.cell? (af Q.wb 5)=some (ae Q.gp (Q.row.length+1) (Q.row.length+1)):=(A0 hQ.blk).trans rfl;obtain⟨L1,hL1⟩:=qF (Q.row.length+1);obtain⟨nQ,hnQ⟩:=qF (Q.tls.length);have hiL:((i:Int)< (L1:Int)):=by omega
 have hkL:((k:Int)< (L1:Int)):=by omega
 rw[<-hL1]at e5 cgi;rw[<-hnQ]at e3 cgq wgq htl htc hqQ;have hqi:((q:Int)< (nQ:Int)):=by omega
 obtain⟨c1,hc1⟩:=qE ((ct q i k).1);obtain⟨c2,hc2⟩:=qE ((ct q i k).2);have HCe:Hid (ct q i k=(c1,c2)):=hid (Prod.ext hc1 hc2);rw[hc1]at kq1 hlt hE ⊢;rw[hc2]at kq2;have HE0:=hid hE0;have HQl:Hid (BK Q.tls q=some l):=hid hq;have HSub:=hid hsub;have HB:=hid hb;have HS:=hid hS;have HNQ:Hid (nQ=Q.tls.length/\L1=Q.row.length+1):=hid ⟨hnQ,hL1⟩;unfold AB at hlt;clear hL1 hnQ hQ hc1 hc2 hq hsub hE0 hb hS wgq;show Calls Tryz.prog 113 #[ac sb,ab q,ab i,ab k] W _
 by_cases h0:c1=0
 ·subst h0
  go_enter Tryz.func113,Tryz.ntmps113
  have b0:=BG W #[ab 0,ab c2] 175 0;go_wp2;refine bodyPost_ret (results_none rfl _ _ _) rfl ?_;have hQ:=HE0.out.inW HB.out;have hz:=qS hQ.tab.fc.gr.ok HE0.out.gnf HE0.out.tls HE0.out.pt2 hQ.rl HE0.out.wd _ q i k l (lR_ _) HQl.out hik hk (by rw[HCe.out]);have hr:=Run.keeps (N:=Q.T.N) (row:=Q.row) (k - i) i (by omega);rw[show i+(k - i)=k by omega]at hr;exact⟨rfl,v,[],_,by rw[List.append_nil];exact HS.out.keeps ((A1.refl W []).alloc _) (by simp) (fun _ _=>by simp),⟨((A1.refl W []).alloc _).mono (fun q h=>by cases h),BH.refl _ _⟩,hr,hz⟩
 ·-- the tail has a first part
  obtain⟨p,ps,hl⟩:∃p ps,l=p::ps:=by
   cases l with
   |nil=>
    exfalso;have h1:=(HE0.out.wd i k hik hk).nul q HQl.out;rw[HCe.out]at h1;split at h1
    ·injection h1 with h1 _;exact h0 h1
    ·injection h1 with h1 _;unfold AB at h1;omega
   |cons p ps=>exact⟨p,ps,rfl⟩
  subst hl;obtain⟨j0,hj1,hj2,hj3⟩:∃j,i<=j/\j<=k/\ct q i k=D3 Q.T.N Q.row cn ct p q i j k:=by
   rcases(HE0.out.wd i k hik hk).cutA q p ps HQl.out with h1 |h1
   ·rw[HCe.out]at h1
    injection h1 with h1 _
    unfold AB at h1;omega
   ·exact h1
  have htq:Q.tls[q]?=some (some p):=by
   rcases RW HE0.out.tlk HQl.out with⟨h1,_⟩ | ⟨p',ps',h1,h2⟩
   ·cases h1
   ·injection h1 with h1 _;rw[h1];exact h2
  obtain⟨htq1,_⟩:=MR HE0.out.tlk htq;have hc0:((c1:Int)==0)=false:=by rw[beq_eq_false_iff_ne];omega
  obtain⟨W2,hW2⟩:=qE (W.alloc (.cells #[ab c1,ab c2] 175));have hk2:A1 W W2 []:=by rw[<-hW2];exact(A1.refl W []).alloc _
  have hl2:W2.heap[W.heap.size]?=some (.cells #[ab c1,ab c2] 175 (0,0)):=by rw[<-hW2];exact World.alloc_heap_new W _
  have hs2:W.heap.size<W2.heap.size:=lt_of_block hl2;have hb2:Below W0.heap.size W0 W2:=HB.out.trans (hk2.below hBW (fun q h=>by cases h));have hS2:DH W2 sb W0.heap.size Q.wb v E:=HS.out.keeps hk2 (by simp) (fun _ _=>by simp);have HW2:=hid hW2;have HL2:=hid hl2;have HB2:=hid hb2;have HS2:=hid hS2;have HK2:=hid hk2;have HJ:Hid (D3 Q.T.N Q.row cn ct p q i j0 k=(c1,c2)):=hid (by rw[<-hj3];exact HCe.out);have HTq:=hid htq;have HSpl:Hid (∀V a,Below W2.heap.size W2 V->i<=a->a<=k->Calls Tryz.prog 126 #[ac Q.wb,ab q,ab i,ab a,ab k] V fun e w'=>e=.returned (wtV (D3 Q.T.N Q.row cn ct p q i a k))/\Below V.heap.size V w'):=hid fun V a hbV h1 h2=>by
   have hbW:=HB2.out.trans (hbV.mono (by omega));have hQ:=HE0.out.inW hbW;have ht:=HE0.out.pcs.st (q+1) a k;unfold AB FZ at ht;exact R4 (cn:=cn) (ct:=ct) hQ (B:=W0.heap.size) htq htq1 h1 h2 hk (fun n _=>HE0.out.nm hbW h1 (by omega)) (HE0.out.tlv hbW h2 hk) hbW.size (TJ hQ.tab.fc.gr.ok hQ.rl hQ.r40 HE0.out.pcs.sn (hQ.pto q p htq) i a) ⟨by omega,ht.2⟩
  have hq0:(0:Int)<=(q:Int):=by omega
  clear hj3 hW2 hl2 hb2 hS2 hk2 htq
  go_enter Tryz.func113,Tryz.ntmps113
  have b0:=BG W #[ab c1,ab c2] 175 0
  go_wp2_with fail
  rw[HW2.out];clear b0
  go_loopw [9] (fun z wr=>∃(a:Nat),i<=a/\a<=j0/\z=ab a/\Hid (Below W2.heap.size W2 wr)) (fun z _=>j0 - (intOf z).toNat)
  case atStart=>exact⟨i,lR_ _,hj1,rfl,hid (Below.refl _ _)⟩
  case round=>
   obtain⟨a,ha1,ha2,rfl,hbw⟩:=hrel;have hswr:=hbw.out.size;obtain⟨y,hy⟩:=qE (D3 Q.T.N Q.row cn ct p q i a k);obtain⟨y1,y2⟩:=y;have HSp:Hid (∀V,Below wr.heap.size wr V->Calls Tryz.prog 126 #[ac Q.wb,ab q,ab i,ab a,ab k] V fun e w'=>e=.returned (.agg #[ab y1,ab y2])/\Below V.heap.size V w'):=hid fun V hbV=>by
    have h:=HSpl.out V a (hbw.out.trans (hbV.mono hswr)) ha1 (by omega);rw[hy]at h;exact h
   have t0:wr.cell? (af sb 0)=some (ac Q.wb):=(hbw.out.cell (by show sb<W2.heap.size;omega)).trans ((A0 HS2.out.blk).trans rfl);have t1:wr.cell? (af W.heap.size 0)=some (ab c1):=(hbw.out.cell y61Z).trans ((A0 HL2.out).trans rfl);have t2:wr.cell? (af W.heap.size 1)=some (ab c2):=(hbw.out.cell y61Z).trans ((A0 HL2.out).trans rfl);have HY:=hid hy;clear hy
   by_cases hne:y1=c1
   ·subst hne
    by_cases hne2:y2=c2
    ·subst hne2
     go_upto_region 3 with fail
     refine wp_region_held_drew (S:=fun w'=>w'.cell? (af sb 0)=some (ac Q.wb)/\w'.cell? (af W.heap.size 0)=some (ab y1)/\w'.cell? (af W.heap.size 1)=some (ab y2)) y1Z ⟨t0,t1,t2⟩ (fun hH=>?_);refine tB 0 hH ?_;refine tB 1 hH ?_;refine tB 2 hH ?_;refine tB 3 hH ?_;refine tB 4 hH ?_;refine tB 5 hH ?_;refine tB 6 hH ?_;refine tB 7 hH ?_;refine tB 9 hH ?_;refine tL ?_;refine tS 8 fun K hK=>?_
     refine tM ?_
     go_simp;refine(HSp.out _ (Below.refl _ wr).drew).mono ?_;rintro e w4 ⟨rfl,hb4⟩;try dsimp only
     refine hK.out _ _ ?_ fun hH=>?_
     ·exact⟨A4 hb4 hH.1,A4 hb4 hH.2.1,A4 hb4 hH.2.2⟩
     clear hK K;refine tB 10 hH ?_;refine tL ?_;refine wpAnyH_done y1Z ?_ _;have HB4:Hid (Below wr.heap.size wr w4):=hid ((Below.refl _ wr).drew.trans hb4);clear hH hb4 t0 t1 t2;have hEq:ct q i k=D3 Q.T.N Q.row cn ct p q i a k:=by rw[HCe.out,HY.out]
     obtain⟨hPC,hTC,hsum⟩:=HSub.out p ps a rfl ha1 (by omega) hEq;rw[HCe.out]at hsum;have hsum:(CZ Q.T.N Q.row cn p i a).1+(ct (q+1) a k).1=y1:=hsum;have hb24:Below W2.heap.size W2 w4:=hbw.out.trans (HB4.out.mono hswr);have hs24:=hb24.size;have hbW4:Below W0.heap.size W0 w4:=HB2.out.trans (hb24.mono (by omega));have hS4:DH w4 sb W0.heap.size Q.wb v E:=HS2.out.keeps (A1.of_below hb24 []) (by simp) (fun _ _=>by simp);have hQ4:=HE0.out.inW hbW4;obtain⟨_,r1,r2⟩:=hQ4.tlc q _ HTq.out;have r0:w4.cell? (af sb 0)=some (ac Q.wb):=(A0 hS4.blk).trans rfl;have r3:w4.cell? (af Q.wb 3)=some (ae Q.gt nQ Q.ct):=by rw[HNQ.out.1];exact(A0 hQ4.blk).trans rfl
     replace r1:w4.cell? (af Q.gt (q*3+1))=some (.bool (AQ p)):=r1;replace r2:w4.cell? (af Q.gt (q*3+2))=some (ab (AP p)):=r2;have HPa:Hid (Calls Tryz.prog 51 #[ac sb,.agg #[.bool (AQ p),ab (AP p)],ab i,ab a] w4 fun e w'=>e=.returned (.tuple #[])/\∃(v':Value) (F:List EdP) (b:List Nat),DH w' sb W0.heap.size Q.wb v' (E++F)/\(A1 w4 w' (sb::v.ownBlock.toList)/\BH w4.heap.size v v')/\Run Q.T.N Q.row i F a b (CZ Q.T.N Q.row cn p i a).1/\Der Q.T.N [p] b):=hid (hPC w4 sb v E hbW4 hS4 (by omega));have HTa:Hid (∀V v1 F b1,Below W0.heap.size W0 V->DH V sb W0.heap.size Q.wb v1 (E++F)->Run Q.T.N Q.row i F a b1 (CZ Q.T.N Q.row cn p i a).1->Calls Tryz.prog 113 #[ac sb,ab ((q:Int)+1),ab a,ab k] V fun e w'=>e=.returned (.tuple #[])/\∃(v':Value) (G:List EdP) (b:List Nat),DH w' sb W0.heap.size Q.wb v' (E++F++G)/\(A1 V w' (sb::v1.ownBlock.toList)/\BH V.heap.size v1 v')/\Run Q.T.N Q.row a G k b (ct (q+1) a k).1/\Der Q.T.N ps b):=hid fun V v1 F b1 hbV hSV hR=>hTC V sb v1 (E++F) hbV hSV (by
      have:=hR.len hQ4.tab.fc.gr.ok hQ4.rl;rw[lA];omega)
     obtain⟨bn,hbn⟩:=qE (AQ p);obtain⟨np,hnp⟩:=qE (AP p);rw[hbn]at r1 HPa;rw[hnp]at r2 HPa;have HSum:=hid hsum;have HK4:Hid (A1 W w4 []):=hid (HK2.out.trans (A1.of_below hb24 []));have HBW4:=hid hbW4;have HS4:=hid hS4;have hq1w:IntKind.i64.wrap ((q:Int)+1)=(q:Int)+1:=by rw[w64];omega
     have hs4W:W.heap.size<=w4.heap.size:=by omega
     clear hEq hPC hTC hsum hb24 hbW4 hS4 hQ4 hbn hnp
     go_wp2_with (first
      | (go_at_call 51;refine HPa.out.mono ?_;rintro e w5 ⟨rfl,v1,F1,b1,g1,⟨g2,g3⟩,g4,g5⟩;have H5:=hid (And.intro g1 (And.intro (And.intro g2 g3) (And.intro g4 g5)));clear g1 g2 g3 g4 g5)
      | (go_at_call 113;refine(HTa.out _ _ _ _ (Below.keepsScr HBW4.out rfl HS4.out H5.out.2.1.1) H5.out.1 H5.out.2.2.1).mono ?_;rintro e w6 ⟨rfl,v2,F2,b2,g1,⟨g2,g3⟩,g4,g5⟩;have H6:=hid (And.intro g1 (And.intro (And.intro g2 g3) (And.intro g4 g5)));clear g1 g2 g3 g4 g5))
     go_end0
     obtain⟨a1,⟨a2,a3⟩,a4,a5⟩:=H5.out;obtain⟨z1,⟨z2,z3⟩,z4,z5⟩:=H6.out;have hrun:=a4.append z4;rw[HSum.out]at hrun;refine⟨rfl,v2,F1++F2,b1++b2,by rw[<-aA];exact z1,⟨(HK4.out.mono (fun q h=>by cases h)).trans (a2.fresh z2 a3 (lR_ _)),(BH.refl _ v).trans (a3.trans z3 a2.size) hs4W⟩,hrun,?_⟩;cases p with
     |tok t=>
      cases a5 with
      |tok h=>cases h;exact .tok z5
     |nam n=>
      cases a5 with
      |nam h1 h2 h3=>cases h3;rw[List.append_nil];exact .nam h1 h2 z5
    ·have hnei:¬((y2:Int)=(c2:Int)):=by omega
     have haj:a<j0:=by
      rcases Nat.lt_or_ge a j0 with h |h
      ·exact h
      ·exfalso
       have e:a=j0:=by omega
       have h1:=HY.out;rw[e,HJ.out]at h1;injection h1 with _ h1
       exact hne2 h1.symm
     go_upto_region 3 with fail
     refine wp_region_held_drew (S:=fun w'=>w'.cell? (af sb 0)=some (ac Q.wb)/\w'.cell? (af W.heap.size 0)=some (ab y1)/\w'.cell? (af W.heap.size 1)=some (ab c2)) y1Z ⟨t0,t1,t2⟩ (fun hH=>?_);exact Mz36
   ·have hnei:¬((y1:Int)=(c1:Int)):=by omega
    have haj:a<j0:=by
     rcases Nat.lt_or_ge a j0 with h |h
     ·exact h
     ·exfalso
      have e:a=j0:=by omega
      have h1:=HY.out;rw[e,HJ.out]at h1;injection h1 with h1 _
      exact hne h1.symm
    go_upto_region 3 with fail
    refine wp_region_held_drew (S:=fun w'=>w'.cell? (af sb 0)=some (ac Q.wb)/\w'.cell? (af W.heap.size 0)=some (ab c1)/\w'.cell? (af W.heap.size 1)=some (ab c2)) y1Z ⟨t0,t1,t2⟩ (fun hH=>?_);exact Mz36
theorem qL (hE0:ScE Q W0 cn ct):∀m q i k l,LR (BK Q.tls) q i k (ct q i k).1<m->BK Q.tls q=some l->i<=k->k<=Q.row.length->(ct q i k).1<AB->V4 Q W0 ct q l i k:=by
 intro m
 induction m with
 |zero=>intro q i k l h;omega
 |succ m ih=>
  intro q i k l hm hq hik hk hlt;refine aE hE0 hq hik hk hlt (fun p ps j hl h1 h2 e=>?_);subst hl;have hN:=hE0.inn.tab.fc.gr.ok;have hpt:=hE0.pt hq (List.mem_cons_self ..);obtain⟨s1,s2,s3⟩:=TP hN hE0.gnf hE0.tls hE0.wd hq (fun t e=>by subst e;exact hpt) (fun n e=>by subst e;exact hpt) hlt h1 h2 hk e;refine⟨dE hE0 hpt h1 (by omega) (by omega) (fun n hn=>?_),ih (q+1) j k ps (by omega) (hE0.tls.next _ _ _ hq) h2 hk (by omega),s1⟩;subst hn;have hc:(CZ Q.T.N Q.row cn (.nam n) i j).1=(cn n i j).1:=rfl;refine SM hE0 hpt h1 (by omega) (by omega) (fun r l' hr hl' e'=>?_);obtain⟨s4,s5⟩:=s3 n rfl r hr e';exact ih r i j l' (by omega) hl' h1 (by omega) (by omega)
theorem kU (hE0:ScE Q W0 cn ct) {n i k:Nat} (hn:n<Q.T.N.nN) (hik:i<=k) (hk:k<=Q.row.length) (hlt:(cn n i k).1<AB):ZH Q W0 cn n i k:=by
 refine SM hE0 hn hik hk hlt (fun r l' hr hl' e'=>?_);exact qL hE0 _ r i k l' (Nat.lt_succ_self _) hl' hik hk (by rw[e']at hlt;simpa[named,GE] using hlt)
end
end
section
section
variable {N:NG}{tl:Nat->Option (List Pt)}{hd:Nat->Nat->Prop}{row:List Nat}{cn ct:Nat->Nat->Nat->Wt}
theorem kD (hT:Tls N tl hd) (hW:∀i k,i<=k->k<=row.length->EG N tl hd row cn ct i k) {b:List Nat}{c:Nat} (hb:Der N [.nam 0] b) (ha:Al N row b c):∃a,a<=row.length/\(cn 0 0 a).1+E4 N row a row.length<=c:=by
 obtain⟨rhs,h1,h2⟩:=WJ hb;obtain⟨q,h3,h4⟩:=hT.head 0 rhs h1;obtain⟨a1,d,h5,h6⟩:=XB hT (MF hW) h2 q [] row [] c h4 (by simp) ha;have hl:a1.length<=row.length:=by rw[h5];simp
 have h8:=(MF hW).rule 0 q 0 a1.length h3 (by omega) hl;simp only[List.length_nil,Nat.zero_add]at h6;have h9:E4 N row a1.length row.length=AU N d:=by
  have:=XA (N:=N) (a:=a1) (d:=d);rw[<-h5]at this;exact this
 have h8:(cn 0 0 a1.length).1<=(ct q 0 a1.length).1:=h8;exact⟨a1.length,hl,by omega⟩
end
theorem mT {Q:Wts}{cn ct:Nat->Nat->Nat->Wt} (hT:Tls Q.T.N (BK Q.tls) (FI Q.hds)) (hW:∀i k,i<=k->k<=Q.row.length->EG Q.T.N (BK Q.tls) (FI Q.hds) Q.row cn ct i k) (hex:∃b c,Der Q.T.N [.nam 0] b/\Al Q.T.N Q.row b c/\c<AB) {e:Nat} (he:e=(EZ (DV Q cn) (Q.row.length+1)).2):
  e<=Q.row.length/\(cn 0 0 e).1+E4 Q.T.N Q.row e Q.row.length<AB/\∀b c,Der Q.T.N [.nam 0] b->Al Q.T.N Q.row b c->(cn 0 0 e).1+E4 Q.T.N Q.row e Q.row.length<=c:=by
 obtain⟨h1,h2,h3⟩:=fH (DV Q cn) (Q.row.length+1);have hcost:∀a,(DV Q cn a).1=(cn 0 0 a).1+E4 Q.T.N Q.row a Q.row.length:=fun a=>rfl
 obtain⟨b,c,hb,ha,hc⟩:=hex;obtain⟨a,h4,h5⟩:=kD hT hW hb ha;have h6:=K6 (h3 a (by omega));rw[hcost]at h6;have h7:(EZ (DV Q cn) (Q.row.length+1)).1=DV Q cn e:=by
  rcases fF (DV Q cn) (Q.row.length+1)with h | ⟨_,h⟩
  ·rw[h]at h6;simp only at h6;omega
  ·rw[h,he]
 have hmin:∀a,a<=Q.row.length->(cn 0 0 e).1+E4 Q.T.N Q.row e Q.row.length<=(cn 0 0 a).1+E4 Q.T.N Q.row a Q.row.length:=fun a ha=>by
  have:=K6 (h3 a (by omega));rw[h7,hcost,hcost]at this;exact this
 refine⟨by omega,?_,fun b' c' hb' ha'=>dP hT hW hmin hb' ha'⟩;have:=hmin a h4;omega
theorem ZC {T:Tab} (hI:T.In w) (hTk:T.Ok) {row:List Nat}{rv:Value} (hrw:RwV w w.heap.size rv row) (hrl:∀x∈row,x<T.N.nT) (h100:row.length<=100) (hr0:0< (BD T.N.rules).1.length)
  (hex:∃b c,Der T.N [.nam 0] b/\Al T.N row b c/\c<AB):
  Calls Tryz.prog 27 #[ac T.tb,rv] w fun e w'=>∃(v:Value) (B:Nat) (E:List EdP) (b:List Nat) (c:Nat),e=.returned v/\w.heap.size<=B/\w'.ownsRow B 92 5 v E.length (DM E)/\c<AB/\Run T.N row 0 E row.length b c/\Der T.N [.nam 0] b/\(∀b' c',Der T.N [.nam 0] b'->Al T.N row b' c'->c<=c')/\Below w.heap.size w w':=by
 have HWe:Hid (Calls Tryz.prog 49 #[ac T.tb,rv] w fun e w'=>∃(Q:Wts) (cn ct:Nat->Nat->Nat->Wt),e=.returned (ac Q.wb)/\Q.T=T/\Q.row=row/\Q.tls=(BD T.N.rules).1/\Q.hds=M6 T.N.nN (BD T.N.rules).2/\Q.In w'/\M5 Q w' 0 cn ct/\Below w.heap.size w w'):=hid (oQ hI hrw hrl h100 hr0);have HTk:Hid (Gnf T.N/\Tls T.N (BK (BD T.N.rules).1) (FI (M6 T.N.nN (BD T.N.rules).2))):=hid ⟨mH hTk.of hTk.led,sZ hI.fc.gr.ok⟩;have HEx:=hid hex;obtain⟨aR,cR,rfl,_,_⟩:=hrw;have h0N:0<T.N.nN:=hI.fc.gr.ok.pos;have htl:T.tb<w.heap.size:=hI.bd.tb;clear hI hTk hrl hr0 hex
 go_enter Tryz.func27,Tryz.ntmps27
 go_wp2_with (first
  | (go_at_call 49;refine HWe.out.mono ?_;rintro e W0 ⟨Q,cn,ct,rfl,q1,q2,q3,q4,q5,q6,q7⟩;have HQ:=hid (And.intro q1 (And.intro q2 (And.intro q3 (And.intro q4 (And.intro q5 (And.intro q6 q7))))));clear q1 q2 q3 q4 q5 q6 q7)
  |fail)
 obtain⟨q1,q2,q3,q4,q5,q6,q7⟩:=HQ.out;clear HQ HWe;subst q1;subst q2;have hE0:ScE Q W0 cn ct:=⟨q5,q6,by rw[q3];exact(P6 Q.T.N.rules).ok,by rw[q3,q4];exact HTk.out.2,HTk.out.1⟩;obtain⟨e,he⟩:=qF ((EZ (DV Q cn) (Q.row.length+1)).2);obtain⟨hel,hec,hem⟩:=mT hE0.tls hE0.wd HEx.out he;obtain⟨W1,hW1⟩:=qE (W0.alloc (.cells #[ac Q.wb,.slice none 0 0] 133));have hk1:A1 W0 W1 []:=by rw[<-hW1];exact(A1.refl W0 []).alloc _
 have hb1:W1.heap[W0.heap.size]?=some (.cells #[ac Q.wb,.slice none 0 0] 133 (0,0)):=by rw[<-hW1];exact World.alloc_heap_new W0 _
 have hB1:Below W0.heap.size W0 W1:=hk1.below (lR_ _) (fun q h=>by cases h);have hS1:DH W1 W0.heap.size W0.heap.size Q.wb (.slice none 0 0) []:=⟨hb1,World.ownsRow_nil _ _ _ _,lR_ _⟩;have hgB:Q.gp<W0.heap.size:=q5.gpl;have hws:w.heap.size<=W0.heap.size:=q7.size;have HEnd:Hid (Calls Tryz.prog 50 #[ac W0.heap.size] W1 fun e' w'=>e'=.returned (ab e)/\Below W1.heap.size W1 w'):=hid (by
  rw[he];exact V0 (hE0.inW hB1) hS1 hgB hB1.size q6.sn (fun a ha=>hE0.nm hB1 (Nat.zero_le _) ha))
 have HPart:Hid (∀V,Below W1.heap.size W1 V->Calls Tryz.prog 51 #[ac W0.heap.size,.agg #[.bool true,ab 0],ab 0,ab e] V fun e' w'=>e'=.returned (.tuple #[])/\∃(v':Value) (F:List EdP) (b:List Nat),DH w' W0.heap.size W0.heap.size Q.wb v' F/\(A1 V w' (W0.heap.size::(Value.slice none 0 0).ownBlock.toList)/\BH V.heap.size (.slice none 0 0) v')/\Run Q.T.N Q.row 0 F e b (cn 0 0 e).1/\Der Q.T.N [.nam 0] b):=hid fun V hbV=>by
  have hbW:Below W0.heap.size W0 V:=hB1.trans (hbV.mono hB1.size);have h:=SK (kU hE0 (n:=0) (i:=0) (k:=e) h0N (Nat.zero_le _) hel (by omega)) V W0.heap.size (.slice none 0 0) [] hbW (hS1.keeps (A1.of_below hbV []) (by simp) (fun _ _=>by simp)) (by
   show 0+(cn 0 0 e).1<=3000000;unfold AB at hec;omega)
  exact h
 have HDrop:Hid (∀V v1 F b,Below W0.heap.size W0 V->DH V W0.heap.size W0.heap.size Q.wb v1 F->Run Q.T.N Q.row 0 F e b (cn 0 0 e).1->Calls Tryz.prog 52 #[ac W0.heap.size,ab e,ab Q.row.length] V fun e' w'=>e'=.returned (.tuple #[])/\∃v',DH w' W0.heap.size W0.heap.size Q.wb v' (F++DO Q.T.N Q.row e (Q.row.length - e))/\A1 V w' (W0.heap.size::v1.ownBlock.toList)/\BH V.heap.size v1 v'):=hid fun V v1 F b hbV hSV hR=>by
  have hQ:=hE0.inW hbV;have hl:=hR.len hQ.tab.fc.gr.ok hQ.rl;exact RO hQ hSV hgB hbV.size hel (lR_ _) (by unfold AB at hec;omega)
 obtain⟨d0,d1,_⟩:=(hE0.inW hB1).tab.tv.heads;have htl0:Q.T.tb<W0.heap.size:=by omega
 have HN:Hid (Q.T.N.Ok/\∀x∈Q.row,x<Q.T.N.nT):=hid ⟨q5.tab.fc.gr.ok,q5.rl⟩;obtain⟨nT,hnT⟩:=qF (Q.T.N.nT);obtain⟨nN,hnN⟩:=qF (Q.T.N.nN);obtain⟨L,hL⟩:=qF (Q.row.length);rw[<-hnT]at d0;rw[<-hnN]at d1;rw[<-hL]at HDrop hel hec hem h100 ⊢;have HL:=hid hL;have HMin:=hid (And.intro hec hem);have HB1:=hid hB1;have HS1:=hid hS1;have H7:=hid q7;have hs1:W0.heap.size<W1.heap.size:=lt_of_block hb1;rw[hW1];clear hW1 hk1 hb1 hB1 hS1 he hem hec hnT hnN hL hE0 q3 q4 q5 q6 q7
 go_wp2_with (first
  | (go_at_call 50;refine HEnd.out.mono ?_;rintro e' w2 ⟨rfl,hb2⟩;have H2:=hid hb2;have d2:=(hb2.cell (p:=(af Q.T.tb 0)) (by show Q.T.tb<W1.heap.size;omega)).trans d0;have d3:=(hb2.cell (p:=(af Q.T.tb 1)) (by show Q.T.tb<W1.heap.size;omega)).trans d1;clear hb2 d0 d1)
  | (go_at_call 34;refine(NJ _ _ _).mono ?_;rintro e' w3 ⟨rfl,hb3⟩;have H3:Hid (Below W1.heap.size W1 w3):=hid (H2.out.trans (hb3.mono H2.out.size));clear hb3)
  | (go_at_call 51;refine(HPart.out _ H3.out).mono ?_;rintro e' w4 ⟨rfl,v1,F,b,g1,⟨g2,g3⟩,g4,g5⟩;have H4:=hid (And.intro g1 (And.intro g2 (And.intro g4 g5)));clear g1 g2 g3 g4 g5)
  | (go_at_call 52;refine(HDrop.out _ _ _ _ (Below.keepsScr (HB1.out.trans (H3.out.mono HB1.out.size)) rfl (HS1.out.keeps (A1.of_below H3.out []) (by simp) (fun _ _=>by simp)) H4.out.2.1) H4.out.1 H4.out.2.2.1).mono ?_;rintro e' w5 ⟨rfl,v2,g1,g2,g3⟩;have H5:=hid (And.intro g1 g2);have c5:w5.cell? (af W0.heap.size 1)=some v2:=(A0 g1.blk).trans rfl;clear g1 g2 g3))
 go_ret;have hr:=Run.drops (N:=Q.T.N) (row:=Q.row) (L - e) e y45Z;rw[show e+(L - e)=L by omega]at hr;have hrun:=H4.out.2.2.1.append hr;rw[List.append_nil]at hrun;refine⟨v2,W0.heap.size,_,b,_,rfl,hws,H5.out.1.row,HMin.out.1,?_,H4.out.2.2.2,HMin.out.2,?_⟩
 ·have e1:E4 Q.T.N Q.row e L=AU Q.T.N ((Q.row.drop e).take (L - e)):=rfl
  rw[e1,<-HL.out];exact hrun
 ·have hB4:=Below.keepsScr (HB1.out.trans (H3.out.mono HB1.out.size)) rfl (HS1.out.keeps (A1.of_below H3.out []) (by simp) (fun _ _=>by simp)) H4.out.2.1
  exact H7.out.trans ((Below.keepsScr hB4 rfl H4.out.1 H5.out.2).mono hws)
end
theorem OK {B B' e sz n:Nat}{v:Value}{xs:List Value} (h:w.ownsRow B e sz v n xs) (hB:B'<=B):w.ownsRow B' e sz v n xs:=by
 obtain⟨h1,h2⟩:=h;refine⟨h1,?_⟩
 rcases h2 with h2 | ⟨g,cap,cur,hv,hg,r⟩
 ·exact .inl h2
 ·exact .inr ⟨g,cap,cur,hv,lT_ hB hg,r⟩
theorem XK {T:Tab} (hT:T.Ok)  (hI:T.In w) {l:List Nat}{rv:Value} (hr:vC w w.heap.size rv l) (hl:∀x∈l,x<T.N.nT) (hlen:l.length<=10000):
  Calls Tryz.prog 21 #[ac T.tb,rv] w fun e w'=>Below w.heap.size w w'/\
   ((∃S v,TrL T.rul [.nam 0] l S/\e=.returned (.tuple #[v,ab (-1),ab 0])/\w'.ownsRow w.heap.size 142 3 v S.length (BR (S.map (N4 T))))\/
    (∃i:Nat,KU T l i/\e=.returned (.tuple #[.slice none 0 0,ab i,ab 0]))):=by
 obtain⟨iN,hiN,hzN0,hzN1,hzN2⟩:=info_parts Tryz.infoB142;obtain⟨iI,hiI,hzI0,hzI1,hzI2⟩:=info_parts Tryz.infoX3;obtain⟨d0,d1,_⟩:=hI.tv.heads;have hBd:=hI.bd;have hT20:T.N.nT<=20:=hI.fc.gr.leT;have hlt:T.tb<w.heap.size:=hBd.tb;have HIa:Hid (∀W,Below w.heap.size w W->T.In W):=hid fun W hb=>hI.below hBd hb
 have HCl:Hid (∀W,Below w.heap.size w W->Calls Tryz.prog 30 #[rv] W fun e w'=>∃v',e=.returned v'/\D8 w' W.heap.size v' l/\Below W.heap.size W w'):=hid fun W hb=>gQ W w.heap.size hb.size rv l ⟨hr.1.below hb,hr.2⟩ (by omega)
 have HL:Hid (∀x∈l,x<T.N.nT):=hid hl;obtain⟨n,hn⟩:=qF (l.length);have HN:Hid (n=l.length):=hid hn;rw[<-hn]at hlen;clear hI hr hl hn
 go_enter Tryz.func21,Tryz.ntmps21
 go_upto_region 1 with fail
 refine wp_region_held_drew (S:=fun w'=>w'.cell? (af T.tb 0)=some (.slice T.adT T.N.nT T.capT)/\w'.cell? (af T.tb 1)=some (ae T.gN T.N.nN T.capN)) y1Z ⟨d0,d1⟩ (fun hH=>?_);refine tB 0 hH ?_;refine tB 2 hH ?_;refine tB 3 hH ?_;refine tB 4 hH ?_;refine tB 5 hH ?_;refine tB 6 hH ?_;refine tL ?_;refine tS 1 fun K hK=>?_
 refine tM ?_
 go_simp;refine(HCl.out _ (Below.refl _ w).drew).mono ?_;rintro e w1 ⟨v1,rfl,hv1,hbc⟩;try dsimp only
 refine hK.out _ _ ?_ fun hH=>?_
 ·exact⟨(hbc.cell (by exact hlt)).trans hH.1,(hbc.cell (by exact hlt)).trans hH.2⟩
 clear hK K;refine tL ?_;have hs1:w.heap.size<=w1.heap.size:=hbc.size;have hb1:Below w.heap.size w w1:=(Below.refl _ w).drew.trans hbc;refine tS 7 fun K hK=>?_
 refine tM ?_
 go_simp;refine(MO _ _ _ _ _ _ _).mono ?_;rintro e w2 ⟨rfl,hbe⟩;try dsimp only
 refine hK.out _ _ ?_ fun hH=>?_
 ·exact⟨(hbe.cell (by show T.tb<w1.heap.size;omega)).trans hH.1,(hbe.cell (by show T.tb<w1.heap.size;omega)).trans hH.2⟩
 clear hK K;refine tL ?_;have hs2:w1.heap.size<=w2.heap.size:=hbe.size;have hb2:Below w.heap.size w w2:=hb1.trans (hbe.mono hs1);have HO2:Hid (D8 w2 w.heap.size v1 l):=hid (A8 (hv1) (A1.of_below hbe []) (by simp));have hogT:some T.tb≠v1.ownBlock:=fun e=>by have h1:=(HO2.out.lt _ e.symm).1;omega
 refine tS 8 fun K hK=>?_
 refine tM ?_;go_simp;refine hK.out _ _ ?_ fun hH=>?_
 ·exact⟨A2 _ hH.1,A2 _ hH.2⟩
 clear hK K;refine tL ?_;have HO2':Hid (w2.ownsRow w.heap.size 3 1 v1 n (D9 l)):=hid (by rw[HN.out];exact HO2.out);refine tS 9 fun K hK=>?_
 refine tM ?_;rw[if_pos (by rfl)];refine wp_append_lies _ (.tmp 13) (.tmp 20) 22 rfl w.heap.size 3 iI (ab 0) 1 8 Tryz.underlying22 hiI hzI0 hzI1 hzI2 rfl (by decide) v1 _ _ rfl (HO2'.out.alloc _) (af w2.heap.size 0) 1 1 [ab T.N.nT] rfl rfl (World.news_of_block (fr:=(0,0)) (heap_alloc_new w2 _)) y4Z (by omega) y3Z (by omega) y2Z _ rfl ?_;intro g2 cap2 w3 hown hgrow hat hlt2;refine hK.out _ _ ?_ fun hH=>?_
 ·exact⟨(hgrow.cell_far _ y2Z (by exact hogT)).trans hH.1,(hgrow.cell_far _ y2Z (by exact hogT)).trans hH.2⟩
 clear hK K;refine tL ?_;refine tB 10 hH ?_;refine tL ?_;refine wpAnyH_done y1Z ?_ _;clear hH;have hb3:Below w.heap.size w w3:=(hb2.alloc (by omega) _).grown hgrow y2Z (fun q hq=>(HO2'.out.lt q hq).1);have hI3:D8 w3 w.heap.size (ae g2 (n+1) cap2) (l++ [T.N.nT]):=by
  unfold D8;rw[lA,<-HN.out,GI];exact hown
 have H3:=hid (And.intro hb3 hI3);clear hb3 hI3 hown hgrow hat hb1 hb2 hbe hbc hv1;have HBg:=HIa.out w3 H3.out.1;have HBe:=hid (XO HBg);clear HBg
 go_upto_region 3 with(go_at_call 26;refine HBe.out.mono ?_;rintro e w4 ⟨wk,v4,rfl,hwk4,hW4,hb4⟩;have H4:=hid (And.intro hW4 hb4);clear hW4 hb4)
 have hg2l:g2<w3.heap.size:=CK H3.out.2 rfl;have hB4:T.Bd w3.heap.size:=(HIa.out w3 H3.out.1).bd;have HB4:=hid hB4;have hs4:=H4.out.2.size;go_wp2
 go_loopw [26] (fun q wr=>∃(i:Nat) (L:List Pt) (x:Nat) (v:Value),i<=n+1/\q=ab i/\Hid (ZI T l i L)/\Hid (WkV wr wk T.tb w3.heap.size v L x)/\Hid (Below w3.heap.size w3 wr)/\Hid (x<=2*i/\L.length<=1+7*i/\AY T.N L)) (fun q _=>n+1 - (intOf q).toNat)
 case atStart=>exact⟨0,_,_,v4,by omega,rfl,hid (.inl ⟨Nat.zero_le _,rfl⟩),hid H4.out.1,hid H4.out.2,hid ⟨lR_ _,by simp,⟨fun m hm=>by simp at hm;subst hm;exact hT.nN,fun m hm=>by simp at hm⟩⟩⟩
 case round=>
  obtain⟨i,L,x,v,hi,rfl,hp,hw,hb,hbd⟩:=hrel
  by_cases hlt:i<n+1
  ·obtain⟨t,ht⟩:∃t,(l++ [T.N.nT])[i]?=some t:=⟨_,gE (by rw[lA,<-HN.out];exact hlt)⟩
   have ct:wr.cell? (af g2 i)=some (ab t):=by
    exact(hb.out.cell (by exact hg2l)).trans (H3.out.2.at ht)
   have htn:t<=T.N.nT:=by
    rcases List.mem_append.1 (mG ht)with h1 |h1
    ·exact Nat.le_of_lt (HL.out t h1)
    ·have:=mS.1 h1;omega
   have HTk:=hid (aF hT (HIa.out wr (H3.out.1.trans (hb.out.mono H3.out.1.size))) HB4.out hwk4 hw.out (by have:=hbd.out.1;omega) (by have:=hbd.out.2.1;omega) hbd.out.2.2 htn);have hvB:∀g,v.ownBlock=some g->w3.heap.size<=g:=fun g hg=>(hw.out.2.lt g hg).1
   have hbsz:=hb.out.size;have hwl:wk<wr.heap.size:=lt_of_block hw.out.1;have HPS:=hid (oP (x:=x) hT HL.out hp.out y63Z hbd.out.2.2 (by have:=hbd.out.1;omega) ht);obtain⟨res,hres⟩:=qE (CJ T.rul T.N.nT t L x);rw[hres]at HTk HPS;obtain⟨rb,rL,rx⟩:=res;clear hres ht hw;cases rb
   ·have HSt:Hid (KU T l i):=hid (by
     rcases HPS.out with h1 |h1
     ·exact h1.2
     ·cases h1.1)
    clear HPS
    go_wp2_with (go_at_call 32;refine HTk.out.mono ?_;rintro e w5 ⟨v5,rfl,hw5,hk5,hf5⟩;have H5:=hid (hk5.below (B:=w3.heap.size) hbsz (fun q hq=>(List.mem_cons.1 hq).elim (fun e=>by omega) (fun e=>hvB q y7Z)));clear hw5 hk5 hf5)
    go_ret3
    exact⟨(H3.out.1.trans ((hb.out.trans H5.out).mono H3.out.1.size)),.inr ⟨i,HSt.out,rfl⟩⟩
   ·have HSt:Hid (ZI T l (i+1) rL/\rx<=x+2/\rL.length<=L.length+7/\AY T.N rL):=hid (by
     rcases HPS.out with h1 |h1
     ·cases h1.1
     ·exact h1.2)
    clear HPS
    go_wp2_with (go_at_call 32;refine HTk.out.mono ?_;rintro e w5 ⟨v5,rfl,hw5,hk5,hf5⟩;have H5:=hid (And.intro hw5 (hk5.below (B:=w3.heap.size) hbsz (fun q hq=>(List.mem_cons.1 hq).elim (fun e=>by omega) (fun e=>hvB q y7Z))));clear hw5 hk5 hf5)
    go_roundw
    case rel=>exact⟨i+1,rL,rx,v5,by omega,by go_num,hid HSt.out.1,hid H5.out.1,hid (hb.out.trans H5.out.2),hid ⟨by have h1:=HSt.out.2.1;have h2:=hbd.out.1;omega,by have h1:=HSt.out.2.2.1;have h2:=hbd.out.2.1;omega,HSt.out.2.2.2⟩⟩
    case measure=>simp[intOf];omega
  ·obtain rfl:i=n+1:=by omega
   have hend:L=[]/\BF T.rul [.nam 0] l=some []:=by
    rcases hp.out with⟨h1,_⟩ | ⟨_,h1⟩
    ·have:=HN.out;omega
    ·exact h1
   obtain⟨S,hS⟩:=pE hT.of (VX hT.of hT.led l [.nam 0] hend.2);have hx1:x<=20004:=by have:=hbd.out.1;omega
   have hSl:S.length<=20004:=by have h1:=hS.small hT.led;have h2:=HN.out;simp only[U5]at h1;omega
   have hI5:T.In wr:=HIa.out wr (H3.out.1.trans (hb.out.mono H3.out.1.size));obtain⟨e0,e1,_⟩:=hI5.tv.heads;have hwl:wk<wr.heap.size:=lt_of_block hw.out.1;have cx:wr.cell? (af wk 2)=some (ab x):=(A0 hw.out.1).trans rfl;have hng:¬((x:Int)>939524096):=by omega
   have hbsz:=hb.out.size;have hI3w:=H3.out.2;clear hI5
   go_upto_region 12 with(at_make;refine wpList_make_own _ rfl _ _ 33 rfl wr.heap.size 142 iN (.agg #[.string ByteArray.empty,ab 0,ab 0]) 3 Tryz.underlying33 hiN hzN0 hzN1 .i64 .i64 x x rfl rfl rfl (by rw[hzN2];omega) y3Z (lR_ _) ?_;intro w6 ho6 hg6)
   have hk6:A1 wr w6 []:=(A1.refl wr []).grown hg6 (fun k e=>by cases e);have hs6:=hk6.size;have hka:A1 w6 (w6.alloc (.cells #[ac T.tb,ae g2 (n+1) cap2,ae wr.heap.size 0 x] 102)) []:=(A1.refl w6 []).alloc _;have hV7:BdV (w6.alloc (.cells #[ac T.tb,ae g2 (n+1) cap2,ae wr.heap.size 0 x] 102)) w6.heap.size T.tb wr.heap.size (ae g2 (n+1) cap2) (ae wr.heap.size 0 x) (l++ [T.N.nT]) []:=
    ⟨World.alloc_heap_new w6 _,((((D8.row H3.out.2 (B':=w3.heap.size) (fun g hg=>CK H3.out.2 hg)).below hb.out).mono hbsz).below ((hk6.below (lR_ _) (by simp)).trans (hka.below hs6 (by simp)))),A8 ho6 hka (by simp)⟩
   have hbW7:Below wr.heap.size wr (w6.alloc (.cells #[ac T.tb,ae g2 (n+1) cap2,ae wr.heap.size 0 x] 102)):=(hk6.below (lR_ _) (by simp)).trans (hka.below hs6 (by simp));have hsz7:w6.heap.size< (w6.alloc (.cells #[ac T.tb,ae g2 (n+1) cap2,ae wr.heap.size 0 x] 102)).heap.size:=by rw[World.size_alloc];omega
   obtain⟨W7,hW7⟩:=qE (w6.alloc (.cells #[ac T.tb,ae g2 (n+1) cap2,ae wr.heap.size 0 x] 102));rw[hW7]at hV7 hbW7 hsz7 ⊢;have hbr:Below w.heap.size w wr:=H3.out.1.trans (hb.out.mono H3.out.1.size);have HB7:=hid (hbr.trans (hbW7.mono hbr.size));have hI7:T.In W7:=HIa.out W7 HB7.out;obtain⟨e0,e1,_⟩:=hI7.tv.heads;have HBr:Hid (T.Bd wr.heap.size):=hid (HIa.out wr hbr).bd;have HV7:=hid hV7;have HS:=hid hS;have hIb:Hid _:=HIa;clear hW7 hV7 hbW7 hka hk6 ho6 hg6 hI7 cx hng hS
   go_wp2_with (first
    | (go_at_call 34;refine(NJ _ _ _).mono ?_;rintro e w8 ⟨rfl,hb8⟩;have HV8:=hid (HV7.out.keeps (A1.of_below hb8 []) (by omega) (by simp) (by simp) (by simp));have HB8:=hid (HB7.out.trans (hb8.mono HB7.out.size));have hs8:=hb8.size;clear hb8)
    | (go_at_call 33;have hA:=uR hT wr.heap.size HBr.out S.length (.nam 0) l [T.N.nT] S w8 w6.heap.size _ _ [] HS.out (lR_ _) hT.nN (HIa.out w8 HB8.out) hs6 (by omega) HV8 y2Z;rw[show((AP (Pt.nam 0):Nat):Int)=0 from rfl,show AQ (Pt.nam 0)=true from rfl]at hA;refine hA.mono ?_;clear hA;rintro e w9 ⟨rfl,rv9,nv9,hV9,hb9⟩;have c9:w9.cell? (af w6.heap.size 2)=some nv9:=(A0 hV9.1).trans rfl;have H9:=hid (And.intro hV9 hb9);clear hV9 hb9))
   have hs0:w.heap.size<=wr.heap.size:=by have:=H3.out.1.size;omega
   go_ret3
   have hb9:Below w.heap.size w w9:=HB8.out.trans (H9.out.2.mono hs0);refine⟨hb9,.inl ⟨S,nv9,HS.out,rfl,?_⟩⟩;have h9:=OK H9.out.1.2.2 hs0;simpa using h9
end Go.Proofs.YtjjggdcnpndgjabGreatDoor
