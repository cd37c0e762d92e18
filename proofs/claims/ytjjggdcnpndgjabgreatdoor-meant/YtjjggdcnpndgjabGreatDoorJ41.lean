import Derived.Test.YtjjggdcnpndgjabGreatDoorJ40
set_option linter.unusedSimpArgs false
set_option maxHeartbeats 8000000
set_option maxRecDepth 100000
namespace Go.Proofs.YtjjggdcnpndgjabGreatDoor
open Go.RowKit Go.Shelf
variable {B n t:Nat}{N:NG}{m:Mk}{v:Value}{w:World}
theorem cM {T:Tab}{l:List Nat}{i:Nat} (h:KU T l i) (hr:BF T.rul [.nam 0] l=some []):False:=by
 obtain⟨L,h1,h2 | ⟨h2,h3⟩⟩:=h
 ·have h4:BF T.rul [.nam 0] (l.take (i+1)++l.drop (i+1))=some []:=by rw[List.take_append_drop];exact hr
  obtain⟨L',h5,_⟩:=LL h4;rw[h2.2]at h5;cases h5
 ·rw[h2,List.take_length,hr]at h1
  injection h1 with h1
  exact h3 h1.symm
theorem UR:∀{l:List EdP}{k:Nat}{e:EdP},l[k]?=some e->(DM l)[k*5]?=some (ab e.loc)/\(DM l)[k*5+1]?=some (ab e.kind)/\(DM l)[k*5+2]?=some (ab e.old)/\(DM l)[k*5+3]?=some (ab e.new)/\(DM l)[k*5+4]?=some (ab e.cost)
 | [],k,e,h=>by cases h
 |a::l,0,e,h=>by
  obtain rfl:a=e:=by simpa using h
  exact⟨rfl,rfl,rfl,rfl,rfl⟩
 |a::l,k+1,e,h=>by
  have h:l[k]?=some e:=by simpa using h
  obtain⟨h0,h1,h2,h3,h4⟩:=UR h;have e1:DM (a::l)=EC a++DM l:=rfl;have e5:(EC a).length=5:=rfl;rw[e1];refine⟨?_,?_,?_,?_,?_⟩
  ·rw[aR_ (by omega),e5,show(k+1)*5 - 5=k*5 by omega];exact h0
  ·rw[aR_ (by omega),e5,show(k+1)*5+1 - 5=k*5+1 by omega];exact h1
  ·rw[aR_ (by omega),e5,show(k+1)*5+2 - 5=k*5+2 by omega];exact h2
  ·rw[aR_ (by omega),e5,show(k+1)*5+3 - 5=k*5+3 by omega];exact h3
  ·rw[aR_ (by omega),e5,show(k+1)*5+4 - 5=k*5+4 by omega];exact h4
theorem nY  (hN:N.Ok) {l:List Pt}{b:List Nat} (h:Der N l b):(∀t,Pt.tok t∈l->t<N.nT)->∀x∈b,x<N.nT:=by
 induction h with
 |nil=>intro _ x hx;cases hx
 |tok h ih=>
  intro hl x hx
  rcases List.mem_cons.1 hx with e |e
  ·subst e;exact hl _ (List.mem_cons_self ..)
  ·exact ih (fun t ht=>hl t (List.mem_cons_of_mem _ ht)) x e
 |nam hm h1 h2 ih1 ih2=>
  intro hl x hx
  rcases List.mem_append.1 hx with e |e
  ·exact ih1 (fun t ht=>hN.pt _ hm t ht) x e
  ·exact ih2 (fun t ht=>hl t (List.mem_cons_of_mem _ ht)) x e
theorem sV  (hG:Gnf N) {b:List Nat} (h:Der N [.nam n] b):b≠ []:=by
 obtain⟨rhs,h1,h2⟩:=WJ h;obtain⟨t,ps,h3⟩:=hG _ h1;simp only at h3;subst h3;cases h2 with
 |tok _=>simp
theorem aD {w':World}{S:List Nat}{e sz:Nat}{xs:List Value} (h:w.ownsRow B e sz v n xs) (hk:A1 w w' S) (hS:∀q∈S,∃c t f,w.heap[q]?=some (.cells c t f)/\e≠t):w'.ownsRow B e sz v n xs:=
 A8 h hk (fun g hg hm=>by
  obtain⟨c,t,f,h1,h2⟩:=hS g hm;exact A6 h h1 h2 hg)
structure M9 (T:Tab) (w:World) (B:Nat) (row:List Nat) (E:List EdP) (b:List Nat) (c:Nat) (S:List IM) (ve vc vr vt vx:Value) (xs:List Value) (X:List (List ByteArray)):Prop where
 run:Run T.N row 0 E row.length b c
 tree:TrL T.rul [.nam 0] b S
 least:∀b' c',Der T.N [.nam 0] b'->Al T.N row b' c'->c<=c'
 ed:w.ownsRow B 42 4 ve E.length (E.flatMap (aeC T))
 co:D8 w B vc (E.map (·.cost))
 wd:w.ownsRow B 9 1 vr b.length (wdC T b)
 nd:w.ownsRow B 142 3 vt S.length (BR (S.map (N4 T)))
 xr:w.ownsRow B 30 1 vx xs.length xs
 xl:xs.length=E.length/\X.length=E.length
 xw:∀(i:Nat) u l,xs[i]?=some u->X[i]?=some l->DR w B u l
 ex:OV T row E X
theorem pR {T:Tab} (hI:T.In w) (hTk:T.Ok) (hTab:∀V,Below w.heap.size w V->TabAt 0 Lib.deBruijn32tab V) {row:List Nat}{rv:Value} (hrw:RwV w w.heap.size rv row) (hrl:∀x∈row,x<T.N.nT) (h100:row.length<=100) (hr0:0< (BD T.N.rules).1.length)
  (hex:∃b c,Der T.N [.nam 0] b/\Al T.N row b c/\c<=9000):
  Calls Tryz.prog 19 #[ac T.tb,rv] w fun r w'=>∃E b c S ve vc vr vt vx xs X,r=.returned (.tuple #[.agg #[ve,vc,ab (c:Nat),vr,vt,vx],ab 0])/\M9 T w' w.heap.size row E b c S ve vc vr vt vx xs X/\Below w.heap.size w w':=by
 have HI:Hid (∀V,Below w.heap.size w V->T.In V):=hid fun V hb=>hI.below hI.bd hb
 have HTk:Hid T.Ok:=hid hTk;have HTab:=hid hTab;have HRw:Hid (∀V,Below w.heap.size w V->RwV V w.heap.size rv row):=hid fun V hb=>hrw.below hb
 have HRl:Hid (∀x∈row,x<T.N.nT):=hid hrl;have HEx:=hid hex;have HR0:=hid hr0;have HBd:Hid (T.Bd w.heap.size):=hid hI.bd;obtain⟨aR,cR,hrv,hcR,_⟩:=hrw;have htl:T.tb<w.heap.size:=hI.bd.tb;obtain⟨L0,hL0⟩:=qF (row.length);rw[<-hL0]at hrv hcR h100;have HL:=hid hL0;subst hrv;have HBeg:Hid (∀V,Below w.heap.size w V->Calls Tryz.prog 26 #[ac T.tb] V fun e w'=>∃wk v,e=.returned (ac wk)/\V.heap.size<=wk/\WkV w' wk T.tb V.heap.size v [.nam 0] 0/\Below V.heap.size V w'):=hid fun V hb=>XO (HI.out V hb)
 clear hI hTk hTab hrl hex hr0 hL0
 go_enter Tryz.func19,Tryz.ntmps19
 go_upto_region 1 with fail
 obtain⟨W1,hW1⟩:=qE (w.alloc (.cells #[.slice none 0 0,.slice none 0 0,ab 0,.slice none 0 0,.slice none 0 0,.slice none 0 0] 36));have hb1:Below w.heap.size w W1:=by rw[<-hW1];exact(Below.refl _ w).alloc (lR_ _) _
 have hr1:W1.heap[w.heap.size]?=some (.cells #[.slice none 0 0,.slice none 0 0,ab 0,.slice none 0 0,.slice none 0 0,.slice none 0 0] 36 (0,0)):=by rw[<-hW1];exact World.alloc_heap_new w _
 rw[hW1];clear hW1;obtain⟨B,hBe⟩:=qF (W1.heap.size);have hwB:w.heap.size<B:=by rw[hBe];exact lt_of_block hr1
 have HBe:=hid hBe;have HB1:=hid hb1;have HR1:=hid hr1;have HBegB:Hid (Calls Tryz.prog 26 #[ac T.tb] W1 fun e w'=>∃wk v,e=.returned (ac wk)/\B<=wk/\WkV w' wk T.tb B v [.nam 0] 0/\Below B W1 w'):=hid (by rw[hBe];exact HBeg.out W1 hb1);clear hb1 hr1 hBe HBeg
 go_upto_region 2 with(go_at_call 26;refine HBegB.out.mono ?_;rintro r W2 ⟨wk,ws,rfl,hwk,hwv,hb2⟩;have H2:=hid (And.intro hwk (And.intro hwv hb2));clear hwk hwv hb2)
 obtain⟨W3,hW3⟩:=qE (W2.alloc (.cells #[ac T.tb,.slice aR L0 cR,ab 0,.slice none 0 0,ac wk,.slice none 0 0,.slice none 0 0,ab 0,.slice none 0 0,.slice none 0 0,.slice none 0 0] 88));have hb3:Below W2.heap.size W2 W3:=by rw[<-hW3];exact(Below.refl _ W2).alloc (lR_ _) _
 have hm3:W3.heap[W2.heap.size]?=some (.cells #[ac T.tb,.slice aR L0 cR,ab 0,.slice none 0 0,ac wk,.slice none 0 0,.slice none 0 0,ab 0,.slice none 0 0,.slice none 0 0,.slice none 0 0] 88 (0,0)):=by rw[<-hW3];exact World.alloc_heap_new W2 _
 rw[hW3];clear hW3;have hB2:B<=W2.heap.size:=by have:=H2.out.2.2.size;rw[HBe.out];exact this
 have hBW3:Below B W1 W3:=H2.out.2.2.trans (hb3.mono hB2);have hw3:Below w.heap.size w W3:=HB1.out.trans (hBW3.mono (by omega));have hs3:W2.heap.size<W3.heap.size:=lt_of_block hm3;have hMd3:MdT T W3 W2.heap.size wk B (.slice aR L0 cR) 0 0 [] [] [.nam 0] []:=⟨0,⟨.slice none 0 0,.slice none 0 0,.slice none 0 0,.slice none 0 0,.slice none 0 0,ws,[],
  {blk:=hm3
   rows:=fun j hj=>by rcases hj with e |e |e |e |e <;> subst e <;> exact World.ownsRow_nil _ _ _ _
   kind:=uY
   ap:=fun j j' hj _ _ g hg=>by rcases hj with e |e |e |e |e <;> subst e <;> cases hg
   wkv:=H2.out.2.1.keeps (A1.of_below hb3 []) (by simp) (fun _ _=>by simp)
   len:=rfl
   ex:=fun i u l h=>by cases h
   ea:=fun u hu=>by cases hu
   mbB:=hB2
   wkB:=H2.out.1}⟩,lR_ _,lR_ _,⟨fun n hn=>by
    have:n=0:=by simpa using hn
    subst this;exact(HI.out w (Below.refl _ _)).fc.gr.ok.pos,fun t ht=>by simp at ht⟩⟩
 have HMd3:=hid hMd3;have HW3:=hid hw3;have HBW3:=hid hBW3;have HCh:Hid (Calls Tryz.prog 27 #[ac T.tb,.slice aR L0 cR] W3 fun e w'=>∃(v:Value) (B':Nat) (E:List EdP) (b:List Nat) (c:Nat),e=.returned v/\W3.heap.size<=B'/\w'.ownsRow B' 92 5 v E.length (DM E)/\c<AB/\Run T.N row 0 E row.length b c/\Der T.N [.nam 0] b/\(∀b' c',Der T.N [.nam 0] b'->Al T.N row b' c'->c<=c')/\Below W3.heap.size W3 w'):=hid (ZC (HI.out W3 hw3) HTk.out ((HRw.out W3 hw3).mono hw3.size) HRl.out (by rw[<-HL.out];exact h100) HR0.out (by
  obtain⟨b,c,h1,h2,h3⟩:=HEx.out;exact⟨b,c,h1,h2,by unfold AB;omega⟩))
 clear hm3 hb3 hMd3 hBW3 hw3 HBegB
 go_wp2_with (go_at_call 27;refine HCh.out.mono ?_;rintro r W4 ⟨v,B',E,b,c,rfl,hB',hrow,_,hrun,hder,hmin,hb4⟩;obtain⟨va,vc,rfl⟩:=BI hrow;have H4:=hid (And.intro hB' (And.intro hrow (And.intro hrun (And.intro hder (And.intro hmin hb4)))));clear hB' hrow hrun hder hmin hb4)
 obtain⟨nE,hnE⟩:=qF (E.length);rw[<-hnE]at H4 ⊢;have HNE:=hid hnE;clear hnE;obtain⟨hB',hrow,hrun,hder,hmin,hb4⟩:=H4.out;have hN:=(HI.out w (Below.refl _ _)).fc.gr.ok;have hrs:BF T.rul [.nam 0] b=some []:=by
  have h:=S5 HTk.out.of HTk.out.led hder []
  rwa [List.append_nil]at h
 have hc9:c<=9000:=by
  obtain⟨b',c',h1,h2,h3⟩:=HEx.out;exact lT_ (hmin b' c' h1 h2) h3
 obtain⟨hbl,hEl⟩:=hrun.len2 hN HRl.out;have hbl2:b.length<=9100:=by have:=HL.out;omega
 have hnE9:nE<=9000:=by rw[HNE.out];omega
 have hBW4:Below B W1 W4:=HBW3.out.trans (hb4.mono (by have:=hB2;omega));have HMd4:Hid (MdT T W4 W2.heap.size wk B (.slice aR L0 cR) 0 0 [] [] [.nam 0] []):=hid (HMd3.out.below hb4);have HBW4:=hid hBW4;have HRun:=hid hrun;have HRs:=hid hrs;have HRow4:=hid hrow;have HDM:Hid (Der T.N [.nam 0] b/\∀b' c',Der T.N [.nam 0] b'->Al T.N row b' c'->c<=c'):=hid ⟨hder,hmin⟩;have hs4:W2.heap.size<W4.heap.size:=by have:=hb4.size;omega
 clear hB' hrow hrun hder hmin hb4 hrs hbl hEl hBW4 H4 HMd3 HCh hN
 go_loopw [21] (fun z wr=>∃(k a ck cr:Nat) (made br:List Nat) (L:List Pt) (X:List (List ByteArray)),k<=nE/\z=ab k/\Hid (MdT T wr W2.heap.size wk B (.slice aR L0 cR) a ck made (E.take k) L X)/\Hid (Run T.N row 0 (E.take k) a made ck)/\Hid (Run T.N row a (E.drop k) row.length br cr)/\Hid (b=made++br/\c=ck+cr/\X.length=k)/\Hid (BF T.rul [.nam 0] made=some L/\BF T.rul L br=some [])/\Hid (OV T row (E.take k) X)/\Hid (AW B W4 wr)) (fun z _=>nE - (intOf z).toNat)
 case atStart=>exact⟨0,0,0,c,[],b,[.nam 0],[],Nat.zero_le _,rfl,HMd4,hid (.done 0),HRun,hid ⟨rfl,by omega,rfl⟩,hid ⟨rfl,HRs.out⟩,hid (fun k e x h=>by simp at h),hid (AW.refl _ _)⟩
 case round=>
  obtain⟨k,a,ck,cr,made,br,L,X,hk,rfl,hmd,hra,hrb,heq,hrs,hexp,hkm⟩:=hrel;have hswr:=hkm.out.size;have hB4:B<=W4.heap.size:=by omega
  have hBr:Below B W4 wr:=hkm.out.below hB4;have hwr:Below w.heap.size w wr:=HB1.out.trans ((HBW4.out.trans hBr).mono (by omega))
  by_cases hlt:k<nE
  ·obtain⟨e,he⟩:∃e,E[k]?=some e:=⟨_,gE (by rw[<-HNE.out];exact hlt)⟩
   have hkE:k<E.length:=by rw[<-HNE.out];exact hlt
   have hdrop:E.drop k=e::E.drop (k+1):=by
    obtain⟨h1,h2⟩:=gS_.1 he;rw[List.drop_eq_getElem_cons h1,h2]
   have htake:E.take (k+1)=E.take k++ [e]:=by rw[List.take_add_one,he];rfl
   obtain⟨a',nw,br',cr',n1,n2,n3,n4,n5,n6,n7⟩:=hrb.out.next hdrop;obtain⟨eb,ec,eX⟩:=heq.out;obtain⟨s1,s2⟩:=hrs.out;rw[n3,aA]at s2;obtain⟨L1,s3,s4⟩:=LL s2;obtain⟨L2,s5,s6,s7⟩:=n6.step s4;have hEl:=HRun.out.len2 (HI.out w (Below.refl _ _)).fc.gr.ok HRl.out;have hcl:ck+e.cost+cr'=c:=by omega
   have hml:made.length+(e.loc - a)<=9900:=by
    have h1:=congrArg List.length eb;rw[n3]at h1;simp only[lA,List.length_take,List.length_drop]at h1;omega
   have hold:e.old<=T.N.nT:=by
    rcases n6 with⟨_,h,_⟩ | ⟨_,h,_⟩ | ⟨_,h,_⟩
    ·omega
    ·exact Nat.le_of_lt (HRl.out _ (mG h))
    ·exact Nat.le_of_lt (HRl.out _ (mG h))
   have hnew:e.new<=T.N.nT:=by
    rcases n6 with⟨_,_,h,_⟩ | ⟨_,_,h,_⟩ | ⟨_,_,h,_⟩ <;> omega
   have HDo:Hid (∀V,Below wr.heap.size wr V->Calls Tryz.prog 28 #[ac W2.heap.size,.agg #[ab e.loc,ab e.kind,ab e.old,ab e.new,ab e.cost]] V fun r w'=>r=.returned (.tuple #[])/\MdT T w' W2.heap.size wk B (.slice aR L0 cR) a' (ck+e.cost) (made++((row.drop a).take (e.loc - a)++nw)) (E.take (k+1)) L2 (X++ [IZ T L1])/\AW B V w'):=hid fun V hbV=>by
    have hV:Below w.heap.size w V:=hwr.trans (hbV.mono hwr.size);have h:=wD (e:=e) HTk.out (HI.out V hV) ⟨lT_ HBd.out.n0 (by omega),Nat.lt_trans HBd.out.tb hwB,Nat.lt_trans HBd.out.kb hwB⟩ (by have:=hbV.size;omega) (fun V' hk'=>HTab.out V' (hV.trans ((hk'.below (by have:=hbV.size;omega)).mono (by omega)))) (hmd.out.below hbV) ((HRw.out V hV).mono (by omega)) HRl.out n1 (by omega) (by rw[<-HL.out];exact h100) s3 s5 hold hnew hml (by omega) (by omega) y2Z (by omega);rw[htake,<-aA];exact h
   have HN:Hid (Run T.N row 0 (E.take (k+1)) a' (made++((row.drop a).take (e.loc - a)++nw)) (ck+e.cost)/\Run T.N row a' (E.drop (k+1)) row.length br' cr'/\b=(made++((row.drop a).take (e.loc - a)++nw))++br'/\c=(ck+e.cost)+cr'/\(X++ [IZ T L1]).length=k+1/\BF T.rul [.nam 0] (made++((row.drop a).take (e.loc - a)++nw))=some L2/\BF T.rul L2 br'=some []/\OV T row (E.take (k+1)) (X++ [IZ T L1])):=hid (by
    have hkeep:=Run.keeps (N:=T.N) (row:=row) (e.loc - a) a y30Z;rw[show a+(e.loc - a)=e.loc by omega]at hkeep;have hre:=hra.out.append hkeep;rw[List.append_nil,Nat.add_zero]at hre;have hsm:BF T.rul [.nam 0] (made++(row.drop a).take (e.loc - a))=some L1:=by rw[FR,s1];exact s3
    refine⟨by rw[htake];exact hra.out.append n7,n4,by rw[eb,n3];simp,by omega,by simp[eX],?_,s7,?_⟩
    ·rw[<-aA,FR,hsm];exact s6
    ·rw[htake]
     exact hexp.out.snoc (by rw[eX];simp;omega) hre hsm)
   obtain⟨g,cap,hvv,_⟩:=AX HRow4.out (by omega);injection hvv with hv1 _ hv3
   subst hv1;subst hv3;obtain⟨cE,hcE⟩:=BJ HRow4.out (g:=g) rfl;have hgl:g<W4.heap.size:=CK HRow4.out rfl;have hgr:wr.heap[g]?=W4.heap[g]?:=hkm.out.block g hgl (.inr ⟨_,_,hcE⟩);have hcell:=fun j (hj:j<5)=>((World.cell?_of_block hgr:wr.cell? (af g (k*5+j))=_)).trans (World.ownsRow.cellAt HRow4.out (k*5+j) (by omega))
   obtain⟨h0,h1,h2,h3,h4⟩:=UR he;have c0:wr.cell? (af g (k*5))=some (ab e.loc):=(hcell 0 (by omega)).trans h0;have c1:wr.cell? (af g (k*5+1))=some (ab e.kind):=(hcell 1 (by omega)).trans h1;have c2:wr.cell? (af g (k*5+2))=some (ab e.old):=(hcell 2 (by omega)).trans h2;have c3:wr.cell? (af g (k*5+3))=some (ab e.new):=(hcell 3 (by omega)).trans h3;have c4:wr.cell? (af g (k*5+4))=some (ab e.cost):=(hcell 4 (by omega)).trans h4;have hki:((k:Int)< (nE:Int)):=by omega
   clear hcell h0 h1 h2 h3 h4 n1 n2 n3 n4 n5 n6 n7 s1 s2 s3 s4 s5 s6 s7 eb ec eX hdrop htake hcl hml hold hnew hEl hmd hra hrb heq hrs hexp hcE hgr
   go_upto_region 5 with fail
   obtain⟨W5,hW5⟩:=qE (wr.alloc (.cells #[ab e.loc,ab e.kind,ab e.old,ab e.new,ab e.cost] 92));have hb5:Below wr.heap.size wr W5:=by rw[<-hW5];exact(Below.refl _ wr).alloc (lR_ _) _
   have he5:W5.heap[wr.heap.size]?=some (.cells #[ab e.loc,ab e.kind,ab e.old,ab e.new,ab e.cost] 92 (0,0)):=by rw[<-hW5];exact World.alloc_heap_new wr _
   rw[hW5];have k0:=(A0 (j:=0) he5).trans rfl;have k1:=(A0 (j:=1) he5).trans rfl;have k2:=(A0 (j:=2) he5).trans rfl;have k3:=(A0 (j:=3) he5).trans rfl;have k4:=(A0 (j:=4) he5).trans rfl;have HB5:=hid hb5;clear hW5 hb5 he5 c0 c1 c2 c3 c4
   go_wp2_with (go_at_call 28;refine(HDo.out _ HB5.out).mono ?_;rintro r W6 ⟨rfl,hm6,hk6⟩;have H6:=hid (And.intro hm6 hk6);clear hm6 hk6)
   obtain⟨r1,r2,r3,r4,r5,r6,r7,r8⟩:=HN.out
   go_roundw
   case rel=>exact⟨k+1,a',ck+e.cost,cr',_,br',L2,_,by omega,by go_num,hid H6.out.1,hid r1,hid r2,hid ⟨r3,r4,r5⟩,hid ⟨r6,r7⟩,hid r8,hid (hkm.out.trans ((AW.of_below HB5.out).trans H6.out.2))⟩
   case measure=>simp[intOf];omega
  ·have hke:k=nE:=by omega
   subst hke;have hdr:E.drop k=[]:=by rw[HNE.out];exact List.drop_length
   have htk:E.take k=E:=by rw[HNE.out];exact List.take_length
   rw[hdr]at hrb;rw[htk]at hmd hra hexp;have hsum:=hrb.out.sum;have hcr:cr=0:=by simpa using hsum.symm
   have hbr:=hrb.out.same (lR_ _) rfl;obtain⟨eb,ec,eX⟩:=heq.out;obtain⟨s1,s2⟩:=hrs.out;have hal:=hrb.out.le;rw[hbr]at s2;have hBd2:T.Bd B:=⟨lT_ HBd.out.n0 (by omega),Nat.lt_trans HBd.out.tb hwB,Nat.lt_trans HBd.out.kb hwB⟩;have HKt:Hid (Calls Tryz.prog 29 #[ac W2.heap.size,ab L0] wr fun r w'=>r=.returned (.tuple #[])/\MdT T w' W2.heap.size wk B (.slice aR L0 cR) L0 c b E [] X/\AW B wr w'):=hid (by
    have h:=UM (a2:=row.length) HTk.out (HI.out wr hwr) hBd2 (by omega) hmd.out ((HRw.out wr hwr).mono (by omega)) HRl.out hal (lR_ _) (by rw[<-HL.out];exact h100) s2 (by
     have h1:=congrArg List.length eb;rw[hbr]at h1;simp only[lA,List.length_take,List.length_drop]at h1;omega)
    rw[<-hbr,<-eb,show ck=c by omega,<-HL.out]at h;exact h)
   have HX:Hid (X.length=E.length/\OV T row E X):=hid ⟨by rw[eX];exact HNE.out,hexp.out⟩;clear hdr htk hsum hbr eb ec eX s1 s2 hal hmd hra hrb heq hrs hexp
   go_upto_region 8 with(go_at_call 29;refine HKt.out.mono ?_;rintro r W7 ⟨rfl,hm7,hk7⟩;have H7:=hid (And.intro hm7 hk7);clear hm7 hk7)
   obtain⟨⟨x,⟨vm,ve,vc',vr,vx,ws',xs,hv7⟩,_⟩,hk7⟩:=H7.out;have hs7:=hk7.size;have hB7:Below B W1 W7:=HBW4.out.trans (hBr.trans (hk7.below (by omega)));have hw7:Below w.heap.size w W7:=HB1.out.trans (hB7.mono (by omega));have hvm:D8 W7 B vm b:=hv7.rows 3 (.inl rfl);have HRd:Hid (Calls Tryz.prog 21 #[ac T.tb,vm] W7 fun e w'=>Below W7.heap.size W7 w'/\
    ((∃S v,TrL T.rul [.nam 0] b S/\e=.returned (.tuple #[v,ab (-1),ab 0])/\w'.ownsRow W7.heap.size 142 3 v S.length (BR (S.map (N4 T))))\/
     (∃i:Nat,KU T b i/\e=.returned (.tuple #[.slice none 0 0,ab i,ab 0])))):=hid (XK HTk.out (HI.out W7 hw7) ⟨hvm.row (fun g hg=>CK hvm hg),fun h=>absurd h (sV (mH HTk.out.of HTk.out.led) HDM.out.1)⟩ (nY (HI.out w (Below.refl _ _)).fc.gr.ok HDM.out.1 (fun t ht=>by simp at ht)) (by omega))
   have m3:W7.cell? (af W2.heap.size 3)=some vm:=(A0 hv7.blk).trans rfl;have HV7:=hid hv7;have HB7:=hid hB7;clear hv7 hB7 hvm hk7 H7 HKt hw7
   go_upto_region 9 with(go_at_call 21;refine HRd.out.mono ?_;rintro r W8 ⟨hb8,hres⟩;rcases hres with⟨S,vt,hS,rfl,hvt⟩ | ⟨i,hi,rfl⟩;rotate_left;exact(cM hi HRs.out).elim;obtain⟨ta,tc,rfl⟩:=BI hvt;have H8:=hid (And.intro hb8 (And.intro hS hvt));clear hb8 hS hvt)
   obtain⟨hb8,hS,hvt⟩:=H8.out;have hv8:=HV7.out.below hb8;obtain⟨nS,hnS⟩:=qF (S.length);rw[<-hnS]at H8 ⊢;have HNS:=hid hnS;have hve:=hv8.rows 5 (.inr (.inl rfl));have hvc:=hv8.rows 6 (.inr (.inr (.inl rfl)));have hvr:=hv8.rows 8 (.inr (.inr (.inr (.inl rfl))));have hvx:=hv8.rows 10 (.inr (.inr (.inr (.inr rfl))));obtain⟨ea,ecap,he1⟩:=BI hve;obtain⟨ca,ccap,he2⟩:=BI hvc;obtain⟨ra,rcap,he3⟩:=BI hvr;obtain⟨xa,xcap,he4⟩:=BI hvx;have he1:ve=.slice ea E.length ecap:=he1;have he2:vc'=.slice ca E.length ccap:=he2;have he3:vr=.slice ra b.length rcap:=he3;have he4:vx=.slice xa xs.length xcap:=he4;obtain⟨lE,hlE⟩:=qF (E.length);obtain⟨lb,hlb⟩:=qF (b.length);obtain⟨lx,hlx⟩:=qF (xs.length);rw[<-hlE]at he1 he2;rw[<-hlb]at he3;rw[<-hlx]at he4;have hs8:W7.heap.size<=W8.heap.size:=hb8.size;have hrb8:W8.heap[w.heap.size]?=some (.cells #[.slice none 0 0,.slice none 0 0,ab 0,.slice none 0 0,.slice none 0 0,.slice none 0 0] 36 (0,0)):=((HB7.out.trans (hb8.mono (by omega))).block _ hwB).trans HR1.out
   have m5:W8.cell? (af W2.heap.size 5)=some (.slice ea lE ecap):=by rw[<-he1];exact(A0 hv8.blk).trans rfl
   have m6:W8.cell? (af W2.heap.size 6)=some (.slice ca lE ccap):=by rw[<-he2];exact(A0 hv8.blk).trans rfl
   have m7:W8.cell? (af W2.heap.size 7)=some (ab c):=(A0 hv8.blk).trans rfl;have m8:W8.cell? (af W2.heap.size 8)=some (.slice ra lb rcap):=by rw[<-he3];exact(A0 hv8.blk).trans rfl
   have m9:W8.cell? (af W2.heap.size 9)=some (.slice none 0 0):=(A0 hv8.blk).trans rfl;have m10:W8.cell? (af W2.heap.size 10)=some (.slice xa lx xcap):=by rw[<-he4];exact(A0 hv8.blk).trans rfl
   have z9:W8.frozen? (af W2.heap.size 9)=false:=A3 hv8.blk;have HLs:Hid (lE=E.length/\lb=b.length/\lx=xs.length):=hid ⟨hlE,hlb,hlx⟩;have HEq:Hid (ve=.slice ea lE ecap/\vc'=.slice ca lE ccap/\vr=.slice ra lb rcap/\vx=.slice xa lx xcap):=hid ⟨he1,he2,he3,he4⟩;have HV8:=hid hv8;have HRb8:=hid hrb8;have hmb8:W2.heap.size<W8.heap.size:=hv8.mbl;clear hb8 hS hvt hv8 hnS hve hvc hvr hvx he1 he2 he3 he4 hlE hlb hlx hrb8 m3 HRd
   go_upto_region 12 with fail
   obtain⟨W9,hW9⟩:=qE (W8.setCell (af W2.heap.size 9) (.slice ta nS tc));have hk9:A1 W8 W9 [W2.heap.size]:=by rw[<-hW9];exact(A1.refl W8 _).setCell (by simp) _
   have hm9:W9.heap[W2.heap.size]?=some (.cells #[ac T.tb,.slice aR L0 cR,ab L0,vm,ac wk,ve,vc',ab c,vr,.slice ta nS tc,vx] 88 (0,0)):=by rw[<-hW9];exact A5 (j:=9) HV8.out.blk _
   rw[hW9];have hrb9:=(hk9.block w.heap.size (by omega) y2Z).trans HRb8.out;have n5:W9.cell? (af W2.heap.size 5)=some (.slice ea lE ecap):=by rw[<-HEq.out.1];exact(A0 hm9).trans rfl
   have n6:W9.cell? (af W2.heap.size 6)=some (.slice ca lE ccap):=by rw[<-HEq.out.2.1];exact(A0 hm9).trans rfl
   have n7:W9.cell? (af W2.heap.size 7)=some (ab c):=(A0 hm9).trans rfl;have n8:W9.cell? (af W2.heap.size 8)=some (.slice ra lb rcap):=by rw[<-HEq.out.2.2.1];exact(A0 hm9).trans rfl
   have n9:W9.cell? (af W2.heap.size 9)=some (.slice ta nS tc):=(A0 hm9).trans rfl;have n10:W9.cell? (af W2.heap.size 10)=some (.slice xa lx xcap):=by rw[<-HEq.out.2.2.2];exact(A0 hm9).trans rfl
   have b0:=(A0 (j:=0) hrb9).trans rfl;have b1:=(A0 (j:=1) hrb9).trans rfl;have b2:=(A0 (j:=2) hrb9).trans rfl;have b3:=(A0 (j:=3) hrb9).trans rfl;have b4:=(A0 (j:=4) hrb9).trans rfl;have b5:=(A0 (j:=5) hrb9).trans rfl;have g0:=A3 (j:=0) hrb9;have g1:=A3 (j:=1) hrb9;have g2:=A3 (j:=2) hrb9;have g3:=A3 (j:=3) hrb9;have g4:=A3 (j:=4) hrb9;have g5:=A3 (j:=5) hrb9;have HK9:=hid hk9;have HM9:=hid hm9;have HRb9:=hid hrb9;clear hW9 hk9 hm9 hrb9 m5 m6 m7 m8 m9 m10 z9;go_wp2;have hrow:=A5 (j:=5) (A5 (j:=4) (A5 (j:=3) (A5 (j:=2) (A5 (j:=1) (A5 (j:=0) HRb9.out (.slice ea lE ecap)) (.slice ca lE ccap)) (ab c)) (.slice ra lb rcap)) (.slice ta nS tc)) (.slice xa lx xcap);have hkF:A1 W9 ((((((W9.setCell (af w.heap.size 0) (.slice ea lE ecap)).setCell (af w.heap.size 1) (.slice ca lE ccap)).setCell (af w.heap.size 2) (ab c)).setCell (af w.heap.size 3) (.slice ra lb rcap)).setCell (af w.heap.size 4) (.slice ta nS tc)).setCell (af w.heap.size 5) (.slice xa lx xcap)) [w.heap.size]:=((((((A1.refl W9 _).setCell (by simp) _).setCell (by simp) _).setCell (by simp) _).setCell (by simp) _).setCell (by simp) _).setCell (by simp) _
   refine⟨rfl,_,K0 (p:=4) (t:=5) (ty:=36) rfl _ _ w.heap.size _ _ _ _ rfl hrow Tryz.underlying36 rfl y1Z,?_⟩;obtain⟨WF,hWF⟩:=qE (((((((W9.setCell (af w.heap.size 0) (.slice ea lE ecap)).setCell (af w.heap.size 1) (.slice ca lE ccap)).setCell (af w.heap.size 2) (ab c)).setCell (af w.heap.size 3) (.slice ra lb rcap)).setCell (af w.heap.size 4) (.slice ta nS tc)).setCell (af w.heap.size 5) (.slice xa lx xcap)));rw[hWF]at hkF ⊢;have hkA:A1 W8 WF [W2.heap.size,w.heap.size]:=(HK9.out.mono (fun q hq=>by simp at hq ⊢;exact .inl hq)).trans (hkF.mono (fun q hq=>by simp at hq ⊢;exact .inr hq));have hoff:∀{e sz n:Nat}{v:Value}{l:List Value}{B0:Nat},W8.ownsRow B0 e sz v n l->e≠88->e≠36->w.heap.size<=B0->WF.ownsRow w.heap.size e sz v n l:=fun h h1 h2 h3=>OK (aD h hkA (fun q hq=>by
    simp only[List.mem_cons,List.not_mem_nil,or_false]at hq
    rcases hq with e |e <;> subst e
    ·exact⟨_,_,_,HV8.out.blk,h1⟩
    ·exact⟨_,_,_,HRb8.out,h2⟩)) h3
   obtain⟨hb8,hS,hvt⟩:=H8.out;refine⟨E,b,c,S,ve,vc',vr,.slice ta nS tc,vx,xs,X,?_,⟨HRun.out,hS,HDM.out.2,?_,?_,?_,?_,?_,⟨by rw[<-HV8.out.len];exact HX.out.1,HX.out.1⟩,fun i u l h1 h2=>?_,HX.out.2⟩,?_⟩
   ·rw[HEq.out.1,HEq.out.2.1,HEq.out.2.2.1,HEq.out.2.2.2];rfl
   ·exact hoff (HV8.out.rows 5 (.inr (.inl rfl))) (by decide) (by decide) (by omega)
   ·have h0:W8.ownsRow B 3 1 vc' E.length (D9 (E.map (·.cost))):=HV8.out.rows 6 (.inr (.inr (.inl rfl)))
    have h:=hoff h0 (by decide) (by decide) (by omega);unfold D8;rw[lM];exact h
   ·exact hoff (HV8.out.rows 8 (.inr (.inr (.inr (.inl rfl))))) (by decide) (by decide) (by omega)
   ·rw[<-HNS.out];exact hoff hvt (by decide) (by decide) (by have:=HB7.out.size;omega)
   ·exact hoff (HV8.out.rows 10 (.inr (.inr (.inr (.inr rfl))))) (by decide) (by decide) (by omega)
   ·exact hoff (HV8.out.ex i u l h1 h2) (by decide) (by decide) (by omega)
   ·have hw8:Below w.heap.size w W8:=HB1.out.trans ((HB7.out.mono (by omega)).trans (hb8.mono (by have:=HB7.out.size;omega)))
    exact hw8.trans (hkA.below hw8.size (fun q hq=>by
     simp only[List.mem_cons,List.not_mem_nil,or_false]at hq
     rcases hq with e |e <;> omega))
def VA (tws:List ByteArray) (nT:Nat):Prop:=∀i j,i<nT->j<nT->nth tws i=nth tws j->i=j
theorem QJ (a b:ByteArray):(a.toList==b.toList)=decide (a=b):=by
 by_cases h:a=b
 ·subst h;simp
 ·rw[decide_eq_false h,beq_eq_false_iff_ne]
  intro e;rw[ByteArray.toList_eq,ByteArray.toList_eq]at e;exact h (ByteArray.ext (Array.toList_inj.mp e))
theorem bZ {V:World}{a b:ByteArray}{p d:Int}{sv:Value}{wb:Nat} (hw:V.cell? (af wb 0)=some (.string b)) (hsv:∃ad n c,sv=.slice ad n c):
  Calls Tryz.prog 48 #[.agg #[.string a,ab p,ab d,sv],ac wb] V fun e w'=>e=.returned (.bool (decide (a=b)))/\Below V.heap.size V w':=by
 obtain⟨ad,n,c,rfl⟩:=hsv;have hw':(V.alloc (.cells #[.string a,ab p,ab d,.slice ad n c] 128)).cell? (af wb 0)=some (.string b):=A2 _ hw;have b0:=BG V #[.string a,ab p,ab d,.slice ad n c] 128 0
 go_enter Tryz.func48,Tryz.ntmps48
 go_wp2;go_ret;exact⟨by rw[<-QJ];rfl,(Below.refl _ V).alloc (lR_ _) _⟩
theorem k8 {n₀:Nat}{tws:List ByteArray}{pg:List Nm}{adT:Option Addr}{capT gN capN wb:Nat} (hP:PGr w n₀ N tws pg adT capT gN capN) (h0:n₀<=w.heap.size) (ht:t<N.nT) (hw:w.cell? (af wb 0)=some (.string (nth tws t))) (hTw:VA tws N.nT):
  Calls Tryz.prog 47 #[.slice adT N.nT capT,.func (.func 48) #[] #[ac wb]] w fun e w'=>e=.returned (ab t)/\Below w.heap.size w w':=by
 have e1:∀args V,(callFunc 48 args).run Tryz.prog V=.ok (.enter 48 args) V:=enters_of Tryz.func48 y1Z rfl;have hT20:=hP.leT;have hlT:=hP.lT;obtain⟨gT,hgT,hgl,_,_⟩:=hP.toks t ht;subst hgT;have hwl:wb<w.heap.size:=World.block_lt_of_cell? w _ hw;have HT:Hid (∀V,Below w.heap.size w V->∀u,u<N.nT->∃gs cs,V.cell? (af gT (u*4))=some (.string (nth tws u))/\V.cell? (af gT (u*4+1))=some (ab (N.put u))/\V.cell? (af gT (u*4+2))=some (ab (N.drop u))/\V.cell? (af gT (u*4+3))=some (ae gs N.nT cs)):=hid fun V hb u hu=>by
  obtain⟨g1,e2,_,k1,k2⟩:=hP.toks u hu;obtain⟨g2,gs,cs,e3,_,k3,k4,_⟩:=hP.toks2 u hu;injection e2 with e2
  injection e2 with e2
  injection e3 with e3
  injection e3 with e3
  subst e2;subst e3;have hgw:gT<w.heap.size:=by omega
  exact⟨gs,cs,(hb.cell y47Z).trans k1,(hb.cell y47Z).trans k2,(hb.cell y47Z).trans k3,(hb.cell y47Z).trans k4⟩
 obtain⟨nT,hnT⟩:=qF (N.nT);rw[<-hnT]at ht HT hTw hT20 hlT ⊢;have HTw:=hid hTw;clear hP hTw hnT
 go_enter Tryz.func47,Tryz.ntmps47
 go_wp2
 go_loopw [8] (fun z wr=>∃j:Nat,j<=t/\z=ab j/\Hid (Below w.heap.size w wr)) (fun z _=>t - (intOf z).toNat)
 case atStart=>exact⟨0,Nat.zero_le _,rfl,hid (Below.refl _ _)⟩
 case round=>
  obtain⟨j,hj,rfl,hb⟩:=hrel;have hjT:j<nT:=by omega
  obtain⟨gs,cs,k0,k1,k2,k3⟩:=HT.out wr hb.out j hjT;have cw:=(hb.out.cell (p:=(af wb 0)) y19Z).trans hw;have CC:=bZ (V:=wr) (a:=nth tws j) (b:=nth tws t) (p:=(N.put j:Int)) (d:=(N.drop j:Int)) (sv:=ae gs nT cs) cw ⟨_,_,_,rfl⟩;obtain⟨wj,hwj⟩:=qE (nth tws j);have HWj:=hid hwj;rw[hwj]at k0 CC;obtain⟨wt,hwt⟩:=qE (nth tws t);have HWt:=hid hwt;rw[hwt]at cw CC;clear hwj hwt
  by_cases he:wj=wt
  ·have hjt:j=t:=HTw.out j t hjT ht (by rw[HWj.out,HWt.out,he])
   rw[decide_eq_true he]at CC;subst hjt;have HC:=hid CC;clear CC cw he
   go_wp2_with (refine HC.out.mono ?_;rintro e w2 ⟨rfl,hb2⟩;have HB2:=hid (hb.out.trans (hb2.mono hb.out.size));clear hb2)
   go_ret;exact⟨rfl,HB2.out⟩
  ·have hjt:j<t:=by
    rcases Nat.lt_or_ge j t with h |h
    ·exact h
    ·exfalso
     have e:j=t:=by omega
     subst e;exact he (HWj.out.symm.trans HWt.out)
   rw[decide_eq_false he]at CC;have HC:=hid CC;clear CC cw he
   go_wp2_with (refine HC.out.mono ?_;rintro e w2 ⟨rfl,hb2⟩;have HB2:=hid (hb.out.trans (hb2.mono hb.out.size));clear hb2)
   go_roundw
   case rel=>exact⟨j+1,by omega,by go_num,HB2⟩
   case measure=>simp[intOf];omega
def RwS (w:World) (B:Nat) (v:Value) (ws:List ByteArray):Prop:=∃ad cap,v=.slice ad ws.length cap/\ws.length<=cap/\(0<ws.length->∃g off,ad=some (af g off)/\g<B/\∀(i:Nat) (x:ByteArray),ws[i]?=some x->w.cell? (af g (off+i))=some (.string x))
theorem RwS.below {w':World}{ws:List ByteArray} (h:RwS w B v ws) (hb:Below B w w'):RwS w' B v ws:=by
 obtain⟨ad,cap,h1,h2,h3⟩:=h;refine⟨ad,cap,h1,h2,fun h0=>?_⟩;obtain⟨g,off,h4,h5,h6⟩:=h3 h0;exact⟨g,off,h4,h5,fun i x hx=>(hb.cell y42Z).trans (h6 i x hx)⟩
theorem RwS.mono {B':Nat}{ws:List ByteArray} (h:RwS w B v ws) (hB:B<=B'):RwS w B' v ws:=by
 obtain⟨ad,cap,h1,h2,h3⟩:=h;refine⟨ad,cap,h1,h2,fun h0=>?_⟩;obtain⟨g,off,h4,h5,h6⟩:=h3 h0;exact⟨g,off,h4,by omega,h6⟩
theorem dN {n₀:Nat}{tws:List ByteArray}{pg:List Nm}{adT:Option Addr}{capT gN capN:Nat}{l:List Nat}{rv:Value} (hP:PGr w n₀ N tws pg adT capT gN capN) (h0:n₀<=w.heap.size) (hTw:VA tws N.nT) (hl:∀t∈l,t<N.nT) (hrow:RwS w w.heap.size rv (l.map (nth tws))) (hn:l.length<=1000):
  Calls Tryz.prog 25 #[.agg #[.slice adT N.nT capT,ae gN N.nN capN],rv] w fun e w'=>∃v,e=.returned (.tuple #[v,.bool true])/\(D8 w' w.heap.size v l/\(l=[]->v=.slice none 0 0))/\Below w.heap.size w w':=by
 obtain⟨iI,hiI,hzI0,hzI1,hzI2⟩:=info_parts Tryz.infoX3;have HI:Hid (∀V t wb,Below w.heap.size w V->t<N.nT->V.cell? (af wb 0)=some (.string (nth tws t))->Calls Tryz.prog 47 #[.slice adT N.nT capT,.func (.func 48) #[] #[ac wb]] V fun e w'=>e=.returned (ab (t:Nat))/\Below V.heap.size V w'):=hid fun V t wb hb ht hc=>k8 (hP.below (hb.mono h0)) (by have:=hb.size;omega) ht hc hTw
 obtain⟨ad,cap,rfl,hcap,hc⟩:=hrow;obtain⟨n,hnn⟩:=qF (l.length);rw[lM,<-hnn]at hcap hc ⊢;rw[<-hnn]at hn;obtain⟨nT,hnT⟩:=qF (N.nT);obtain⟨nN,hnN⟩:=qF (N.nN);rw[<-hnT]at HI hl ⊢;rw[<-hnN];have HN:=hid hnn;have HC:=hid hc;have HLt:=hid hl;clear hP h0 hTw hl hc hnn hnT hnN
 go_enter Tryz.func25,Tryz.ntmps25
 go_wp2;obtain⟨W1,hW1⟩:=qE (w.alloc (.cells #[.slice adT nT capT,ae gN nN capN] 69));have hb1:Below w.heap.size w W1:=by rw[<-hW1];exact(Below.refl _ w).alloc (lR_ _) _
 have hg1:W1.heap[w.heap.size]?=some (.cells #[.slice adT nT capT,ae gN nN capN] 69 (0,0)):=by rw[<-hW1];exact World.alloc_heap_new w _
 rw[hW1];have HB1:=hid hb1;have HG1:=hid hg1;have hs1:w.heap.size<W1.heap.size:=lt_of_block hg1;clear hW1 hb1 hg1
 go_loopw [4,11] (fun v z wr=>∃(i:Nat),i<=n/\z=ab i/\Hid (D8 wr w.heap.size v (l.take i)/\(i=0->v=.slice none 0 0))/\Hid (Below w.heap.size w wr)/\Hid (wr.heap[w.heap.size]?=some (.cells #[.slice adT nT capT,ae gN nN capN] 69 (0,0)))) (fun _ z _=>n - (intOf z).toNat)
 case atStart=>exact⟨0,Nat.zero_le _,rfl,hid ⟨World.ownsRow_nil _ _ _ _,fun _=>rfl⟩,HB1,HG1⟩
 case round=>
  obtain⟨i,hi,rfl,hiv,hb,hg⟩:=hrel;have hswr:w.heap.size<wr.heap.size:=lt_of_block hg.out
  by_cases hlt:i<n
  ·obtain⟨t,ht⟩:∃t,l[i]?=some t:=⟨_,gE y63Z⟩
   have htT:=HLt.out t (mG ht);obtain⟨g,off,rfl,hgl,hgc⟩:=HC.out (by omega);have cx:=(hb.out.cell (p:=(af g (off+i))) (by exact hgl)).trans (hgc i (nth tws t) (by rw[gM,ht];rfl));have hii:((i:Int)< (n:Int)):=by omega
   have HTk:Hid (l.take (i+1)=l.take i++ [t]):=hid (by rw[List.take_add_one,ht];rfl);obtain⟨wd,hwd⟩:=qE (nth tws t);have HWd:=hid hwd;rw[hwd]at cx;clear hgc ht hwd
   go_upto_region 4 with fail
   obtain⟨W2,hW2⟩:=qE (wr.alloc (.cells #[.string wd] 9));have hb2:Below wr.heap.size wr W2:=by rw[<-hW2];exact(Below.refl _ wr).alloc (lR_ _) _
   have hw2:W2.heap[wr.heap.size]?=some (.cells #[.string wd] 9 (0,0)):=by rw[<-hW2];exact World.alloc_heap_new wr _
   rw[hW2];have hs2:wr.heap.size<W2.heap.size:=lt_of_block hw2;have hg2:=(hb2.block w.heap.size hswr).trans hg.out;have t0:W2.cell? (af w.heap.size 0)=some (.slice adT nT capT):=(A0 hg2).trans rfl;have hbw2:Below w.heap.size w W2:=hb.out.trans (hb2.mono (by omega));have HIx:Hid (∀V,Below W2.heap.size W2 V->Calls Tryz.prog 47 #[.slice adT nT capT,.func (.func 48) #[] #[ac wr.heap.size]] V fun e w'=>e=.returned (ab (t:Nat))/\Below V.heap.size V w'):=hid fun V hbV=>HI.out V t wr.heap.size (hbw2.trans (hbV.mono hbw2.size)) htT ((hbV.cell (p:=(af wr.heap.size 0)) y61Z).trans (by rw[HWd.out];exact(A0 hw2).trans rfl))
   have HB2:=hid hb2;have HG2:=hid hg2;clear hW2 hb2 hw2 hg2 hbw2 cx;have hlen:(l.take i).length=i:=by rw[List.length_take,<-HN.out];omega
   have HIv:Hid (∀V,Below wr.heap.size wr V->V.ownsRow w.heap.size 3 1 u4 i (D9 (l.take i))):=hid fun V hbV=>by
    have h:=A8 hiv.out.1 (A1.of_below hbV []) (fun _ _=>by simp);rw[hlen]at h;exact h
   have hti:¬((t:Int)<0):=by omega
   go_upto_region 7 with(go_at_call 47;refine(HIx.out _ (Below.refl _ W2)).mono ?_;rintro e w3 ⟨rfl,hb3⟩;have HB3:Hid (Below wr.heap.size wr w3):=hid (HB2.out.trans (hb3.mono HB2.out.size));clear hb3)
   have hs3:=HB3.out.size
   go_wp2_with (at_builtin;refine wpList_append_lies _ rfl _ _ 22 rfl w.heap.size 3 iI (ab 0) 1 8 Tryz.underlying22 hiI hzI0 hzI1 hzI2 rfl (by decide) _ _ _ rfl ((HIv.out w3 HB3.out).alloc _) (af w3.heap.size 0) 1 1 [ab t] rfl rfl (World.news_of_block (heap_alloc_new w3 _)) ?c2 (lR_ 1) ?c3 ?c4 ?c5 _ rfl ?_)
   case c2=>intro u hu;simp at hu;subst hu;rfl
   case c3=>unfold maxLen;omega
   case c4=>omega
   case c5=>simp;omega
   intro g3 cap3 w4 hown3 hgrow3 hat3 hlt3;have hk4:A1 w3 w4 u4.ownBlock.toList:=((A1.refl w3 _).alloc _).grown hgrow3 (fun q hq=>.inl y13Z);have hS4:∀q∈u4.ownBlock.toList,w.heap.size<=q/\∃c,wr.heap[q]?=some (.cells c 3 (0,0)):=fun q hq=>by
    have e:u4.ownBlock=some q:=by simpa using hq
    exact⟨(World.ownsRow.lt hiv.out.1 q e).1,BJ hiv.out.1 e⟩
   have HB4:Hid (Below w.heap.size w w4):=hid ((hb.out.trans (HB3.out.mono (by omega))).trans (hk4.below (by omega) (fun q hq=>(hS4 q hq).1)));have HG4:Hid (w4.heap[w.heap.size]?=some (.cells #[.slice adT nT capT,ae gN nN capN] 69 (0,0))):=hid ((hk4.block _ (by omega) (fun hm=>by
    obtain⟨_,c,h1⟩:=hS4 _ hm;rw[hg.out]at h1;injection h1 with h1
    injection h1 with _ h1
    exact absurd h1 (by decide))).trans ((HB3.out.block _ hswr).trans hg.out))
   have HI4:Hid (D8 w4 w.heap.size (ae g3 (i+1) cap3) (l.take (i+1))/\(i+1=0->ae g3 (i+1) cap3=.slice none 0 0)):=hid (by
    refine⟨?_,fun h=>by omega⟩;unfold D8;rw[HTk.out,lA,GI,hlen];exact hown3)
   clear hlen hown3 hgrow3 hat3 hlt3 hk4 hS4 t0 hiv;go_wp2
   go_roundw
   case rel=>exact⟨i+1,by omega,by go_num,HI4,HB4,HG4⟩
   case measure=>simp[intOf];omega
  ·have hie:i=n:=by omega
   have HIv:Hid (D8 wr w.heap.size u4 l/\(l=[]->u4=.slice none 0 0)):=hid (by
    have h:=hiv.out;rw[show l.take i=l from by rw[hie,HN.out];exact List.take_length]at h;exact⟨h.1,fun e=>h.2 (by rw[hie,HN.out,e];rfl)⟩)
   clear hie;go_wp2
   go_ret2
   exact⟨u4,rfl,HIv.out,hb.out⟩
def GS (m:Mk) (n k:Nat):Option (List Pt):=(m.rules[n]?).bind fun rs=>rs[k]?
theorem M1 {k:Nat}{r:List Pt} (h:GS m n k=some r):∃rs,m.rules[n]?=some rs/\rs[k]?=some r:=by
 unfold GS at h;cases h1:m.rules[n]? with
 |none=>rw[h1]at h;cases h
 |some rs=>rw[h1]at h;exact⟨rs,rfl,h⟩
theorem S8 {rs:List (List Pt)} (h:m.rules[n]?=some rs) (k:Nat):GS m n k=rs[k]?:=by unfold GS;rw[h];rfl
theorem IV (m:Mk):PD (ngM m) (GS m):=fun n rhs=>by
 rw[I9];constructor
 ·rintro⟨rs,h1,h2⟩
  obtain⟨k,hk,e⟩:=List.mem_iff_getElem.1 h2;exact⟨k,by rw[S8 h1,gE hk,e]⟩
 ·rintro⟨k,hk⟩
  obtain⟨rs,h1,h2⟩:=M1 hk;exact⟨rs,h1,mG h2⟩
theorem JE  (h:m.Good):Led (GS m):=fun n k rhs hk=>by
 obtain⟨rs,h1,h2⟩:=M1 hk;have h3:=(h.head rs (GK h1).2 k rhs h2).1;cases rhs with
 |nil=>cases h3
 |cons a t=>injection h3 with h3;subst h3;exact⟨t,rfl⟩
theorem fG  (h:m.Good) {rhs:List Pt} (hk:GS m n t=some rhs):n<m.rules.length/\t<m.puts.length/\rhs.length<=8/\AY (ngM m) rhs:=by
 obtain⟨rs,h1,h2⟩:=M1 hk;have hm:=(GK h1).2;have ht:=(gS_.1 h2).1;have hc:=(h.c1 rs hm).2;have hl:=(h.head rs hm t rhs h2).2;have hr:(n,rhs)∈(ngM m).rules:=(IV m n rhs).2 ⟨t,hk⟩;exact⟨(GK h1).1,by omega,by omega,(IQ h).ps hr⟩
def pgM (m:Mk):List Nm:=m.rules.zipIdx.map fun x=>(BO x.2,x.1)
def N2 (m:Mk):List ByteArray:=(List.range m.puts.length).map A7
theorem RJ (m:Mk) {rs:List (List Pt)} (h:m.rules[n]?=some rs):(pgM m)[n]?=some (BO n,rs):=by
 unfold pgM;rw[gM,List.getElem?_zipIdx,h];simp
theorem fD (m:Mk) {nm:Nm} (h:(pgM m)[n]?=some nm):m.rules[n]?=some nm.2:=by
 unfold pgM at h;rw[gM,List.getElem?_zipIdx]at h;cases h1:m.rules[n]? with
 |none=>rw[h1]at h;cases h
 |some rs=>rw[h1]at h;injection h with h;subst h;rfl
theorem OP (m:Mk)  (ht:t<m.puts.length):nth (N2 m) t=A7 t:=by
 unfold nth N2;rw[gD_,gM,List.getElem?_range ht];rfl
theorem sH  (h:m.Good):VA (N2 m) m.puts.length:=fun i j hi hj e=>by
 rw[OP m hi,OP m hj]at e;have h1:=QU i (by have:=h.t6;omega) j (by have:=h.t6;omega);rw[e]at h1;simpa using h1
theorem YN  (h:m.Good) (l:List Nat) (hl:∀t∈l,t<m.puts.length) (h40:l.length<=40):∃b c,Der (ngM m) [.nam 0] b/\Al (ngM m) l b c/\c<=9000:=by
 obtain⟨r,hr,ht,h5⟩:=h.lastR (n:=0) h.n1;have hps:=(IQ h).ps hr;have key:∀r:List Pt,(∀p∈r,∃t,p=.tok t)->AY (ngM m) r->∃b:List Nat,Der (ngM m) r b/\QZ (ngM m) b<=99*r.length:=by
  intro r
  induction r with
  |nil=>intro _ _;exact⟨[],.nil,Nat.zero_le _⟩
  |cons p r ih=>
   intro h1 h2;obtain⟨t,rfl⟩:=h1 p (by simp);obtain⟨b,h3,h4⟩:=ih (fun p hp=>h1 p (by simp[hp])) h2.tail;refine⟨t::b,.tok h3,?_⟩;have h5:=(IQ h).put2 t (h2.2 t (by simp));show(ngM m).put t+QZ (ngM m) b<=99*(r.length+1);omega
 obtain⟨b,hb,hc⟩:=key r ht hps;refine⟨b,_,by have:=Der.nam hr hb (.nil);rwa [List.append_nil]at this,tJ (ngM m) l b,?_⟩;have:=Q4 (IQ h) (row:=l) hl;have h6:99*l.length<=99*40:=Nat.mul_le_mul_left _ h40;have h7:99*r.length<=99*5:=Nat.mul_le_mul_left _ h5;omega
end Go.Proofs.YtjjggdcnpndgjabGreatDoor
