import Derived.Test.YtjjggdcnpndgjabGreatDoorJ35
set_option linter.unusedSimpArgs false
set_option maxHeartbeats 8000000
set_option maxRecDepth 100000
namespace Go.Proofs.YtjjggdcnpndgjabGreatDoor
open Go.RowKit Go.Shelf
variable {i k t:Nat}{p:Pt}
section
theorem Run.len {N:NG} (hN:N.Ok) {row:List Nat} (hr:∀x∈row,x<N.nT) {j:Nat}{E:List EdP}{b:List Nat}{c:Nat} (h:Run N row i E j b c):E.length<=c:=by
 induction h with
 |done i=>exact lR_ _
 |keep _ _ ih=>exact ih
 |put ht _ ih=>have:=hN.put1 _ ht;simp only[lC];omega
 |drop hx _ ih=>have:=hN.drop1 _ (hr _ (mG hx));simp only[lC];omega
 |swap _ _ _ hs _ ih=>simp only[lC];omega
theorem XZ:∀{a:List (Option Pt)}{l:List Pt},tlF a=some l->∀p∈l,some p∈a
 | [],l,h,p,hp=>by cases h
 |none::a,l,h,p,hp=>by
  injection h with h
  subst h;cases hp
 |some q::a,l,h,p,hp=>by
  simp only[tlF]at h;cases h1:tlF a with
  |none=>rw[h1]at h;cases h
  |some l'=>
   rw[h1]at h;injection h with h
   subst h
   rcases List.mem_cons.1 hp with e |e
   ·subst e;exact List.mem_cons_self ..
   ·exact List.mem_cons_of_mem _ (XZ h1 p e)
theorem qG {tls:List (Option Pt)}{q:Nat}{l:List Pt} (h:BK tls q=some l)  (hp:p∈l):∃j:Nat,tls[j]?=some (some p):=
 List.mem_iff_getElem?.1 (List.mem_of_mem_drop (XZ h p hp))
structure ScE (Q:Wts) (W0:World) (cn ct:Nat->Nat->Nat->Wt):Prop where
 inn:Q.In W0
 pcs:M5 Q W0 0 cn ct
 tlk:PH Q.tls
 tls:Tls Q.T.N (BK Q.tls) (FI Q.hds)
 gnf:Gnf Q.T.N
section
variable {Q:Wts}{W0 W:World}{cn ct:Nat->Nat->Nat->Wt}
theorem ScE.inW (h:ScE Q W0 cn ct) (hb:Below W0.heap.size W0 W):Q.In W:=h.inn.below (hb.mono (Nat.le_of_lt h.inn.gpl))
theorem ScE.nm (h:ScE Q W0 cn ct) (hb:Below W0.heap.size W0 W)  (hik:i<=k) (hk:k<=Q.row.length):NmV Q W W0.heap.size i k (fun n=>cn n i k):=((h.pcs.kn i k (Nat.zero_le _) hik hk).1.v).below hb h.inn.gpl
theorem ScE.tlv (h:ScE Q W0 cn ct) (hb:Below W0.heap.size W0 W)  (hik:i<=k) (hk:k<=Q.row.length):TlV Q W W0.heap.size i k (fun q=>ct q i k):=((h.pcs.kn i k (Nat.zero_le _) hik hk).2.v).below hb h.inn.gpl
theorem ScE.wd (h:ScE Q W0 cn ct):∀i k,i<=k->k<=Q.row.length->EG Q.T.N (BK Q.tls) (FI Q.hds) Q.row cn ct i k:=fun i k hik hk=>h.pcs.wd i k (Nat.zero_le _) hik hk
theorem ScE.pt (h:ScE Q W0 cn ct) {q:Nat}{l:List Pt} (hq:BK Q.tls q=some l)  (hp:p∈l):J8 Q.T.N p:=by
 obtain⟨j,hj⟩:=qG hq hp;exact h.inn.pto j p hj
theorem ScE.pt2 (h:ScE Q W0 cn ct):∀q l,BK Q.tls q=some l->(∀t,Pt.tok t∈l->t<Q.T.N.nT)/\∀n,Pt.nam n∈l->n<Q.T.N.nN:=fun _ _ hq=>⟨fun _ ht=>h.pt hq ht,fun _ hn=>h.pt hq hn⟩
def gV (Q:Wts) (W0:World) (fn:Nat) (args:Nat->Array Value) (l:List Pt) (i k c:Nat):Prop:=∀(W:World) (sb:Nat) (v:Value) (E:List EdP),Below W0.heap.size W0 W->DH W sb W0.heap.size Q.wb v E->E.length+c<=3000000->
 Calls Tryz.prog fn (args sb) W fun e w'=>e=.returned (.tuple #[])/\∃(v':Value) (F:List EdP) (b:List Nat),DH w' sb W0.heap.size Q.wb v' (E++F)/\(A1 W w' (sb::v.ownBlock.toList)/\BH W.heap.size v v')/\Run Q.T.N Q.row i F k b c/\Der Q.T.N l b
def VJ (Q:Wts) (W0:World) (cn:Nat->Nat->Nat->Wt) (p:Pt) (i k:Nat):Prop:=gV Q W0 51 (fun sb=> #[ac sb,.agg #[.bool (AQ p),ab (AP p)],ab i,ab k]) [p] i k (CZ Q.T.N Q.row cn p i k).1
def ZH (Q:Wts) (W0:World) (cn:Nat->Nat->Nat->Wt) (n i k:Nat):Prop:=gV Q W0 85 (fun sb=> #[ac sb,ab n,ab i,ab k]) [.nam n] i k (cn n i k).1
def V4 (Q:Wts) (W0:World) (ct:Nat->Nat->Nat->Wt) (q:Nat) (l:List Pt) (i k:Nat):Prop:=gV Q W0 113 (fun sb=> #[ac sb,ab q,ab i,ab k]) l i k (ct q i k).1
theorem Below.keepsScr {B:Nat}{W0 W W':World}{sb wb:Nat}{v:Value}{E:List EdP} (h:Below B W0 W) (hB:W0.heap.size=B) (hS:DH W sb B wb v E) (hk:A1 W W' (sb::v.ownBlock.toList)):Below B W0 W':=
 h.trans (hk.below (by have:=h.size;omega) (fun q hq=>(hS.kind q hq).1))
theorem qW {N:NG}{row:List Nat}{x:Nat} (hx:row[i]?=some x) (ht:t<N.nT) (hk:FC N x t<AB):Run N row i (KR N i x t) (i+1) [t] (FC N x t):=by
 unfold KR;unfold FC JY at hk ⊢
 by_cases e:x=t
 ·subst e
  simp only[if_pos,Option.getD_some];exact .keep hx (.done _)
 ·rw[if_neg e]at hk ⊢
  by_cases e2:N.swp x t=0
  ·rw[if_pos e2]at hk;simp at hk
  ·rw[if_neg e2]at hk ⊢
   simp only[Option.getD_some];rw[if_neg e2];have:=Run.swap hx ht e e2 (Run.done (N:=N) (row:=row) (i+1))
   rwa [Nat.add_zero]at this
end
end
section
section
variable {Q:Wts}{W0:World}{cn ct:Nat->Nat->Nat->Wt}
theorem SK {n:Nat} (hC:ZH Q W0 cn n i k):VJ Q W0 cn (.nam n) i k:=by
 intro W sb v E hb hS hE;have hsw:sb<W.heap.size:=lt_of_block hS.blk;have HC:Hid (∀V,A1 W V []->Calls Tryz.prog 85 #[ac sb,ab n,ab i,ab k] V fun e w'=>e=.returned (.tuple #[])/\∃(v':Value) (F:List EdP) (b:List Nat),DH w' sb W0.heap.size Q.wb v' (E++F)/\(A1 V w' (sb::v.ownBlock.toList)/\BH V.heap.size v v')/\Run Q.T.N Q.row i F k b (cn n i k).1/\Der Q.T.N [.nam n] b):=hid fun V hk=>hC V sb v E (hb.trans (hk.below hb.size (fun q h=>by cases h))) (hS.keeps hk (by simp) (fun _ _=>by simp)) hE
 have e:(CZ Q.T.N Q.row cn (.nam n) i k).1=(cn n i k).1:=rfl;rw[e];clear hC hb hS hE e
 go_enter Tryz.func51,Tryz.ntmps51
 have b0:=BG W #[.bool true,ab n] 105 0;have b1:=BG W #[.bool true,ab n] 105 1;have HK1:Hid (A1 W (W.alloc (.cells #[.bool true,ab n] 105)) []):=hid ((A1.refl W []).alloc _)
 go_wp2_with (go_at_call 85;refine(HC.out _ HK1.out).mono ?_;rintro e w2 ⟨rfl,h2⟩;have H2:=hid h2;clear h2)
 go_end0
 obtain⟨v',F,b,g1,⟨g2,g3⟩,g4,g5⟩:=H2.out;exact⟨rfl,v',F,b,g1,⟨(HK1.out.mono (fun q h=>by cases h)).trans g2,(BH.refl _ v).trans g3 HK1.out.size⟩,g4,g5⟩
theorem eK (hE0:ScE Q W0 cn ct)  (ht:t<Q.T.N.nT):VJ Q W0 cn (.tok t) i i:=by
 intro W sb v E hb hS hE;obtain⟨iE,hiE,hzE0,hzE1,hzE2⟩:=info_parts Tryz.infoB92;have hQ:=hE0.inW hb;have e:(CZ Q.T.N Q.row cn (.tok t) i i).1=Q.T.N.put t:=by show(FQ Q.T.N Q.row t i i).1=_;unfold FQ;rw[if_pos rfl]
 rw[e]at hE ⊢;clear e;have hsw:sb<W.heap.size:=lt_of_block hS.blk;have hwl:=hQ.wlt;have hwbl:=hQ.wbl;have hsB:=hS.sbB;have hgB:Q.gp<W0.heap.size:=hE0.inn.gpl;have hBW:W0.heap.size<=W.heap.size:=hb.size;have htb:Q.T.tb<W0.heap.size:=by have:=hE0.inn.tab.bd.tb;exact this
 have e0:W.cell? (af Q.wb 0)=some (ac Q.T.tb):=(A0 hQ.blk).trans rfl;have s0:W.cell? (af sb 0)=some (ac Q.wb):=(A0 hS.blk).trans rfl;have s1:W.cell? (af sb 1)=some v:=(A0 hS.blk).trans rfl;obtain⟨d0,d1,_⟩:=hQ.tab.tv.heads;obtain⟨gT,hgT,hgl,_,c2⟩:=hQ.tab.fc.gr.toks t ht;have hgl:gT<W0.heap.size:=by have:=hE0.inn.tab.bd.n0;omega
 rw[hgT]at d0;have hT20:=hQ.tab.fc.gr.leT;obtain⟨nT,hnT⟩:=qF (Q.T.N.nT);obtain⟨nN,hnN⟩:=qF (Q.T.N.nN);obtain⟨pt,hpt⟩:=qE (Q.T.N.put t);have HRun:Hid (Run Q.T.N Q.row i [⟨i,1,nT,t,pt⟩] i [t] pt):=hid (by
  have:=Run.put (N:=Q.T.N) (row:=Q.row) ht (Run.done i);rw[<-hpt,hnT]
  rwa [Nat.add_zero]at this)
 have hti:((t:Int)< (nT:Int)):=by omega
 rw[<-hnT]at d0 ht hT20;rw[<-hnN]at d1;rw[hpt]at c2 hE ⊢;have HC1:Hid (∀V,Calls Tryz.prog 31 #[.agg #[ae gT nT Q.T.capT,ae Q.T.gN nN Q.T.capN]] V fun e w'=>e=.returned (ab nT)/\Below V.heap.size V w'):=hid fun V=>MO V _ _ _ _ _ _
 obtain⟨kE,hkE⟩:=qE (E.length);rw[hkE]at hE;have hrow:W.ownsRow W0.heap.size 92 5 v kE (DM E):=by rw[<-hkE];exact hS.row
 have ogS:some sb≠v.ownBlock:=fun e=>A6 hrow hS.blk (by decide) e.symm
 have ogW:some Q.wb≠v.ownBlock:=fun e=>by have:=(hrow.lt _ e.symm).1;omega
 have ogT:some Q.T.tb≠v.ownBlock:=fun e=>by have:=(hrow.lt _ e.symm).1;omega
 have ogt:some gT≠v.ownBlock:=fun e=>by have:=(hrow.lt _ e.symm).1;omega
 have ogP:some W.heap.size≠v.ownBlock:=fun e=>by have:=CK hrow e.symm;omega
 have HS:=hid hS;have HKe:=hid hkE;have hgT2:gT<W.heap.size:=by omega
 clear hQ hb hS hnT hnN hpt hgT hrow hkE;show Calls Tryz.prog 51 #[ac sb,.agg #[.bool false,ab (t:Nat)],ab i,ab i] W _
 go_enter Tryz.func51,Tryz.ntmps51
 have b0:=BG W #[.bool false,ab t] 105 0;go_wp2;obtain⟨W1,hW1⟩:=qE (W.alloc (.cells #[.bool false,ab t] 105));have hk1:A1 W W1 []:=by rw[<-hW1];exact(A1.refl W []).alloc _
 have hp1:W1.heap[W.heap.size]?=some (.cells #[.bool false,ab t] 105 (0,0)):=by rw[<-hW1];exact World.alloc_heap_new W _
 rw[hW1];have hs1:W.heap.size<W1.heap.size:=lt_of_block hp1;have x1:W1.cell? (af W.heap.size 1)=some (ab t):=(A0 hp1).trans rfl;replace s0:=(hk1.cell (p:=(af sb 0)) (by exact hsw) (by simp)).trans s0;replace s1:=(hk1.cell (p:=(af sb 1)) (by exact hsw) (by simp)).trans s1;replace e0:=(hk1.cell (p:=(af Q.wb 0)) y19Z (by simp)).trans e0;replace d0:=(hk1.cell (p:=(af Q.T.tb 0)) y65Z (by simp)).trans d0;replace d1:=(hk1.cell (p:=(af Q.T.tb 1)) y65Z (by simp)).trans d1;replace c2:=(hk1.cell (p:=(af gT (t*4+1))) (by exact hgT2) (by simp)).trans c2;have HK1:=hid hk1;clear hW1 hk1 hp1 b0;refine AE (fun w'=>(w'.cell? (af sb 0)=some (ac Q.wb)/\w'.cell? (af sb 1)=some v/\w'.cell? (af W.heap.size 1)=some (ab t))/\w'.cell? (af Q.wb 0)=some (ac Q.T.tb)/\w'.cell? (af Q.T.tb 0)=some (ae gT nT Q.T.capT)/\w'.cell? (af Q.T.tb 1)=some (ae Q.T.gN nN Q.T.capN)/\w'.cell? (af gT (t*4+1))=some (ab pt)) hmx y1Z ⟨⟨s0,s1,x1⟩,e0,d0,d1,c2⟩ (fun hH=>?_)
 simp only[AC,BM,AO];refine tB 0 hH ?_;refine tB 1 hH ?_;refine tB 2 hH ?_;refine tB 3 hH ?_;refine tB 4 hH ?_;refine tB 5 hH ?_;refine tB 6 hH ?_;refine tB 7 hH ?_;refine tB 8 hH ?_;refine tB 9 hH ?_;refine tB 10 hH ?_;refine tB 11 hH ?_;refine tB 12 hH ?_;refine tB 13 hH ?_;refine tB 14 hH ?_;refine tB 15 hH ?_;refine tB 16 hH ?_;refine tB 18 hH ?_;refine tB 19 hH ?_;refine tB 20 hH ?_;refine tB 21 hH ?_;refine tB 22 hH ?_;refine tB 23 hH ?_;refine tB 24 hH ?_;refine tB 25 hH ?_;refine tB 26 hH ?_;refine tB 27 hH ?_;refine tB 28 hH ?_;refine tB 29 hH ?_;refine tB 30 hH ?_;refine tB 31 hH ?_;refine tB 32 hH ?_;refine tB 33 hH ?_;refine tB 34 hH ?_;refine tB 35 hH ?_;refine tB 36 hH ?_;refine tL ?_;refine tS 17 fun K hK=>?_
 refine tM ?_
 go_simp;refine(HC1.out _).mono ?_;rintro e w5 ⟨rfl,hb4⟩;try dsimp only
 refine hK.out _ _ ?_ fun hH=>?_
 ·exact⟨⟨A4 hb4 hH.1.1,A4 hb4 hH.1.2.1,A4 hb4 hH.1.2.2⟩,A4 hb4 hH.2.1,A4 hb4 hH.2.2.1,A4 hb4 hH.2.2.2.1,A4 hb4 hH.2.2.2.2⟩
 clear hK K;refine tL ?_;have HB5:Hid (Below W1.heap.size W1 w5):=hid ((Below.refl _ W1).drew.trans hb4);refine tB 37 hH ?_;refine tL ?_;refine tS 38 fun K hK=>?_
 refine tM ?_;go_simp;refine hK.out _ _ ?_ fun hH=>?_
 ·exact⟨⟨A2 _ hH.1.1,A2 _ hH.1.2.1,A2 _ hH.1.2.2⟩,A2 _ hH.2.1,A2 _ hH.2.2.1,A2 _ hH.2.2.2.1,A2 _ hH.2.2.2.2⟩
 clear hK K;refine tL ?_;have hs5:W1.heap.size<=w5.heap.size:=HB5.out.size;have HK5:Hid (A1 W w5 []):=hid (HK1.out.trans (A1.of_below HB5.out []));have HS5:Hid (DH w5 sb W0.heap.size Q.wb v E):=hid (HS.out.keeps HK5.out (by simp) (fun _ _=>by simp));have HR5:Hid (w5.ownsRow W0.heap.size 92 5 v kE (DM E)):=hid (by rw[<-HKe.out];exact HS5.out.row);refine tS 39 fun K hK=>?_
 refine tM ?_;rw[if_pos (by rfl)];refine wp_append_lies _ (.tmp 36) (.tmp 70) 89 rfl W0.heap.size 92 iE (.agg #[ab 0,ab 0,ab 0,ab 0,ab 0]) 5 40 Tryz.underlying89 hiE hzE0 hzE1 hzE2 rfl (by decide) v _ _ rfl (HR5.out.alloc _) (af w5.heap.size 0) 1 1 [ab i,ab 1,ab nT,ab t,ab pt] rfl rfl (World.news_of_block (fr:=(0,0)) (heap_alloc_new w5 _)) y4Z (by omega) y3Z (by omega) y2Z _ rfl ?_;intro g2 cap2 w7 hown hgrow hat hlt2;refine hK.out _ _ ?_ fun hH=>?_
 ·exact⟨⟨(hgrow.cell_far _ y2Z y83Z).trans hH.1.1,(hgrow.cell_far _ y2Z y83Z).trans hH.1.2.1,(hgrow.cell_far _ y2Z (by exact ogP)).trans hH.1.2.2⟩,(hgrow.cell_far _ y2Z y68Z).trans hH.2.1,(hgrow.cell_far _ y2Z y35Z).trans hH.2.2.1,(hgrow.cell_far _ y2Z y35Z).trans hH.2.2.2.1,(hgrow.cell_far _ y2Z (by exact ogt)).trans hH.2.2.2.2⟩
 clear hK K;refine tL ?_;refine tB 40 hH ?_;refine tB 41 hH ?_;refine tB 42 hH ?_;refine tL ?_;refine wpAnyH_done y1Z ?_ _;clear hH hb4 s0 s1 e0 d0 d1 c2 x1;obtain⟨z1,z2,z3⟩:=HS5.out.add (e:=⟨i,1,nT,t,pt⟩) ((A1.refl w5 []).alloc _) hgrow (by rw[HKe.out];exact hown);have zc:w7.cell? (af sb 1)=some v:=(A0 z1).trans rfl;have zf:=A3 (j:=1) z1;have HZ:=hid (And.intro z2 z3);have HFr2:Hid (BH w5.heap.size v (ae g2 (kE+1) cap2)):=hid (fun g hg=>by
  obtain rfl:g2=g:=by simpa[Value.ownBlock] using hg
  rcases hat with h4 |h4
  ·exact .inl h4
  ·exact .inr y70Z)
 clear z1 z2 z3 hown hgrow hat hlt2;show wpList _ _ _ _ _ _;go_wp2;obtain⟨W5,hW5⟩:=qE (w7.setCell (af sb 1) (ae g2 (kE+1) cap2));rw[hW5]at HZ ⊢;clear hW5 zc zf;go_wp2
 go_end0
 exact⟨rfl,_,_,[t],HZ.out.1,⟨(HK5.out.mono (fun q h=>by cases h)).trans HZ.out.2,(BH.refl _ v).trans HFr2.out (by omega)⟩,HRun.out,.tok .nil⟩
theorem eF (hE0:ScE Q W0 cn ct) {m:Nat} (ht:t<Q.T.N.nT) (him:i<=m) (hm:m<Q.row.length) (hlt:(CZ Q.T.N Q.row cn (.tok t) i (m+1)).1<AB):VJ Q W0 cn (.tok t) i (m+1):=by
 intro W sb v E hb hS hE;have hQ:=hE0.inW hb;obtain⟨x,hx⟩:∃x,Q.row[m]?=some x:=⟨_,gE hm⟩;have hx':Q.row.getD m 0=x:=by rw[gD_,hx];rfl
 have e:(CZ Q.T.N Q.row cn (.tok t) i (m+1)).1=E4 Q.T.N Q.row i m+FC Q.T.N x t:=by
  show(FQ Q.T.N Q.row t i (m+1)).1=_;unfold FQ;rw[if_neg (by omega),show m+1 - 1=m by omega,hx']
 rw[e]at hE hlt ⊢;have HRun:Hid (Run Q.T.N Q.row i (DO Q.T.N Q.row i (m - i)++KR Q.T.N m x t) (m+1) [t] (E4 Q.T.N Q.row i m+FC Q.T.N x t)):=hid (by
  have h1:=Run.drops (N:=Q.T.N) (row:=Q.row) (m - i) i (by omega);rw[show i+(m - i)=m by omega]at h1;have h2:=qW hx ht (show FC Q.T.N x t<AB by omega);have h3:=h1.append h2;rw[List.nil_append]at h3;exact h3)
 have hr100:=hQ.r40;have hsw:sb<W.heap.size:=lt_of_block hS.blk;have hBW:W0.heap.size<=W.heap.size:=hb.size;have hgB:Q.gp<W0.heap.size:=hE0.inn.gpl;obtain⟨W1,hW1⟩:=qE (W.alloc (.cells #[.bool false,ab t] 105));have hk1:A1 W W1 []:=by rw[<-hW1];exact(A1.refl W []).alloc _
 have hp1:W1.heap[W.heap.size]?=some (.cells #[.bool false,ab t] 105 (0,0)):=by rw[<-hW1];exact World.alloc_heap_new W _
 have hs1:W.heap.size<W1.heap.size:=lt_of_block hp1;have hb1:Below W0.heap.size W0 W1:=hb.trans (hk1.below hBW (fun q h=>by cases h));have hS1:DH W1 sb W0.heap.size Q.wb v E:=hS.keeps hk1 (by simp) (fun _ _=>by simp);have HD:Hid (Calls Tryz.prog 52 #[ac sb,ab i,ab m] W1 fun e w'=>e=.returned (.tuple #[])/\∃v',DH w' sb W0.heap.size Q.wb v' (E++DO Q.T.N Q.row i (m - i))/\A1 W1 w' (sb::v.ownBlock.toList)/\BH W1.heap.size v v'):=hid (RO (hE0.inW hb1) hS1 hgB hb1.size him (by omega) (by omega));have hPv:v.ownBlock≠some W.heap.size:=fun e=>by have:=CK hS.row e;omega
 have HSw:Hid (∀V v1,Below W0.heap.size W0 V->DH V sb W0.heap.size Q.wb v1 (E++DO Q.T.N Q.row i (m - i))->Calls Tryz.prog 86 #[ac sb,ab m,ab t] V fun e w'=>e=.returned (.tuple #[])/\∃v',DH w' sb W0.heap.size Q.wb v' (E++DO Q.T.N Q.row i (m - i)++KR Q.T.N m x t)/\A1 V w' (sb::v1.ownBlock.toList)/\BH V.heap.size v1 v'):=hid fun V v1 hbV hSV=>dU (hE0.inW hbV) hSV hgB hbV.size hx ht (by rw[lA,SU];omega)
 have HB1:=hid hb1;have HS1:=hid hS1;have HK1:=hid hk1;have hm1000:m<=1000:=by omega
 have hne:((i:Int)==(m:Int)+1)=false:=by rw[beq_eq_false_iff_ne];omega
 have hmw:IntKind.i64.wrap (m:Int)=(m:Int):=by rw[w64];omega
 have c0:W1.cell? (af W.heap.size 0)=some (.bool false):=(A0 hp1).trans rfl;have c1:W1.cell? (af W.heap.size 1)=some (ab t):=(A0 hp1).trans rfl;have HW1:=hid hW1;clear hQ hb hS hE hx hx' e hlt hk1 hp1 hb1 hS1 hr100 hW1;show Calls Tryz.prog 51 #[ac sb,.agg #[.bool false,ab (t:Nat)],ab i,ab ((m+1:Nat):Int)] W _
 go_enter Tryz.func51,Tryz.ntmps51
 have b0:=BG W #[.bool false,ab t] 105 0
 go_wp2_with fail
 rw[HW1.out]
 go_wp2_with (first
  | (go_at_call 52;refine HD.out.mono ?_;rintro e w2 ⟨rfl,v1,h2,h3,hf3⟩;have H2:=hid (And.intro h2 (And.intro h3 hf3));have c2:w2.cell? ⟨W.heap.size,1,none⟩=some (.int .i64 t):=(h3.cell y48Z (by simp;exact⟨by omega,fun e=>hPv e⟩)).trans c1;clear h2 h3 hf3)
  | (go_at_call 86;refine(HSw.out _ _ (Below.keepsScr HB1.out rfl HS1.out H2.out.2.1) H2.out.1).mono ?_;rintro e w3 ⟨rfl,v2,h4,h5,hf5⟩;have H3:=hid (And.intro h4 (And.intro h5 hf5));clear h4 h5 hf5))
 go_end0
 refine⟨rfl,_,_,[t],by rw[<-aA];exact H3.out.1,⟨(HK1.out.mono (fun q h=>by cases h)).trans (H2.out.2.1.fresh H3.out.2.1 H2.out.2.2 (lR_ _)),(BH.refl _ v).trans (H2.out.2.2.trans H3.out.2.2 H2.out.2.1.size) (Nat.le_of_lt hs1)⟩,HRun.out,.tok .nil⟩
theorem dE (hE0:ScE Q W0 cn ct)  (hp:J8 Q.T.N p) (hik:i<=k) (hk:k<=Q.row.length) (hlt:(CZ Q.T.N Q.row cn p i k).1<AB) (hN:∀n,p=.nam n->ZH Q W0 cn n i k):VJ Q W0 cn p i k:=by
 cases p with
 |nam n=>exact SK (hN n rfl)
 |tok t=>
  by_cases e:i=k
  ·subst e;exact eK hE0 hp
  ·obtain⟨m,rfl⟩:∃m,k=m+1:=⟨k - 1,by omega⟩
   exact eF hE0 hp (by omega) (by omega) hlt
end
end
section
section
variable {Q:Wts}{W0:World}{cn ct:Nat->Nat->Nat->Wt}
theorem SM (hE0:ScE Q W0 cn ct) {n:Nat} (hn:n<Q.T.N.nN) (hik:i<=k) (hk:k<=Q.row.length) (hlt:(cn n i k).1<AB) (hT:∀q l,FI Q.hds n q->BK Q.tls q=some l->cn n i k=named (ct q i k)->V4 Q W0 ct q l i k):ZH Q W0 cn n i k:=by
 intro W sb v E hb hS hE;have hQ:=hE0.inW hb;have hr100:=hQ.r40;have htl:=hQ.tl20;have hn20:=hQ.tab.fc.gr.leN;have hsw:sb<W.heap.size:=lt_of_block hS.blk;have hBW:W0.heap.size<=W.heap.size:=hb.size;have hgB:Q.gp<W0.heap.size:=hE0.inn.gpl;have hwbl:=hQ.wbl;obtain⟨l,hl⟩:∃l,Q.hds[n]?=some l:=⟨_,gE (by rw[hQ.hl];exact hn)⟩;obtain⟨hv,chv,hrv⟩:=hQ.hdc n l hl;obtain⟨hl60,hlq⟩:=hQ.hdl n l hl;have hex:∃x∈l,(fun x=>decide (named (ct x i k)=cn n i k)) x=true:=by
  rcases(hE0.wd i k hik hk).namA n hn with e | ⟨q,⟨l',h1,h2⟩,e⟩
  ·rw[e]at hlt;simp at hlt
  ·rw[hl]at h1
   injection h1 with h1
   subst h1;exact⟨q,h2,decide_eq_true e.symm⟩
 have HTail:Hid (∀x,x∈l->named (ct x i k)=cn n i k->∃rhs,(n,rhs)∈Q.T.N.rules/\V4 Q W0 ct x rhs i k/\(ct x i k).1=(cn n i k).1):=hid fun x hx e=>by
  obtain⟨rhs,h1,h2⟩:=hE0.tls.rule n x ⟨l,hl,hx⟩;refine⟨rhs,h2,hT x rhs ⟨l,hl,hx⟩ h1 e.symm,?_⟩;rw[<-e];simp[named,GE]
 obtain⟨gi,gn,hgiB,hgnB,cgi,cgn,wgn⟩:=hE0.nm hb hik hk;obtain⟨gi',gq,_,hgqB,cgi',cgq,wgq⟩:=hE0.tlv hb hik hk;have egi:gi'=gi:=by
  rw[cgi]at cgi';injection cgi' with e
  injection e with e
  injection e with e
  injection e with e
  exact e.symm
 subst egi;obtain⟨kn1,kn2⟩:=wgn n hn;have s0:W.cell? (af sb 0)=some (ac Q.wb):=(A0 hS.blk).trans rfl;have e4:W.cell? (af Q.wb 4)=some (ae Q.gh Q.T.N.nN Q.ch):=(A0 hQ.blk).trans rfl;have e5:W.cell? (af Q.wb 5)=some (ae Q.gp (Q.row.length+1) (Q.row.length+1)):=(A0 hQ.blk).trans rfl;have hchn:=hQ.chl;have hghl:=hQ.ghl;obtain⟨L1,hL1⟩:=qF (Q.row.length+1);obtain⟨nN,hnN⟩:=qF (Q.T.N.nN);obtain⟨nQ,hnQ⟩:=qF (Q.tls.length);have hiL:((i:Int)< (L1:Int)):=by omega
 have hkL:((k:Int)< (L1:Int)):=by omega
 have hni:((n:Int)< (nN:Int)):=by omega
 rw[<-hL1]at e5 cgi;rw[<-hnN]at e4 cgn wgn hn hn20 hchn;rw[<-hnQ]at cgq wgq htl hlq;have hsm:WSm ct:=hE0.pcs.st;obtain⟨c1,hc1⟩:=qE ((cn n i k).1);obtain⟨c2,hc2⟩:=qE ((cn n i k).2);rw[hc1]at kn1;rw[hc2]at kn2;have HCe:Hid (cn n i k=(c1,c2)):=hid (Prod.ext hc1 hc2);clear hT hlt hL1 hnN hnQ cgi' hQ hc1 hc2 hl
 go_enter Tryz.func85,Tryz.ntmps85
 have s0':(W.alloc (.cells #[ab n] 3)).cell? (af sb 0)=some (ac Q.wb):=A2 _ s0;have e5':(W.alloc (.cells #[ab n] 3)).cell? (af Q.wb 5)=some (ae Q.gp L1 L1):=A2 _ e5;have cgi':(W.alloc (.cells #[ab n] 3)).cell? (af Q.gp i)=some (ae gi' L1 L1):=A2 _ cgi;have cgn':(W.alloc (.cells #[ab n] 3)).cell? (af gi' (k*2))=some (ae gn nN nN):=A2 _ cgn;have cgq':(W.alloc (.cells #[ab n] 3)).cell? (af gi' (k*2+1))=some (ae gq nQ nQ):=A2 _ cgq
 go_upto_region 2 with fail
 obtain⟨W2,hW2⟩:=qE ((W.alloc (.cells #[ab n] 3)).alloc (.cells #[ae gn nN nN,ae gq nQ nQ] 210));have hk2:A1 W W2 []:=by rw[<-hW2];exact((A1.refl W []).alloc _).alloc _
 have hn2:W2.heap[W.heap.size]?=some (.cells #[ab n] 3 (0,0)):=by rw[<-hW2];exact(Below.heap_alloc _ _ _ (by simp)).trans (World.alloc_heap_new W _)
 have hp2:W2.heap[W.heap.size+1]?=some (.cells #[ae gn nN nN,ae gq nQ nQ] 210 (0,0)):=by rw[<-hW2];exact P2 W _ _ _ _
 have hs2:W.heap.size+1<W2.heap.size:=lt_of_block hp2;rw[hW2];have hb2:Below W0.heap.size W0 W2:=hb.trans (hk2.below hBW (fun q h=>by cases h));have hS2:DH W2 sb W0.heap.size Q.wb v E:=hS.keeps hk2 (by simp) (fun _ _=>by simp);have hrv2:RwV W2 Q.gp hv l:=hrv.below (hk2.below (by omega) (fun q h=>by cases h));have hgpl:Q.gp<W2.heap.size:=by omega
 have e1:∀args V,(callFunc 111 args).run Tryz.prog V=.ok (.enter 111 args) V:=enters_of Tryz.func111 y1Z rfl;have HIdx:Hid (∀V,Below W2.heap.size W2 V->Calls Tryz.prog 110 #[hv,.func (.func 111) #[] #[ac (W.heap.size+1),ac W.heap.size]] V fun e w'=>∃j x:Nat,e=.returned (ab j)/\l[j]?=some x/\decide (named (ct x i k)=cn n i k)=true/\Below V.heap.size V w'):=hid fun V hbV=>by
  have hsV:=hbV.size;refine jQ (p:=fun x=>decide (named (ct x i k)=cn n i k)) (hrv2.below (hbV.mono (by omega))) (by omega) (by omega) e1 (fun V' x hx hbV'=>?_) hex;have hbb:Below W2.heap.size W2 V':=hbV.trans (hbV'.mono hsV);have hbW:Below W0.heap.size W0 V':=hb2.trans (hbb.mono (by omega));obtain⟨kq1,kq2⟩:=wgq x (hlq x hx);obtain⟨t1,ht1⟩:=qE ((ct x i k).1);obtain⟨t2,ht2⟩:=qE ((ct x i k).2);have hs:=hsm x i k;unfold AB FZ at hs;rw[ht1]at kq1 hs;rw[ht2]at kq2 hs;have hbWV:Below W.heap.size W V':=((A1.below hk2 (lR_ _) (fun q h=>by cases h))).trans (hbb.mono (by omega));have h:=b9 (V:=V') (pb:=W.heap.size+1) (nb:=W.heap.size) (gn:=gn) (gq:=gq) (nN:=nN) (nQ:=nQ) (n:=n) (h:=x) (c1:=c1) (c2:=c2) (t1:=t1) (t2:=t2)
   ((hbb.cell (p:=(af (W.heap.size+1) 0)) y61Z).trans ((A0 hp2).trans rfl)) ((hbb.cell (p:=(af (W.heap.size+1) 1)) y61Z).trans ((A0 hp2).trans rfl)) ((hbb.cell (p:=(af W.heap.size 0)) (by show W.heap.size<W2.heap.size;omega)).trans ((A0 hn2).trans rfl))
   hn (hlq x hx) (by omega) htl ((hbWV.cell (p:=(af gn (n*2))) (by show gn<W.heap.size;omega)).trans kn1) ((hbWV.cell (p:=(af gn (n*2+1))) (by show gn<W.heap.size;omega)).trans kn2) ((hbWV.cell (p:=(af gq (x*2))) y55Z).trans kq1) ((hbWV.cell (p:=(af gq (x*2+1))) y55Z).trans kq2) (by omega) hs.2
  rw[show ct x i k=(t1,t2) from Prod.ext ht1 ht2,HCe.out];exact h
 obtain⟨ad,cap,rfl,hcap,hhc⟩:=hrv2;have HHc:=hid hhc;obtain⟨nl,hnl⟩:=qF (l.length);rw[<-hnl]at HIdx hcap chv hl60;have HNl:=hid hnl;have t0:=(hk2.cell (p:=(af sb 0)) (by exact hsw) (by simp)).trans s0;have t4:=(hk2.cell (p:=(af Q.wb 4)) y25Z (by simp)).trans e4;have th:=(hk2.cell (p:=(af Q.gh n)) (by show Q.gh<W.heap.size;omega) (by simp)).trans chv;have tn:W2.cell? (af W.heap.size 0)=some (ab n):=(A0 hn2).trans rfl;have HB2:=hid hb2;have HS2:=hid hS2;have HK2:=hid hk2;have HOv:Hid (v.ownBlock≠some W.heap.size):=hid (fun e=>by have:=CK hS.row e;omega);clear hW2 hn2 hp2 hb2 hS2 hk2 s0' e5' cgi' cgn' cgq' s0 e4 e5 cgi cgn cgq chv hex wgn wgq kn1 kn2 hrv hhc hnl hsm hlq hb hS hE0;refine wp_region_held_drew (S:=fun w'=>w'.cell? (af sb 0)=some (ac Q.wb)/\w'.cell? (af Q.wb 4)=some (ae Q.gh nN Q.ch)/\w'.cell? (af Q.gh n)=some (.slice ad nl cap)/\w'.cell? (af W.heap.size 0)=some (ab n)) y1Z ⟨t0,t4,th,tn⟩ (fun hH=>?_)
 refine tB 0 hH ?_;refine tB 1 hH ?_;refine tB 2 hH ?_;refine tB 3 hH ?_;refine tB 4 hH ?_;refine tB 5 hH ?_;refine tB 6 hH ?_;refine tB 7 hH ?_;refine tB 8 hH ?_;refine tB 9 hH ?_;refine tB 10 hH ?_;refine tL ?_;refine tS 11 fun K hK=>?_
 refine tM ?_
 go_simp;refine(HIdx.out _ (Below.refl _ W2).drew).mono ?_;rintro e w4 ⟨j,x,rfl,hj,hx,hb4⟩;try dsimp only
 refine hK.out _ _ ?_ fun hH=>?_
 ·exact⟨A4 hb4 hH.1,A4 hb4 hH.2.1,A4 hb4 hH.2.2.1,A4 hb4 hH.2.2.2⟩
 clear hK K;refine tB 12 hH ?_;refine tL ?_;refine wpAnyH_done y1Z ?_ _;have hb24:Below W2.heap.size W2 w4:=(Below.refl _ W2).drew.trans hb4;have hs4:=hb24.size;have hk24:A1 W w4 []:=HK2.out.trans (A1.of_below hb24 []);have hS4:DH w4 sb W0.heap.size Q.wb v E:=HS2.out.keeps (A1.of_below hb24 []) (by simp) (fun _ _=>by simp);have hxl:x∈l:=mG hj;obtain⟨rhs,hr1,hr2,hr3⟩:=HTail.out x hxl (of_decide_eq_true hx);have hjn:j<nl:=by rw[HNl.out];exact(gS_.1 hj).1
 have hjc:((j:Int)< (nl:Int)):=by omega
 obtain⟨g,off,rfl,hgl,hgc⟩:=HHc.out (by have:=HNl.out;omega);have cx:w4.cell? (af g (off+j))=some (ab x):=(hb24.cell (p:=(af g (off+j))) (by show g<W2.heap.size;omega)).trans (hgc j x hj);have hbW4:Below W0.heap.size W0 w4:=HB2.out.trans (hb24.mono (by omega));have HTl:Hid (Calls Tryz.prog 113 #[ac sb,ab x,ab i,ab k] w4.drew fun e w'=>e=.returned (.tuple #[])/\∃(v':Value) (F:List EdP) (b:List Nat),DH w' sb W0.heap.size Q.wb v' (E++F)/\(A1 w4.drew w' (sb::v.ownBlock.toList)/\BH w4.drew.heap.size v v')/\Run Q.T.N Q.row i F k b (ct x i k).1/\Der Q.T.N rhs b):=hid (hr2 w4.drew sb v E hbW4.drew ⟨hS4.blk,hS4.row,hS4.sbB⟩ (by rw[hr3];exact hE));obtain⟨q0,q4,qh,qn⟩:=hH;have HR:=hid (And.intro hr1 hr3);have HK4:=hid hk24;have hOv2:W.heap.size∉sb::v.ownBlock.toList:=fun hm=>by
  rcases List.mem_cons.1 hm with e |e
  ·omega
  ·exact HOv.out y7Z
 have hlow:∀q,q<W0.heap.size->q∉sb::v.ownBlock.toList:=fun q hq hm=>by have:=(hS4.kind q hm).1;omega
 have HLow:=hid hlow;have HOv2:=hid hOv2;clear hj hx hxl hr1 hr2 hr3 hgc hk24 hS4 hbW4 hb24 hb4 t0 t4 th tn hlow hOv2
 go_upto_region 3 with fail
 refine wp_region_held_drew (S:=fun w'=>w'.cell? (af sb 0)=some (ac Q.wb)/\w'.cell? (af Q.wb 4)=some (ae Q.gh nN Q.ch)/\w'.cell? (af Q.gh n)=some (.slice (some (af g off)) nl cap)/\w'.cell? (af W.heap.size 0)=some (ab n)/\w'.cell? (af g (off+j))=some (ab x)) y1Z ⟨q0,q4,qh,qn,cx⟩ (fun hH=>?_);refine tB 0 hH ?_;refine tB 1 hH ?_;refine tB 2 hH ?_;refine tB 3 hH ?_;refine tB 4 hH ?_;refine tB 5 hH ?_;refine tB 6 hH ?_;refine tB 7 hH ?_;refine tB 8 hH ?_;refine tB 9 hH ?_;refine tB 10 hH ?_;refine tB 11 hH ?_;refine tB 12 hH ?_;refine tB 13 hH ?_;refine tB 14 hH ?_;refine tB 15 hH ?_;refine tL ?_;refine tS 16 fun K hK=>?_
 refine tM ?_
 go_simp;refine HTl.out.mono ?_;rintro e w5 ⟨rfl,v',F,b,g1,⟨g2,g3⟩,g4,g5⟩;try dsimp only
 refine hK.out _ _ ?_ fun hH=>?_
 ·exact⟨(A0 g1.blk).trans rfl,(g2.cell y23Z (HLow.out _ (by show Q.wb<W0.heap.size;omega))).trans hH.2.1,(g2.cell (by show Q.gh<w4.heap.size;omega) (HLow.out _ (by show Q.gh<W0.heap.size;omega))).trans hH.2.2.1,(g2.cell (by show W.heap.size<w4.heap.size;omega) HOv2.out).trans hH.2.2.2.1,(g2.cell (by show g<w4.heap.size;omega) (HLow.out _ (by show g<W0.heap.size;omega))).trans hH.2.2.2.2⟩
 clear hK K;refine tL ?_;refine wpAnyH_done y1Z ?_ _;have H5:=hid (And.intro g1 (And.intro (And.intro g2 g3) (And.intro g4 g5)));clear hH g1 g2 g3 g4 g5;go_wp2
 go_end0
 obtain⟨g1,⟨g2,g3⟩,g4,g5⟩:=H5.out;obtain⟨hr1,hr3⟩:=HR.out;rw[hr3]at g4;refine⟨rfl,v',F,b,g1,⟨(HK4.out.mono (fun q h=>by cases h)).trans (⟨g2.os,g2.tape,g2.output,g2.size,g2.block⟩:A1 w4 w5 _),(BH.refl _ v).trans g3 (by show W.heap.size<=w4.heap.size;omega)⟩,g4,?_⟩;have:=Der.nam hr1 g5 .nil
 rwa [List.append_nil]at this
end
end
end Go.Proofs.YtjjggdcnpndgjabGreatDoor
