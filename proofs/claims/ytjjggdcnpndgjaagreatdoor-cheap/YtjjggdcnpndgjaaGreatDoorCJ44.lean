import Derived.Test.YtjjggdcnpndgjaaGreatDoorCJ43
set_option linter.unusedSimpArgs false
set_option maxHeartbeats 8000000
set_option maxRecDepth 100000
namespace Go.Proofs.YtjjggdcnpndgjaaGreatDoor
open Go.RowKit Go.Shelf
variable {B B' n:Nat}{T:Am}{l:List Nat}{m:Mk}{v:Value}{w:World}
def KP (w:World) (B:Nat) (v:Value) (L:List Cw):Prop:=∃ad cap,v=.slice ad L.length cap/\L.length<=cap/\(0<L.length->∃g off,ad=some (af g off)/\g<B/\∀(j:Nat) (s:ByteArray) (k:Int) (z:Nat),L[j]?=some (s,k,z)->w.cell? (af g (off+j*3))=some (.string s)/\w.cell? (af g (off+j*3+1))=some (ab k)/\w.cell? (af g (off+j*3+2))=some (ab z))
theorem KP.below {w':World}{L:List Cw} (h:KP w B v L) (hb:Below B w w'):KP w' B v L:=by
 obtain⟨ad,cap,h1,h2,h3⟩:=h;refine⟨ad,cap,h1,h2,λh0=>?_⟩;obtain⟨g,off,h4,h5,h6⟩:=h3 h0;refine⟨g,off,h4,h5,λj s k z hj=>?_⟩;obtain⟨h7,h8,h9⟩:=h6 j s k z hj;exact⟨(hb.cell Lb).trans h7,(hb.cell Lb).trans h8,(hb.cell Lb).trans h9⟩
theorem uP {L:List Cw} (h:w.ownsRow B 129 3 v L.length (BT L)) (hB:w.heap.size<=B'):KP w B' v L:=by
 by_cases h0:0<L.length
 ·obtain⟨g,cap,rfl,_,hg,hc⟩:=B4 h h0
  refine⟨_,cap,rfl,hc,λ_=>⟨g,0,rfl,by omega,λj s k z hj=>?_⟩⟩;obtain⟨hl,e⟩:=zM.1 hj;have hs:L=L.take j++(s,k,z)::L.drop (j+1):=by rw[<-e,<-gm hl,td]
  have hj':(L.take j).length=j:=by rw[nh];omega
  obtain⟨k1,k2,k3⟩:=L8 (L.take j) (L.drop (j+1)) (s,k,z);rw[<-hs,hj']at k1 k2 k3;rw[ju];exact⟨(h.cellAt _ (by omega)).trans k1,(h.cellAt _ (by omega)).trans k2,(h.cellAt _ (by omega)).trans k3⟩
 ·obtain⟨ad,cap,e,hc⟩:=BV h
  exact⟨ad,cap,e,hc,λh=>absurd h h0⟩
theorem KP.tail {g off cap:Nat}{a:Cw}{R:List Cw} (h:KP w B (.slice (some (af g off)) n cap) (a::R)) {AD:Option Addr} (Dp:(if cap=1 then some ((af g off):Addr)else some (af g (off+3)))=AD):KP w B (.slice AD R.length (cap - 1)) R:=by
 obtain⟨ad,cap',h1,h2,h3⟩:=h;injection h1 with h1 h4 h5
 subst h1;subst h5;rw[lC]at h2;refine⟨AD,cap - 1,rfl,by omega,λh0=>?_⟩;rw[aq (by omega)]at Dp;obtain⟨g',off',h6,h7,h8⟩:=h3 (by simp);injection h6 with h6
 injection h6 with h6 h9 _
 subst h6;subst h9;refine⟨g,off+3,Dp.symm,h7,λj s k z hj=>?_⟩;have:=h8 (j+1) s k z (by rw[List.getElem?_cons_succ];exact hj);rw[show off+(j+1)*3=off+3+j*3 by omega]at this;exact this
theorem oU {e sz:Nat}{xs:List Value} (h:w.ownsRow B e sz v n xs):∃Yi c,v=.slice Yi n c/\(Yi=none->n=0)/\xs.length=n*sz/\∀ad,Yi=some ad->∀j u,xs[j]?=some u->w.cell? (ad.add j)=some u:=by
 have h0:=h
 rcases h.2 with⟨rfl,rfl⟩ | ⟨g,cap,cur,rfl,_⟩
 ·exact⟨none,0,rfl,(λ_=>rfl),h.1,(λad e=>by cases e)⟩
 ·exact⟨_,cap,rfl,(λe=>by cases e),h.1,(λad e j u hu=>by
   injection e with e
   subst e;exact h0.cells rfl j u hu)⟩
def VB (m:Mk) (mb B:Nat) (p:Pt) (l:List Nat) (S:List GF):Prop:=∀(w:World) (v:Value) (R:List Cw),
 Gf w B mb m->B<=w.heap.size->KP w B v (S.map Iu++R)->S.length+R.length<=100000->l.length<=100000->
 Calls Tryz.prog 41 #[ac mb,v,.string (EG p)] w λe w'=>∃rv rest,e=.returned (.tuple #[rv,rest,.bool true])/\BL w' w.heap.size rv (l.map AB)/\KP w' B rest R/\Below w.heap.size w w'
theorem mZ  (hm:m.Good) (mb B t:Nat) (ht:t<m.zJ.length):VB m mb B (.tok t) [t] [⟨.tok t,-1,1⟩]:=by
 intro w v R hM hB hNx hlen _;have Ib:t<6:=by have:=hm.t6;omega
 have l1:=X1 t Ib;have l2:=WQ t Ib;have l3:=WR t Ib;have hN:KP w B v ((AB t,-1,1)::R):=hNx;have Tc:=hN;clear hNx;obtain⟨ad,cap,rfl,hcap,hc⟩:=hN;obtain⟨g,off,rfl,hg,hc⟩:=hc (by simp);obtain⟨c0,c1,c2⟩:=hc 0 (AB t) (-1) 1 rfl;rw[yy,qj]at c0 c1 c2;obtain⟨n,hn⟩:=qE (R.length);rw[lC,hn]at hcap Tc ⊢;have HN:=hid Tc;have HM:=hid (And.intro hM (And.intro hB hn));have hn1:n<=100000:=by rw[<-hn];omega
 obtain⟨s,hs⟩:=qF (AB t);have hss:(s.toList==s.toList)=true:=by simp
 have hnz:(((n+1:Nat):Int)==0)=false:=by simp;omega
 have hm1:((-1:Int)== -1)=true:=rfl;have h11:(((1:Nat):Int)==1)=true:=rfl;have Iw:g<w.heap.size:=by omega
 have h1n:(1:Int)<=(n:Int)+1:=by omega
 show Calls _ _ #[_,_,.string (AB t)] _ _;rw[<-hs]at c0 l1 l2 l3 ⊢;have HS:=hid hs;clear hM hB Tc hc hs hn hlen
 go_enter Tryz.func41,Tryz.ntmps41
 go_upto_region 4 with fail
 obtain⟨AD,Dp⟩:=qE ((if cap=1 then some ((af g off):Addr)else some (af g (off+3))));refine dy (S:=λw'=>w'.cell? (af g (off+1))=some (ab (-1))/\w'.cell? (af g (off+2))=some (ab (1:Nat))) yM ⟨c1,c2⟩ (λhH=>?_);refine tB 0 hH ?_;refine tL ?_;refine tB 2 hH ?_;refine tL ?_;refine tB 3 hH ?_;refine tL ?_;refine tB 4 hH ?_;refine tL ?_;refine tB 5 hH ?_;refine tL ?_;refine tB 6 hH ?_;refine tL ?_;refine tB 7 hH ?_;refine tL ?_;refine tB 8 hH ?_;refine tL ?_;refine tB 9 hH ?_;refine tL ?_;refine tB 10 hH ?_;refine tL ?_;refine tB 11 hH ?_;refine tL ?_;refine tB 12 hH ?_;refine tL ?_;refine tB 13 hH ?_;refine tL ?_;refine tB 14 hH ?_;refine tL ?_;refine tB 15 hH ?_;refine tL ?_;refine tS 1 λK hK=>?_
 refine tM ?_;go_simp;refine hK.out _ _ ?_ λhH=>?_
 ·exact⟨A6 _ hH.1,A6 _ hH.2⟩
 clear hK K;refine tL ?_;refine tB 16 hH ?_;refine tL ?_;refine tB 17 hH ?_;refine tL ?_;refine tB 18 hH ?_;refine tL ?_;refine bq yM ?_ _;clear hH;go_wp2
 go_ret3
 have h0:=LM w #[.string s] 1 1 9 w.heap.size (zn _) Bg rfl;refine⟨_,_,rfl,?_,?_,(Aj (ah _ w)).drew⟩
 ·rw[HS.out]at h0 ⊢
  exact h0
 ·have h1:=HN.out.tail Dp
  rw[HM.out.2.2]at h1;exact h1.below ((Below.alloc (ah _ w) HM.out.2.1 _).drew)
theorem p8  (hm:m.Good) (mb B n k:Nat) (l:List Nat) (S:List GF) {rhs:List Pt} (hk:FJ m n k=some rhs) (hTr:Az (FJ m) rhs l S)
  (ih:∀p l' S',E9 m.zJ.length m.rules.length p->Az (FJ m) [p] l' S'->S'.length<=S.length->VB m mb B p l' S'):VB m mb B (.zi n) l (⟨.zi n,k,S.length+1⟩::S):=by
 intro w v R hM hB hNx hlen Ct;obtain⟨iS,Gu,Gv,Gw,Gx⟩:=iy Tryz.infoG9;obtain⟨rs,hrs,Co⟩:=KW hk;have Ej:=(E6 hrs).1;have Hi:n<4:=by have:=hm.n4;omega
 have l1:=WP n Hi;have l0:=OW n;have l4:=WE n Hi l0;obtain⟨gR,cR,gn,cn,dl,e1,hC,hCr⟩:=oI hM hrs;obtain⟨gr,cr,Jl,hCp⟩:=hCr k rhs Co;have hp5:=(hm.head rs (E6 hrs).2 k rhs Co).2;have Dc:∀p∈rhs,E9 m.zJ.length m.rules.length p:=hm.part rs (E6 hrs).2 rhs (mG Co);have Cp:=(zM.1 Co).1;obtain⟨b0,hb0⟩:=qE (w.heap.size);obtain⟨nr,Kg⟩:=qE (rs.length);obtain⟨nR,Ic⟩:=qE (m.rules.length);obtain⟨np,hnp⟩:=qE (rhs.length);obtain⟨sz,hsz⟩:=qE (S.length+1);have hN:KP w B v ((BM n,(k:Int),S.length+1)::(S.map Iu++R)):=hNx;clear hNx;rw[hsz]at hN;have Tc:=hN;obtain⟨ad,cap,rfl,hcap,hc⟩:=hN;obtain⟨g,off,rfl,hg,hc⟩:=hc (by simp);obtain⟨c0,c1,c2⟩:=hc 0 (BM n) k sz rfl;rw[yy,qj]at c0 c1 c2;have hlS:S.length+R.length+1<=100000:=by have:=hlen;rw[lC]at this;omega
 obtain⟨nt,hnt⟩:=qE ((S.map Iu++R).length);have ahV:nt=S.length+R.length:=by rw[<-hnt];simp
 rw[lC,hnt]at hcap Tc ⊢;rw[Kg]at hC e1 Cp;rw[Ic]at hC dl Ej;rw[hnp]at hCp Jl hp5;rw[hb0]at hB ⊢;have HW:Hid (∀V,Below b0 w V->V.cell? (af mb 0)=some (ae gR nR cR)/\V.cell? (af gR n)=some (ae gn nr cn)/\V.cell? (af gn k)=some (ae gr np cr)/\(∀p a,rhs[p]?=some a->V.cell? (af gr p)=some (.string (EG a)))/\V.cell? (af g (off+2))=some (ab sz)):=hid λV hb=>by
  have hb2:=hb.mono hB;obtain⟨h1,h2⟩:=hC V hb2;obtain⟨h3,h4⟩:=hCp V hb2;exact⟨h1,h2,h3,h4,(hb2.cell Ef).trans c2⟩
 have HN:=hid Tc;have HM:=hid (And.intro hM (And.intro hB hb0));have HT:=hid hTr;have HP:=hid (And.intro Dc (And.intro hnp (And.intro ih (And.intro Ct hlS))));have HZ:=hid (And.intro hnt (And.intro ahV hsz));obtain⟨s,hs⟩:=qF (BM n);have hss:(s.toList==s.toList)=true:=by simp
 have hnz:(((nt+1:Nat):Int)==0)=false:=by simp;omega
 have hk0:¬((k:Int)<0):=by omega
 have hk1:¬((nr:Int)<=(k:Int)):=by omega
 have hk2:((k:Int)< (nr:Int)):=by omega
 have hni:((n:Int)< (nR:Int)):=by omega
 have akS:nt<=100000:=by omega
 have Ou:=XF n Hi;show Calls _ _ #[_,_,.string (BM n)] _ _;rw[<-hs]at c0 l1 Ou ⊢;have HS:=hid hs;have l0':0<s.size:=by rw[hs];exact OW n
 have l4':((s[0]'l0').toNat:Int)=65+n:=by
  subst hs;exact l4
 obtain⟨m0,m1,m2,_,_⟩:=HW.out w (ah _ _);clear hM Tc hc hs hlen hCp hCr hC hTr Dc hnp ih Ct hlS hnt ahV hsz l0 l4 hk hrs Co Kg Ic
 go_enter Tryz.func41,Tryz.ntmps41
 go_upto_region 3 with fail
 go_cut [33] (λs33 wx=>s33=.bool false/\wx=w)
 case first=>
  rcases Ou with Ou |Ou
  all_goals
   go_wp2
   go_meet
   exact⟨rfl,rfl⟩
 case rest=>
  obtain⟨rfl,rfl⟩:=hcut;obtain⟨w,rfl⟩:=qF (wc);clear Ou l1
  go_upto_region 5 with fail
  go_quiet (fail)
  obtain⟨W1,hW1⟩:=qE (w.drewN nq);have zL:Hid (Below b0 w W1):=hid (by rw[<-hW1];exact ox (ah _ _) nq);have Nn:=hid (HN.out.below (zL.out.mono HM.out.2.1));have d1:W1.cell? (af g (off+1))=some (ab k):=by rw[<-hW1];exact c1
  obtain⟨m0,m1,m2,mp,mz⟩:=HW.out W1 zL.out;rw[hW1];clear hW1 c0 c1 c2;obtain⟨AD,Dp⟩:=qE ((if cap=1 then some ((af g off):Addr)else some (af g (off+3))));have h1n:(1:Int)<=(nt:Int)+1:=by omega
  have Dq:Hid (KP W1 B (.slice AD nt (cap - 1)) (S.map Iu++R)):=hid (by
   have h1:=Nn.out.tail Dp;rw[HZ.out.1]at h1;exact h1)
  clear m0 m1 mp mz Nn;go_wp2;clear d1 Dp m2
  go_loopw [11,12,13] (λo r q wr=>∃(j:Nat) (la lb:List Nat) (Sb:List GF),j<=np/\q=ab j/\Hid (Az (FJ m) (rhs.drop j) lb Sb)/\Hid (l=la++lb)/\Hid (Sb.length<=S.length)/\Hid (BL wr b0 o (la.map AB))/\Hid (KP wr B r (Sb.map Iu++R))/\Hid (Below b0 w wr)) (λ_ _ q _=>np - (intOf q).toNat)
  case atStart=>exact⟨0,[],l,S,dh _,rfl,HT,hid rfl,hid (zn _),hid (jg _ _ _ _),Dq,zL⟩
  case round=>
   clear Dq zL;obtain⟨j,la,lb,Sb,hj,rfl,hTb,hlb,hSb,hown,adI,hbr⟩:=hrel;obtain⟨W,rfl⟩:=qF (wr);obtain⟨m0,m1,m2,mp,mz⟩:=HW.out W hbr.out
   by_cases hlt:j<np
   ·obtain⟨a,ha⟩:∃a,rhs[j]?=some a:=⟨_,gE (by rw[HP.out.2.1];exact hlt)⟩
    have ma:=mp j a ha;have hdr:rhs.drop j=a::rhs.drop (j+1):=by
     obtain⟨h1,h2⟩:=zM.1 ha;rw[gm h1,h2]
    have hTc:=hTb.out;rw[hdr]at hTc;obtain⟨lc,ld,Sc,Sd,e1,e2,t1,t2⟩:=hTc.cons;have En:=hSb.out;rw[e2,lA]at En;have Ct:=HP.out.2.2.2.1;rw[hlb.out,e1,lA,lA]at Ct;have hbW:=hbr.out.size;have hBW:B<=W.heap.size:=by have:=HM.out.2.1;have:=HM.out.2.2;omega
    have hnd:=adI.out;rw[e2,fq,aA]at hnd;have HY:=hid (HP.out.2.2.1 a lc Sc (HP.out.1 a (mG ha)) t1 (by omega) W u12 (Sd.map Iu++R) (HM.out.1.below (hbr.out.mono HM.out.2.1)) hBW hnd (by rw[lA,lM];have:=HP.out.2.2.2.2;omega) (by omega));have HE:=hid (And.intro e1 (And.intro e2 (And.intro t2 (And.intro En Ct))));clear mp ha hdr hTc hnd e1 e2 t1 t2 En Ct adI hTb;obtain⟨n0,hn0⟩:=qE (la.length);obtain⟨n7,hn7⟩:=qE (lc.length);have hu:=hown.out;unfold BL at hu;rw[lM,hn0]at hu;obtain⟨au,cu,rfl,hcu⟩:=BV hu;have hbd:n0+n7<=100000:=by have:=HE.out.2.2.2.2;omega
    have HN7:Hid (la.length=n0/\lc.length=n7):=hid ⟨hn0,hn7⟩;clear hu hn0 hcu
    go_upto_region 17 with(go_at_call 41;refine HY.out.mono ?_;rintro e w7 ⟨rv7,ak3,rfl,Yh,h72,h73⟩;have H7:=hid (And.intro Yh (And.intro h72 h73));unfold BL at Yh;rw[lM,hn7]at Yh;obtain⟨a7,c7,rfl,g71,g72,g73⟩:=oU Yh;have HP7:=hid (And.intro g71 (And.intro g72 g73));clear Yh h72 h73 g71 g72 g73)
    have hu7:=hown.out.below H7.out.2.2;unfold BL at hu7;rw[lM,HN7.out.1]at hu7;have HU7:=hid hu7;have h7s:b0<=w7.heap.size:=by have:=H7.out.2.2.size;omega
    clear hu7 hn7
    go_wp2_with (at_builtin;refine FR rfl _ _ 39 rfl b0 9 iS (.string ByteArray.empty) 1 16 Tryz.underlying39 Gu Gv Gw Gx rfl (by decide) _ _ _ rfl HU7.out a7 n7 c7 (EE (lc.map AB)) rfl HP7.out.1 HP7.out.2.1 HP7.out.2.2 ?h1 ?h63 ?hby ?hba ?_)
    case h1=>intro u hu;unfold EE at hu;obtain⟨x,_,rfl⟩:=dm.1 hu;rfl
    case h63=>unfold maxLen;omega
    case hby=>omega
    case hba=>exact h7s
    intro v3 w3 Ad Ae;have HO3:Hid (BL w3 b0 v3 ((la++lc).map AB)):=hid (by
     unfold BL;rw[fq,lA,lM,lM,HN7.out.1,HN7.out.2];unfold EE at Ad ⊢;rw[fq];exact Ad)
    have HNd:Hid (KP w3 B ak3 (Sd.map Iu++R)):=hid (H7.out.2.1.below ((ah B w7).grown Ae (by have:=HM.out.2.1;omega) (λq hq=>by have:=(HU7.out.lt q hq).1;have:=HM.out.2.1;omega)));have HBr:Hid (Below b0 w w3):=hid ((hbr.out.trans (H7.out.2.2.mono (by have:=HM.out.2.2;omega))).grown Ae h7s (λq hq=>(HU7.out.lt q hq).1));clear Ad Ae;go_wp2
    go_roundw
    case rel=>exact⟨j+1,la++lc,ld,Sd,by omega,by go_num,hid HE.out.2.2.1,hid (by rw[hlb.out,HE.out.1,aA]),hid (by have:=HE.out.2.2.2.1;omega),HO3,HNd,HBr⟩
    case measure=>simp[intOf];omega
   ·have hTc:=hTb.out
    rw[qu (by rw[HP.out.2.1];omega)]at hTc;have hend:lb=[]/\Sb=[]:=by cases hTc;exact⟨rfl,rfl⟩
    have hnd:=adI.out;rw[hend.2,um,ey]at hnd;have HND:=hid hnd;obtain⟨Uw,cpr,rfl,Jl,_⟩:=hnd;obtain⟨nQ,hnq⟩:=qE (R.length);have hu:=hown.out;obtain⟨au,cu,rfl,hcu⟩:=BV hu;obtain⟨nu,Pj⟩:=qE ((la.map AB).length);have hq:((sz:Int)==(nt:Int)+1 - (nQ:Int))=true:=by
     have h1:=HZ.out.2.1;have h2:=HZ.out.2.2;rw[kr];omega
    have Kb:nQ<=nt:=by have h1:=HZ.out.2.1;omega
    have HLA:Hid (l=la):=hid (by rw[hlb.out,hend.1,fy]);have HND:=hid (And.intro HND.out hu);rw[hnq,Pj]at HND;rw[hnq,Pj];have Lm:=hid (And.intro hnq Pj);clear hTc hTb hend adI hu hcu Jl hnq Pj mp;go_wp2
    go_quiet (fail)
    go_wp2
    go_ret3
    refine⟨_,_,rfl,?_,?_,ox hbr.out _⟩
    ·rw[HLA.out];exact HND.out.2
    ·exact HND.out.1.below (ox (ah _ _) _)
theorem mH  (hm:m.Good) (mb B:Nat):∀(k:Nat) p l S,S.length<=k->E9 m.zJ.length m.rules.length p->Az (FJ m) [p] l S->VB m mb B p l S:=by
 intro k
 induction k with
 |zero=>
  intro p l S hk hp hT;exfalso;cases hT with
  |tok h=>simp at hk
  |zi _ _ _=>simp at hk
 |succ k ih=>
  intro p l S hk hp hT;cases hT with
  | @tok t _ r T h=>
   cases h;exact mZ hm mb B t hp
  | @zi n q rhs _ a b S1 T hr h1 h2=>
   cases h2;rw[fy,fy];refine p8 hm mb B n q a S1 hr h1 (λp' l' S' hp' hT' hl=>ih p' l' S' ?_ hp' hT');rw[fy,lC]at hk;omega
structure Kz (m:Mk) (T:Am):Prop where
 N:T.N=zR m
 zy:T.zy=N5 m
 zH:T.zH=FJ m
 pg:T.pg=Ls m
theorem Kz.spl  (h:Kz m T) {p:Pt} (hp:E9 m.zJ.length m.rules.length p):J1 T p=EG p:=by
 cases p with
 |tok t=>
  show nth T.zy t=AB t;rw[h.zy,OZ m hp]
 |zi n=>
  have hp:n<m.rules.length:=hp;show(T.pg.getD n _).1=BM n;rw[h.pg,Af,RP m (gE hp)];rfl
theorem nD  (hm:m.Good) {ps:List Pt}{S:List GF} (h:Az (FJ m) ps l S):(∀p∈ps,E9 m.zJ.length m.rules.length p)->∀nd∈S,E9 m.zJ.length m.rules.length nd.part:=by
 induction h with
 |nil=>intro _ nd hnd;cases hnd
 |tok _ ih=>
  intro hp nd hnd
  rcases bk.1 hnd with rfl |h1
  ·exact hp _ (ew ..)
  ·exact ih (λp h=>hp p (gj _ h)) nd h1
 |zi hk _ _ ih1 ih2=>
  intro hp nd hnd
  rcases bk.1 hnd with rfl |h1
  ·exact hp _ (ew ..)
  ·rcases ig.1 h1 with h2 |h2
   ·obtain⟨rs,h3,h4⟩:=KW hk
    exact ih1 (hm.part rs (E6 h3).2 _ (mG h4)) nd h2
   ·exact ih2 (λp h=>hp p (gj _ h)) nd h2
theorem qM  (hm:m.Good):∀p∈ [Pt.zi 0],E9 m.zJ.length m.rules.length p:=λp hp=>by
 rw[mS.1 hp];exact hm.n1
theorem Kz.nds  (h:Kz m T) (hm:m.Good) {S:List GF} (hS:Az (FJ m) [.zi 0] l S):S.map (PU T)=S.map Iu:=by
 apply mj;intro nd hnd;unfold PU Iu;rw[h.spl (nD hm hS (qM hm) nd hnd)]
theorem Kz.word  (h:Kz m T) (t:Nat) (ht:t<=m.zJ.length):D6 T.zy T.N.nT t=Du m t:=by
 unfold D6 Du;have e:T.N.nT=m.zJ.length:=by rw[h.N];rfl
 rw[e]
 by_cases h1:t=m.zJ.length
 ·rw[ay h1,ay h1]
 ·rw[aq h1,aq h1,h.zy,OZ m (by omega)]
theorem Kz.Ff  (h:Kz m T) {b:List Nat} (hb:∀t∈b,t<m.zJ.length):Th T b=EE (b.map AB):=by
 unfold Th EE;rw[qm];apply mj;intro t ht;have:=hb t ht;rw[h.word t (by omega)];unfold Du;rw[aq (by omega)];rfl
theorem dH  (hm:m.Good) {b:List Nat} (h:Bb (zR m) [.zi 0] b):∀t∈b,t<m.zJ.length:=
 λt ht=>mU (J5 hm) h (λt h=>by simp at h) t ht
theorem wE  (h:Kz m T) {row:List Nat}{E:List Ab} (hrow:∀t∈row,t<m.zJ.length) (hE:∀e∈E,jK (zR m) row e) (ho:w.ownsRow B 121 4 v E.length (E.flatMap (Mt T))) (hB:w.heap.size<=B'):PJ w B' v m E:=by
 obtain⟨ad,cap,e,hc⟩:=BV ho;refine⟨ad,cap,e,hc,λh0=>?_⟩;obtain⟨g,cap',e2,_,hg2,_⟩:=B4 ho h0;rw[e]at e2;injection e2 with e3 _ e4
 subst e3;subst e4;subst e;refine⟨g,rfl,by omega,λk ed hk=>?_⟩;have hk':=(zM.1 hk).1;have hf:∀a,(Mt T a).length=4:=λ_=>rfl
 have g0:=QL (Mt T) hf E k ed 0 hk (by omega);have g1:=QL (Mt T) hf E k ed 1 hk (by omega);have g2:=QL (Mt T) hf E k ed 2 hk (by omega);have g3:=QL (Mt T) hf E k ed 3 hk (by omega);have hle:ed.old<=m.zJ.length/\ed.new<=m.zJ.length:=by
  have hN:(zR m).nT=m.zJ.length:=rfl
  rcases hE ed (mG hk)with⟨_,h1,h2,_⟩ | ⟨_,h1,h2,_⟩ | ⟨_,h1,h2,_⟩
  ·rw[hN]at h1 h2;omega
  ·have:=hrow _ (mG h1);rw[hN]at h2;omega
  ·have:=hrow _ (mG h1);rw[hN]at h2;omega
 refine⟨(ho.cellAt (k*4) (by omega)).trans g0,(ho.cellAt (k*4+1) (by omega)).trans g1,?_,?_⟩
 ·rw[<-h.word _ hle.1];exact(ho.cellAt (k*4+2) (by omega)).trans g2
 ·rw[<-h.word _ hle.2];exact(ho.cellAt (k*4+3) (by omega)).trans g3
theorem tZ {E:List Ab} (ho:DQ w B v (E.map (·.cost))) (hB:w.heap.size<=B'):PW w B' v E:=by
 have ho2:=ho;unfold DQ at ho;rw[lM]at ho;obtain⟨ad,cap,e,hc⟩:=BV ho;refine⟨ad,cap,e,hc,λh0=>?_⟩;obtain⟨g,cap',e2,_,hg2,_⟩:=B4 ho h0;rw[e]at e2;injection e2 with e3 _ e4
 subst e3;subst e4;subst e;refine⟨g,rfl,by omega,λk ed hk=>ho2.at (by rw[gM,hk];rfl)⟩
theorem i6 {l:List ByteArray} (h:BL w B v l) (hB:w.heap.size<=B'):Ky w B' v l:=by
 obtain⟨ad,cap,e,hc⟩:=BV h;refine⟨ad,cap,e,hc,λh0=>?_⟩;obtain⟨g,cap',e2,_,hg2,_⟩:=B4 h h0;rw[e]at e2;injection e2 with e3 _ e4
 subst e3;subst e4;subst e;refine⟨g,0,rfl,by omega,λi x hx=>?_⟩;have hi:=(zM.1 hx).1;rw[ju];refine(qq h i (by omega)).trans ?_;unfold EE;rw[gM,hx];rfl
theorem Kz.row  (h:Kz m T)  (hl:∀t∈l,t<m.zJ.length):l.map (nth T.zy)=l.map AB:=by
 apply mj;intro t ht;rw[h.zy,OZ m (hl t ht)]
theorem Kz.nT  (h:Kz m T):T.N.nT=m.zJ.length:=by rw[h.N];rfl
structure wI (m:Mk) (w:World) (B:Nat) (row:List Nat) (E:List Ab) (b:List Nat) (c:Nat) (S:List GF) (ve vc vr vt:Value):Prop where
 run:Aa (zR m) row 0 E row.length b c
 tree:Az (FJ m) [.zi 0] b S
 least:∀b' c',Bb (zR m) [.zi 0] b'->Al (zR m) row b' c'->c<=c'
 ed:PJ w w.heap.size ve m E
 co:PW w w.heap.size vc E
 wd:BL w B vr (b.map AB)
 nd:w.ownsRow B 129 3 vt S.length (BT (S.map Iu))
 c9:c<=9000
theorem nJ  (hm:m.Good) {gp:Nat}{rv:Value} (h:Q1 T w gp) (hp:Kz m T) (hT:TabAt 1 Lib.deBruijn32tab w) (hl:∀t∈l,t<m.zJ.length) (hrow:Ky w w.heap.size rv (l.map AB)) (hn:l.length<=1000):
  Calls Tryz.prog 22 #[ac gp,rv] w λe w'=>Below w.heap.size w w'/\((40<l.length/\e=.returned (.tuple #[.agg #[.slice none 0 0,.slice none 0 0,ab 0,.slice none 0 0,.slice none 0 0,.slice none 0 0],ab 10]))\/(l.length<=40/\
   ∃E b c S ve vc vr vt vx xs X,e=.returned (.tuple #[.agg #[ve,vc,ab (c:Nat),vr,vt,vx],ab 0])/\wI m w' w.heap.size l E b c S ve vc vr vt/\Q0 T w' w.heap.size l E b c S ve vc vr vt vx xs X)):=by
 have Dh:1<w.heap.size:=bu _ _ (hT 0 (by decide));refine(mF h (λV hb=>TabAt.below hT hb Dh) (by rw[hp.nT];exact hl) (by rw[hp.row hl];exact hrow) hn (by rw[hp.N];exact uD hm) (λOx=>by rw[hp.N];exact ZC hm l hl Ox)).mono ?_;rintro e w' ⟨hb,⟨h1,h2⟩ | ⟨h1,E,b,c,S,ve,vc,vr,vt,vx,xs,X,h2,hV⟩⟩
 ·exact⟨hb,.inl ⟨h1,h2⟩⟩
 ·have hrun:=hV.run
  have Lt:=hV.tree;have afs:=hV.least;rw[hp.N]at hrun afs;rw[hp.zH]at Lt;have hnd:=hV.nd;rw[hp.nds hm Lt]at hnd;have hbt:=dH hm (Lt.der (MX m));have hwd:=hV.wd;rw[hp.Ff hbt]at hwd;refine⟨hb,.inr ⟨h1,E,b,c,S,ve,vc,vr,vt,vx,xs,X,h2,⟨hrun,Lt,afs,wE hp hl hrun.fit hV.ed (zn _),tZ hV.co (zn _),?_,hnd,?_⟩,hV⟩⟩
  ·unfold BL;rw[lM];exact hwd
  ·obtain⟨b',c',h3,h4,h5⟩:=ZC hm l hl h1
   exact zV (afs b' c' h3 h4) h5
theorem BL.shape {l:List ByteArray} (h:BL w B v l):∃a c,v=.slice a l.length c/\l.length<=c/\(0<l.length->∃g,a=some (af g 0)/\∀j s,l[j]?=some s->w.cell? (af g j)=some (.string s)):=by
 have hl:(EE l).length=l.length:=by unfold EE;simp
 rcases h.2 with⟨h1,h2⟩ | ⟨g,cap,cur,h1,_,hg,hnc,_,hs,ht⟩
 ·rw[h2];exact⟨none,0,h1,zn _,λh=>by omega⟩
 ·refine⟨_,cap,h1,hnc,λ_=>⟨g,rfl,λj s hj=>?_⟩⟩
  have hjl:=(zM.1 hj).1;have h3:w.ownsRow B 9 1 (ae g l.length cap) l.length (EE l):=by have h4:=h;rw[h1]at h4;exact h4
  rw[h3.cellAt j (by omega)];unfold EE;rw[gM,hj];rfl
theorem QS (w:World) (v1 v2:Value) (l:List ByteArray) (B1 B2:Nat) (h1:BL w B1 v1 l) (h2:BL w B2 v2 l) (hn:l.length<=100000):
  Calls Tryz.prog 32 #[v1,v2] w λe w'=>e=.returned (.bool true)/\∃q,w'=w.drewN q:=by
 obtain⟨a1,c1,rfl,hc1,Bw⟩:=h1.shape;obtain⟨a2,c2,rfl,hc2,hg2⟩:=h2.shape;obtain⟨n,hN⟩:=qF (l.length);rw[<-hN]at hn hc1 hc2 Bw hg2 ⊢;have HN:Hid (n=l.length):=hid hN;have Xr:=hid Bw;have Ys:=hid hg2;clear Bw hg2 hN h1 h2;have hd:((n:Int)==(n:Int))=true:=by simp
 go_enter Tryz.func32,Tryz.ntmps32
 go_wp2
 go_loopw [5] (λi wr=>∃j q:Nat,j<=n/\i=ab j/\wr=w.drewN q) (λi _=>n - (intOf i).toNat)
 case atStart=>exact⟨0,0,dh _,rfl,rfl⟩
 case round=>
  obtain⟨j,q,hj,rfl,rfl⟩:=hrel
  by_cases hlt:j<n
  ·obtain⟨s,hs⟩:∃s,l[j]?=some s:=⟨_,gE abg⟩
   obtain⟨g1,rfl,k1⟩:=Xr.out (by omega);obtain⟨g2,rfl,k2⟩:=Ys.out (by omega);have p1:=k1 j s hs;have p2:=k2 j s hs;clear k1 k2 hs;go_wp2
   go_quiet (fail)
   go_wp2
   go_roundw
   case rel=>exact⟨j+1,_,by omega,by go_num,by first |rfl |exact wh ..⟩
   case measure=>simp[intOf];omega
  ·go_wp2
   go_ret;exact⟨rfl,_,rfl⟩
theorem QX {w':World}{e sz:Nat}{xs:List Value} (h:w.ownsRow B e sz v n xs) (hb:Below w.heap.size w w'):w'.ownsRow B e sz v n xs:=AC h (A5.zQ hb []) (by simp)
theorem vU  (hm:m.Good) (w:World) (mb:Nat) (v:Value) (hM:Gf w w.heap.size mb m) (hv:IQ w v):
  Calls Tryz.prog 39 #[ac mb,v] w λe w'=>∃(l:List Nat) (rv:Value),e=.returned rv/\(∀t∈l,t<m.zJ.length)/\l.length<=7/\BL w' w.heap.size rv (l.map AB)/\Below w.heap.size w w':=by
 obtain⟨iS,Gu,Gv,Gw,Gx⟩:=iy Tryz.infoG9;obtain⟨gR,cR,gP,cP,gD,cD,gS,cS,hC⟩:=WN hM;obtain⟨nT,Ac⟩:=qE (m.zJ.length);have Wq:=hm.t6;have Um:=hm.t2;have Om:Hid (∀W,Below w.heap.size w W->W.cell? (af mb 1)=some (ae gP nT cP)):=hid λW hb=>by rw[<-Ac];exact(hC W hb).c1
 rw[Ac]at Wq Um;have Vi:Hid (∀W,Below w.heap.size w W->IQ W v):=hid λW hb=>hv.below hb
 obtain⟨ad,n,cap,rfl,hnc,hn,hcell⟩:=hv;have Nl:Hid (∀j,j<n->∃g off z,ad=some (af g off)/\Tv z/\∀W,Below w.heap.size w W->W.cell? (af g (off+j))=some (ab z)):=hid λj hj=>by
  obtain⟨g,off,h1,h2,h3⟩:=hcell (by omega);obtain⟨z,h4,h5⟩:=h3 j hj;exact⟨g,off,z,h1,h5,λW hb=>(hb.cell Vs).trans h4⟩
 rw[Ac];clear hM hC hcell Ac Vi
 go_enter Tryz.func39,Tryz.ntmps39
 go_wp2
 go_loopw [5,6] (λu i wr=>∃(j:Nat) (l:List Nat),j<=n/\j<=7/\i=ab j/\l.length=j/\Hid (∀t∈l,t<nT)/\Hid (BL wr w.heap.size u (l.map AB))/\Hid (Below w.heap.size w wr)) (λ_ i _=>7 - (intOf i).toNat)
 case atStart=>exact⟨0,[],dh _,dh _,rfl,rfl,hid (λt h=>by cases h),hid (jg _ _ _ _),hid (ah _ _)⟩
 case round=>
  obtain⟨j,l,hj,hj7,rfl,Pf,hlt,hrow,hbr⟩:=hrel;obtain⟨W,rfl⟩:=qF (wr)
  by_cases hjn:j<n
  ·by_cases h7:j<7
   ·obtain⟨g,off,z,rfl,hz,hzc⟩:=Nl.out j hjn
    have c1:=Om.out W hbr.out;have cz:=hzc W hbr.out;have hr:=hrow.out;unfold BL at hr;rw[lM,Pf]at hr;obtain⟨Uw,Ia,rfl,Jl⟩:=BV hr;have HR:=hid hr;have Nv:=hbr.out.size;have ahW:(j:Int)< (n:Int):=by omega
    have ak4:(j:Int)<7:=by omega
    have ogM:some mb≠(Value.slice Uw j Ia).ownBlock:=λe=>by
     have h1:=(hr.lt mb e.symm).1;have h2:=bu _ _ (Om.out w (ah _ _));simp only at h2;omega
    have ogZ:some g≠(Value.slice Uw j Ia).ownBlock:=λe=>by
     have h1:=(hr.lt g e.symm).1;have h2:=bu _ _ (hzc w (ah _ _));simp only at h2;omega
    have Bu:=bu _ _ (hzc w (ah _ _));have hml:=bu _ _ (Om.out w (ah _ _));simp only at Bu hml;clear hr hzc
    go_upto_region 5 with fail
    refine dy (S:=λw'=>w'.cell? (af mb 1)=some (ae gP nT cP)/\w'.cell? (af g (off+j))=some (ab z)) yM ⟨c1,cz⟩ (λhH=>?_);refine tB 0 hH ?_;refine tB 1 hH ?_;refine tB 2 hH ?_;refine tB 3 hH ?_;refine tB 4 hH ?_;refine tB 5 hH ?_;refine tB 6 hH ?_;refine tB 7 hH ?_;refine tB 8 hH ?_;refine tB 9 hH ?_;refine tL ?_;refine tS 10 λK hK=>?_
    refine tM ?_
    go_simp;refine(GZ z nT (by omega) hz _).mono ?_;rintro e w' ⟨⟨k,hk,rfl⟩,rfl⟩;try dsimp only
    refine hK.out _ _ ?_ λhH=>?_
    ·exact hH
    clear hK K;refine tL ?_;refine tS 11 λK hK=>?_
    refine tM ?_
    go_simp;refine(ID k (by omega) _).mono ?_;rintro e w' ⟨rfl,rfl⟩;try dsimp only
    refine hK.out _ _ ?_ λhH=>?_
    ·exact hH
    clear hK K;refine tL ?_;refine tS 12 λK hK=>?_
    refine tM ?_;go_simp;refine hK.out _ _ ?_ λhH=>?_
    ·exact⟨A6 _ hH.1,A6 _ hH.2⟩
    clear hK K;refine tL ?_;refine tS 13 λK hK=>?_
    refine tM ?_;refine mq _ (.tmp 17) (.tmp 29) 39 rfl w.heap.size 9 iS (.string ByteArray.empty) 1 16 Tryz.underlying39 Gu Gv Gw Gx rfl (by decide) (.slice Uw j Ia) _ _ rfl ((HR.out.alloc (.cells #[.string (AB k)] 9)):((W.alloc (.cells #[.string (AB k)] 9)).drew).ownsRow _ _ _ _ _ _) (af W.heap.size 0) 1 1 [.string (AB k)] rfl rfl (dn (fr:=(0,0)) (dz W _)) Gl (by omega) Bg (by omega) zG _ rfl ?_;intro g2 cap2 w2 hown hgrow hat Cu;refine hK.out _ _ ?_ λhH=>?_
    ·exact⟨(hgrow.cell_far _ zG (by exact ogM)).trans hH.1,(hgrow.cell_far _ zG (by exact ogZ)).trans hH.2⟩
    clear hK K;refine tL ?_;refine tB 14 hH ?_;refine tL ?_;refine bq yM ?_ _;clear hH;go_wp2
    go_roundw
    case rel=>exact⟨j+1,l++ [k],by omega,by omega,by go_num,by simp[Pf],hid (λt ht=>by
     rcases ig.1 ht with h |h
     ·exact hlt.out t h
     ·rw[mS.1 h];exact hk),hid (by
     unfold BL;rw[fq,lA,lM,Pf,jx,um,YI];exact hown),hid ((hbr.out.trans (((ah W.heap.size W).alloc (zn _) (.cells #[.string (AB k)] 9)).drew.mono Nv)).grown hgrow (by have:=hbr.out.size;simp;omega) (λq hq=>(HR.out.lt q hq).1))⟩
    case measure=>simp[intOf];omega
   ·have ak4:¬(j:Int)<7:=by omega
    have ahW:(j:Int)< (n:Int):=by omega
    go_wp2;go_ret;exact⟨l,_,rfl,hlt.out,by omega,hrow.out,hbr.out⟩
  ·have ahW:¬(j:Int)< (n:Int):=by omega
   go_wp2;go_ret;exact⟨l,_,rfl,hlt.out,by omega,hrow.out,hbr.out⟩
end Go.Proofs.YtjjggdcnpndgjaaGreatDoor
