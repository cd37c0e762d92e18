import Derived.Test.YtjjggdcnpndgjaaGreatDoorHJ5
set_option linter.unusedSimpArgs false
set_option maxHeartbeats 1000000
set_option maxRecDepth 100000
namespace Go.Proofs.YtjjggdcnpndgjaaGreatDoor
abbrev cj:=@List.mem_map
abbrev iw:=@List.length_nil
abbrev jr:=@List.mem_iff_getElem
abbrev mj:=@List.take_length
abbrev mo:=@List.mem_filter
abbrev oc:=@List.getElem_mem
abbrev uh:=@List.mem_of_mem_drop
abbrev um:=@List.any_eq_false
abbrev ur:=@List.map_nil
open Go.RowKit
variable {G:Gr}{l ws:List ByteArray}{n r t:Nat}{u:ByteArray}
section
open Go.RowKit Go.WideMaps Go.Maps
def AH (ls:List Ln):List ByteArray:=(ls.map λx=>BC x.2.1 x.2.2).filter λs=> !s.toList.isEmpty
def EW (ws:List ByteArray) (x:Ln):Bool:=(x.2.1==1&&((nth x.2.2 1).toList==(nth x.2.2 2).toList))||(GP x.2.1 x.2.2).any λu=>cnt ws u==0
def F3 (ws:List ByteArray):List Ln->Option Nat
 | []=>none
 |x::r=>if EW ws x then some x.1 else F3 ws r
theorem uU {ls:List Ln}{k:Nat}{x:Ln} (hx:ls[k]?=some x) (ws:List ByteArray):F3 ws (ls.drop k)=if EW ws x then some x.1 else F3 ws (ls.drop (k+1)):=by
 obtain⟨hk,e⟩:=yS.1 hx;rw[gm hk,e];rfl
theorem dZ {ls:List Ln}{k:Nat}{x:Ln} (hx:ls[k]?=some x):AH (ls.take (k+1))=AH (ls.take k)++if(BC x.2.1 x.2.2).toList.isEmpty then []else [BC x.2.1 x.2.2]:=by
 obtain⟨hk,e⟩:=yS.1 hx;unfold AH;rw[gz hk,e,ew,oz];cases h:(BC x.2.1 x.2.2).toList.isEmpty <;> simp[h]
theorem iM (ls:List Ln) (k:Nat):(AH (ls.take k)).length<=k:=by
 unfold AH;refine y5 (qj _ _) ?_;simp;omega
theorem rM (a sh:Nat) (p:Value) (l:List ByteArray) (w:World) (hW:EM w p l) (hsh:sh<=2) (hl:3<=l.length) (Dz:l.length<=4001):
  Calls Tryz.prog 211 #[.agg #[ab a,ab sh,p]] w λe w'=>∃v,e=.returned v/\S6 w' v (GP sh l)/\Below w.heap.size w w':=by
 have h':sh=0\/sh=1\/sh=2:=by omega
 rcases h' with rfl |rfl |rfl
 ·exact rY a p l w hW
 ·exact nI a p l w hW hl Dz
 ·exact nO a p l w hW hl Dz
theorem IJ (w:World) (n:Nat):Below w.heap.size w (w.drewN n):=⟨rfl,rfl,rfl,yF _,λ_ _=>rfl⟩
theorem rD (sh:Nat) (l:List ByteArray) (h3:3<=l.length) (Dz:l.length<=4001):(GP sh l).length<=4001:=by
 unfold GP;split
 ·simp
 ·split
  ·have h1:=L8 l (A8 l).length
   rw[mj]at h1;omega
  ·simp
structure LJ (ls:List Ln):Prop where
 len:ls.length<=4000
 ok:∀x∈ls,UN x
 sh:∀x∈ls,x.2.1<=2
 gsz:∀x∈ls,(BC x.2.1 x.2.2).size<=4000
 usz:∀x∈ls,∀u∈GP x.2.1 x.2.2,u.size<=4000
theorem Mz7 {P:Prop} (h:P:=by
  clear abX;go_wp2
  go_quiet (fail)
  rcases xL un with hu0 |hup
  ·have ae7:us=[]:=qy (HUN.out.trans hu0)
   have HE:Hid (F3 (AH ls) ls=F3 (AH ls) (ls.drop (q+1))):=hid (by rw[HT.out,au];rw[HLU.out,ae7];simp);subst hu0;clear ae7
   go_wp2_with (first | (go_at_call 211;refine(CU.out _ (Az.out.trans ((IJ _ _).mono Az.out.size))).mono ?_;rintro e w2 ⟨⟨adu,ahF,rfl,_⟩,hb2⟩))
   have yV:Hid (Below W1.heap.size W1 w2):=hid (Cr.out.trans ((Az.out.trans (((IJ _ _).trans hb2).mono Az.out.size)).mono Cr.out.size));clear hb2
   go_loopw [53] (λi wj=>i=ab 0/\Hid (Below W1.heap.size W1 wj)) (λi _=>0)
   case atStart=>exact⟨rfl,yV⟩
   case round=>
    obtain⟨rfl,Kf⟩:=hrel;go_wp2
    go_roundw
    case rel=>exact⟨q+1,by omega,by go_num,HE,Kf⟩
    case measure=>simp[intOf];omega
  ·go_wp2_with (first | (go_at_call 211;refine(CU.out _ (Az.out.trans ((IJ _ _).mono Az.out.size))).mono ?_;rintro e w2 ⟨⟨adu,ahF,rfl,hst⟩,hb2⟩))
   obtain⟨gu,ou,rfl,aaK,hcu⟩:=hst hup;have hbA:Below wr.heap.size wr w2:=Az.out.trans (((IJ _ _).trans hb2).mono Az.out.size);have yV:Hid (Below W1.heap.size W1 w2):=hid (Cr.out.trans (hbA.mono Cr.out.size));have q2:w2.cell? (af wr.heap.size 0)=some (ab at_):=(hb2.cell (by simp)).trans (by
    show(wr.alloc _).cell? _=_;rw[A0 (dw wr _)];rfl)
   obtain⟨bl,hbl⟩:=qE (wr.heap.size);rw[hbl]at q2;have HQ2:=hid q2;have ae8:bl<w2.heap.size:=LN q2;have ahG:=hid aaK;rw[hbl];clear aaK hbA hb2 hst q2
   go_loopw [53] (λi wj=>∃j:Nat,j<=un/\i=ab j/\Hid (∀t,t<j->(cnt (AH ls) (nth us t)==0)=false)/\Hid (Below w2.heap.size w2 wj)) (λi _=>un - (intOf i).toNat)
   case atStart=>exact⟨0,by omega,rfl,hid (λt h=>by omega),ah _ _⟩
   case round=>
    obtain⟨j,hj,rfl,hno,Kf⟩:=hrel;have HBj:Hid (Below W1.heap.size W1 wr):=hid (yV.out.trans (Kf.out.mono yV.out.size))
    by_cases Vw:j<un
    ·have cu:wr.cell? (af gu (ou+j))=some (.string (nth us j)):=(ahG.out.later Kf.out).2 j (by rw[HUN.out];exact Vw)
     have hmem:nth us j∈us:=by
      unfold nth;rw[zh,gE (by rw[HUN.out];exact Vw)];exact oc _
     have ahH:=HUZ.out _ hmem;obtain⟨u,hu⟩:=qE (nth us j);rw[hu]at cu ahH;have HU:Hid (nth us j=u):=hid hu;have ahI:Hid (nth us j∈us):=hid hmem;obtain⟨D,hown,_,Pe⟩:=HMW.out.below HBj.out;have hkey:keyOf Tryz.prog 9 (.string u)=some (.string u.data.toList):=keyOf_string_mk Tryz.underlying9 zX;obtain⟨c,hrun,hat,_⟩:=hown.lookup_int Tryz.lawStr Tryz.underlying341 Tryz.underlying3 (Tryz.zeroInt _) hkey;obtain⟨cc,hcc⟩:=qE (cnt (AH ls) u);obtain rfl:c=(cc:Int):=LD (hat.symm.trans (by rw[Pe u,hcc]));have Jd:Hid (cnt (AH ls) u=cc):=hid hcc;clear hu hmem Pe hkey hat hcc hown;have q3:wr.cell? (af bl 0)=some (ab at_):=(Kf.out.cell (by exact ae8)).trans HQ2.out;cases hz:((cc:Int)==0)
     ·have Vx:=hid (EY hno.out (show(cnt (AH ls) (nth us j)==0)=false by rw[HU.out,Jd.out];simp at hz ⊢;omega))
      go_wp2
      go_roundw
      case rel=>exact⟨j+1,by omega,by go_num,Vx,Kf⟩
      case measure=>simp[intOf];omega
     ·have HE:Hid (F3 (AH ls) ls=some at_):=hid (by
       rw[HT.out,aq];rw[HLU.out,ot];exact⟨_,ahI.out,by rw[HU.out,Jd.out];simp at hz ⊢;omega⟩)
      go_wp2
      go_ret2
      exact⟨by rw[HE.out];rfl,hbr.out.trans (HBj.out.mono hsz)⟩
    ·have HE:Hid (F3 (AH ls) ls=F3 (AH ls) (ls.drop (q+1))):=hid (by
      rw[HT.out,au];rw[HLU.out,Bool.not_eq_true,um];intro y hy;obtain⟨t,ht,rfl⟩:=jr.1 hy;have h1:=hno.out t (by have:=HUN.out;omega);unfold nth at h1;rw[zh,gE ht]at h1;simpa using h1)
     go_wp2
     go_roundw
     case rel=>exact⟨q+1,by omega,by go_num,HE,HBj⟩
     case measure=>simp[intOf];omega):P:=h
theorem QY (v:Value) (ls:List Ln) (pv:List Value) (B:Nat) (w:World) (hV:Ac w B v ls pv) (hok:LJ ls):
  Calls Tryz.prog 170 #[v] w λe w'=>e=.returned (bA (F3 (AH ls) ls))/\Below w.heap.size w w':=by
 have Pc:= @run_makeMap Tryz.prog
 rcases hV.form with⟨rfl,rfl⟩ | ⟨g,cap,rfl,hnc,hg⟩
 ·clear hV
  have HB:Hid (Below w.heap.size w (w.alloc (.map #[] 0))):=hid ((ah _ _).alloc (yF _) _)
  go_enter Tryz.func170,Tryz.ntmps170
  go_wp2
  go_loopw [15] (λi wr=>i=ab 0/\Hid (Below w.heap.size w wr)) (λi _=>0)
  case atStart=>exact⟨rfl,HB⟩
  case round=>
   obtain⟨rfl,hbr⟩:=hrel;go_wp2
   go_loopw [30] (λi wr=>i=ab 0/\Hid (Below w.heap.size w wr)) (λi _=>0)
   case atStart=>exact⟨rfl,hbr⟩
   case round=>
    obtain⟨rfl,ahJ⟩:=hrel;go_wp2
    go_ret2
    exact⟨rfl,ahJ.out⟩
 ·obtain⟨n,hN⟩:=qF (ls.length)
  have hn:n<=4000:=by have:=hok.len;omega
  rw[<-hN]at hnc hV ⊢;have HN:Hid (n=ls.length):=hid hN;have HV:=hid hV;have zZ:=hid hok;have HB:Hid (Below w.heap.size w (w.alloc (.map #[] 0))):=hid ((ah _ _).alloc (yF _) _);have HM:Hid (KA (w.alloc (.map #[] 0)) w.heap.size 0 []):=hid ⟨_,xM _ _ _ _,isMap_empty,λs=>rfl⟩;clear hN hV hok
  go_enter Tryz.func170,Tryz.ntmps170
  go_wp2;clear Pc
  go_loopw [15] (λi wr=>∃k:Nat,k<=n/\i=ab k/\Hid (KA wr w.heap.size k (AH (ls.take k)))/\Hid (Below w.heap.size w wr)) (λi _=>n - (intOf i).toNat)
  case atStart=>exact⟨0,by omega,rfl,HM,HB⟩
  case round=>
   clear HM HB;obtain⟨k,hk,rfl,hm,hbr⟩:=hrel;have hsz:=hbr.out.size
   by_cases hlt:k<n
   ·obtain⟨x,hx⟩:∃x,ls[k]?=some x:=⟨_,gE Iz⟩
    have Cq:=zZ.out.ok x (mG hx);have hxs:=zZ.out.gsz x (mG hx);have hT:=dZ hx;obtain⟨p,hp,Cl,k0,k1,k2⟩:=(HV.out.below hbr.out).at hx;obtain⟨at_,sh,l⟩:=x;simp only at k0 k1 k2 hT Cl hxs;have hgr:g<wr.heap.size:=lL hg hsz;have Ho:=hid Cl;obtain⟨gw,m,mc,ad,cs,rfl,_⟩:=Cl;have yR:Hid (Below w.heap.size w (wr.alloc (.cells #[ab at_,ab sh,.slice ad m mc] 325))):=hid (hbr.out.alloc hsz _);have Az:Hid (Below wr.heap.size wr (wr.alloc (.cells #[ab at_,ab sh,.slice ad m mc] 325))):=hid ((ah _ _).alloc (yF _) _);obtain⟨wd,hwd⟩:=qE (BC sh l);have cG:=RO at_ sh (.slice ad m mc) l _ (Ho.out.below Az.out) acU Cq.2;rw[hwd]at cG hT hxs;have CG:=hid cG;have HT:=hid hT;obtain⟨ws,Je⟩:=qE (AH (ls.take k));have Au:ws.length<=k:=by rw[<-Je];exact iM ls k
    rw[Je]at hm HT;obtain⟨D,hown,hD,Pe⟩:=hm.out;have hkey:keyOf Tryz.prog 9 (.string wd)=some (.string wd.data.toList):=keyOf_string_mk Tryz.underlying9 zX;obtain⟨cc,hcc⟩:=qE (cnt ws wd);have ae6:cc<=4000:=by have h1:=mT ws wd;omega
    have HC3:Hid (D.atKey (.string wd.data.toList) (.lit (.int .i64 0))=.lit (.int .i64 cc)):=hid (by rw[Pe wd,hcc]);have HD3:Hid (IsMap (D.put (.string wd.data.toList) (.lit (.int .i64 ((cc:Int)+1))))):=hid (hD.put _ _);have Ge:Hid (∀s:ByteArray,(D.put (.string wd.data.toList) (.lit (.int .i64 ((cc:Int)+1)))).atKey (.string s.data.toList) (.lit (.int .i64 0))=.lit (.int .i64 (cnt (ws++ [wd]) s))):=hid (by have:=UP hD Pe wd;rwa [hcc]at this);have HM:Hid (KA wr w.heap.size k ws):=hm;have Tg:=hid hown;have Ll:=hid hkey;have hk4:k<4000:=by omega
    clear hp hx Cq hT cG hwd Pe hD hown hm hkey hcc Je Au;cases he:wd.toList.isEmpty
    ·have HE:Hid (AH (ls.take (k+1))=ws++ [wd]):=hid (by rw[HT.out,au (by rw[he];decide)])
     clear HT HM
     go_wp2_with (first
      | (go_at_call 210;refine CG.out.mono ?_;rintro e w2 ⟨rfl,hb2⟩;have Gf:=JB (JB Tg.out Az.out) hb2;obtain⟨c,hrun,hat,_⟩:=Gf.lookup_int Tryz.lawStr Tryz.underlying341 Tryz.underlying3 (Tryz.zeroInt _) Ll.out;obtain rfl:c=(cc:Int):=LD (hat.symm.trans HC3.out);clear hat)
      | (at_mapUpdate;refine vk _ rfl _ _ _ 341 rfl 9 3 Tryz.lawStr Tryz.underlying341 _ w.heap.size k _ rfl Gf zX _ _ _ rfl rfl Ll.out _ [] (plainElem_int Tryz.underlying3 (WalkArith.wf_i64 (by omega))) ?_))
     intro w3 zO zM;have Ib:Below w.heap.size w w2:=yR.out.trans (hb2.mono yR.out.size);have zy:Hid (Below w.heap.size w w3):=hid (Ib.grown zM Ib.size (λj hj=>by cases hj;exact yF _));have Lo:Hid (KA w3 w.heap.size (k+1) (AH (ls.take (k+1)))):=hid (by rw[HE.out];exact⟨_,zO,HD3.out,Ge.out⟩);clear zO zM Gf hrun Ib hb2;go_wp2
     go_roundw
     case rel=>exact⟨k+1,by omega,by go_num,Lo,zy⟩
     case measure=>simp[intOf];omega
    ·have HE:Hid (AH (ls.take (k+1))=ws):=hid (by rw[HT.out,aq he,iq])
     go_wp2_with (first | (go_at_call 210;refine CG.out.mono ?_;rintro e w2 ⟨rfl,hb2⟩))
     have Dp:Below wr.heap.size wr w2:=Az.out.trans (hb2.mono Az.out.size);have Lo:Hid (KA w2 w.heap.size (k+1) (AH (ls.take (k+1)))):=hid (by
      rw[HE.out];obtain⟨D',h1,h2⟩:=HM.out.below Dp;exact⟨D',h1.mono (by omega),h2⟩)
     have yV:=hid (yR.out.trans (hb2.mono yR.out.size));clear Dp hb2
     go_roundw
     case rel=>exact⟨k+1,by omega,by go_num,Lo,yV⟩
     case measure=>simp[intOf];omega
   ·have HMW:Hid (KA wr w.heap.size k (AH ls)):=hid (by
     have h:=hm.out
     rwa [jk Iz]at h)
    clear hm;obtain⟨W1,hW1⟩:=qF (wr);subst hW1;go_wp2
    go_loopw [30] (λi wi=>∃q:Nat,q<=n/\i=ab q/\Hid (F3 (AH ls) ls=F3 (AH ls) (ls.drop q))/\Hid (Below W1.heap.size W1 wi)) (λi _=>n - (intOf i).toNat)
    case atStart=>exact⟨0,by omega,rfl,rfl,ah _ _⟩
    case round=>
     obtain⟨q,hq,rfl,ht,Cr⟩:=hrel;have y6:Below w.heap.size w wr:=hbr.out.trans (Cr.out.mono hsz);have aag:=y6.size
     by_cases Li:q<n
     ·obtain⟨x,hx⟩:∃x,ls[q]?=some x:=⟨_,gE Iz⟩
      have Cq:=zZ.out.ok x (mG hx);have ae9:=zZ.out.sh x (mG hx);have ac3:=zZ.out.usz x (mG hx);have hT:=uU hx (AH ls);obtain⟨p,hp,Cl,k0,k1,k2⟩:=(HV.out.below y6).at hx;obtain⟨at_,sh,l⟩:=x;simp only at k0 k1 k2 hT Cl ae9 ac3;have hgr:g<wr.heap.size:=lL hg aag;have Ho:=hid Cl;obtain⟨gw,m,mc,ad,cs,rfl,e1,e2,e3,e4,e5,e6⟩:=Cl;have Lp:3<=l.length:=Cq.1;obtain rfl:ad=some (af gw 1):=e6 (by omega);have c1:wr.cell? (af gw 1)=some (.string (nth l 1)):=by rw[A0 e4];exact e5 1 (by omega)
      have c2:wr.cell? (af gw 2)=some (.string (nth l 2)):=by rw[A0 e4];exact e5 2 (by omega)
      have Hl:gw<wr.heap.size:=ak e4;have hm1:0<m:=by omega
      have hm2:1<m:=by omega
      have hm3:(0:Int)<m:=by omega
      have Oz:(1:Int)<m:=by omega
      have Az:Hid (Below wr.heap.size wr (wr.alloc (.cells #[ab at_,ab sh,.slice (some (af gw 1)) m mc] 325))):=hid ((ah _ _).alloc (yF _) _);obtain⟨us,Ic⟩:=qE (GP sh l);obtain⟨un,hun⟩:=qE (us.length);have akG:un<=4001:=by
       have h1:=rD sh l Cq.1 Cq.2;rw[Ic,hun]at h1;exact h1
      have HUN:Hid (us.length=un):=hid hun;have HUZ:Hid (∀u∈us,u.size<=4000):=hid (by rw[<-Ic];exact ac3);have CU:Hid (∀W,Below wr.heap.size wr W->Calls Tryz.prog 211 #[.agg #[ab at_,ab sh,.slice (some (af gw 1)) m mc]] W λe w'=>
        (∃ad cap,e=.returned (.slice ad un cap)/\(0<un->∃g off,ad=some (af g off)/\DL w' g off us/\un<=cap))/\Below W.heap.size W w'):=hid λW hW=>by
       refine(rM at_ sh _ l W (Ho.out.below hW) ae9 Cq.1 Cq.2).mono ?_;rintro e w' ⟨v,rfl,⟨ad,cap,rfl,h1,h2⟩,hb⟩;rw[Ic,hun]at h1 h2 ⊢;exact⟨⟨ad,cap,rfl,λh=>by obtain⟨g,off,h3,h4⟩:=h2 h;exact⟨g,off,h3,h4,h1⟩⟩,hb⟩
      have HT:=hid (ht.out.trans hT);have abX:Hid (EW (AH ls) (at_,sh,l)=((sh==1&&((nth l 1).toList==(nth l 2).toList))||us.any λu=>cnt (AH ls) u==0)):=hid (by unfold EW;rw[Ic]);clear hp hx Cq hT ht e1 e2 e3 e4 e5 e6 Ic hun ac3 y6 Lp;cases hs1:((sh:Int)==1)
      ·have HLU:Hid (EW (AH ls) (at_,sh,l)=us.any λu=>cnt (AH ls) u==0):=hid (by
        rw[abX.out,show(sh==1)=false by simp at hs1 ⊢;omega];simp)
       exact Mz7
      ·cases he:((nth l 1).toList==(nth l 2).toList)
       ·have HLU:Hid (EW (AH ls) (at_,sh,l)=us.any λu=>cnt (AH ls) u==0):=hid (by
         rw[abX.out,he];simp)
        exact Mz7
       ·have HE:Hid (F3 (AH ls) ls=some at_):=hid (by
         rw[HT.out,aq];rw[abX.out,he,show(sh==1)=true by simp at hs1 ⊢;omega];rfl)
        go_wp2
        go_quiet (fail)
        go_wp2
        go_ret2
        exact⟨by rw[HE.out];rfl,hbr.out.trans ((Cr.out.trans ((Az.out.trans ((IJ _ _).mono Az.out.size)).mono Cr.out.size)).mono hsz)⟩
     ·have HE:Hid (F3 (AH ls) ls=none):=hid aeY
      go_wp2
      go_ret2
      exact⟨by rw[HE.out];rfl,y6⟩
end
def EA (s:ByteArray):Int × Int:=
 if 4000<s.size then(1,0)
 else if(AG s 0).2<s.size then(2,((AG s 0).2:Nat))
 else match CK (AF (AG s 0).1) []with
  |some a=>(3,(a:Int))
  |none=>match BU (AF (AG s 0).1) 0 0 0 with
   |some a=>(4,(a:Int))
   |none=>if(AF (AG s 0).1).any (λx=>x.2.1==2)then(match F3 (AH (AF (AG s 0).1)) (AF (AG s 0).1)with
     |some a=>(5,(a:Int))
     |none=>(0,0))
    else(4,(s.size:Int))
def ZH (s:ByteArray) (w:World) (e:Ending) (w':World):Prop:=
 ∃v,e=.returned (.tuple #[v,ab (EA s).1,ab (EA s).2])/\((EA s).1=0->∃B pv,w.heap.size<=B/\Ac w' B v (AF (AG s 0).1) pv)/\Below w.heap.size w w'
theorem JL {s:ByteArray}{w w':World}{v:Value}{a b:Int} (h:EA s=(a,b)) (ha:a≠0) (hb:Below w.heap.size w w'):ZH s w (.returned (.tuple #[v,ab a,ab b])) w':=
 ⟨v,by rw[h],λh0=>absurd (by rw[h]at h0;exact h0) ha,hb⟩
theorem lG {s:ByteArray}{w w':World}{v:Value}{pv:List Value}{L:List (Nat × Nat × List ByteArray)} (h:EA s=(0,0)) (hL:AF (AG s 0).1=L) (hV:Ac w' w.heap.size v L pv) (hb:Below w.heap.size w w'):ZH s w (.returned (.tuple #[v,ab 0,ab 0])) w':=
 ⟨v,by rw[h],λ_=>⟨_,pv,yF _,by rw[hL];exact hV⟩,hb⟩
theorem dR (s:ByteArray) (w:World) (hG:DT w) (hs:s.size<=9223372036854775807) (hok:s.size<=4000->LJ (AF (AG s 0).1)):
  Calls Tryz.prog 113 #[.string s] w λe w'=>ZH s w e w':=by
 by_cases h1:4000<s.size
 ·have HE:Hid (EA s=(1,0)):=hid (by unfold EA;rw[aq h1])
  have hi1:(4000:Int)<s.size:=by omega
  go_enter Tryz.func113,Tryz.ntmps113
  go_wp2
  go_ret3
  exact JL HE.out (by decide) (ah _ _)
 ·have hi1:¬(4000:Int)<s.size:=by omega
  have Ea:s.size<=4000:=by omega
  have cL:=mZ s w hG Ea;have zZ:=hid (hok Ea);obtain⟨en,hen⟩:=qE ((AG s 0).2);obtain⟨L,hL⟩:=qE (AF (AG s 0).1);have HP:Hid (EA s=(if en<s.size then(2,(en:Int))else match CK L []with
   |some a=>(3,(a:Int))
   |none=>match BU L 0 0 0 with
    |some a=>(4,(a:Int))
    |none=>if L.any (λx=>x.2.1==2)then(match F3 (AH L) L with
      |some a=>(5,(a:Int))
      |none=>(0,0))
     else(4,(s.size:Int)):Int × Int)):=hid (by unfold EA;rw[au h1,hen,hL])
  rw[hen,hL]at cL;rw[hL]at zZ;have CL:=hid cL;have HLk:Hid (AF (AG s 0).1=L):=hid hL;clear cL hen hL hok hG
  by_cases h2:en<s.size
  ·have HE:Hid (EA s=(2,(en:Int))):=hid (by rw[HP.out,aq h2])
   have hi2:(en:Int)<s.size:=by omega
   clear HP
   go_enter Tryz.func113,Tryz.ntmps113
   go_wp2_with (first | (go_at_call 166;refine CL.out.mono ?_;rintro e w1 ⟨v,pv,rfl,hV,hb1⟩))
   go_ret3
   exact JL HE.out (by decide) (hb1)
  ·have hi2:¬(en:Int)<s.size:=by omega
   have Ng:=hid (HP.out.trans (au h2));clear HP;cases ht:CK L []with
   |some a=>
    have HE:Hid (EA s=(3,(a:Int))):=hid (by rw[Ng.out,ht]);clear Ng;have CT:Hid (∀v pv B W,Ac W B v L pv->Calls Tryz.prog 167 #[v] W λe w'=>e=.returned (.tuple #[ab a,.bool true])/\Below W.heap.size W w'):=hid λv pv B W hV=>by
     have:=YM v L pv B W hV zZ.out.len zZ.out.ok zZ.out.gsz;rw[ht]at this;exact this
    clear ht
    go_enter Tryz.func113,Tryz.ntmps113
    go_wp2_with (first
     | (go_at_call 166;refine CL.out.mono ?_;rintro e w1 ⟨v,pv,rfl,hV,hb1⟩)
     | (go_at_call 167;refine(CT.out _ _ _ _ hV).mono ?_;rintro e w2 ⟨rfl,hb2⟩))
    go_ret3
    exact JL HE.out (by decide) (hb1.trans (hb2.mono hb1.size))
   |none=>
    have Gg:=hid (Ng.out);rw[ht]at Gg;clear Ng;have CT:Hid (∀v pv B W,Ac W B v L pv->Calls Tryz.prog 167 #[v] W λe w'=>e=.returned (.tuple #[ab 0,.bool false])/\Below W.heap.size W w'):=hid λv pv B W hV=>by
     have:=YM v L pv B W hV zZ.out.len zZ.out.ok zZ.out.gsz;rw[ht]at this;exact this
    clear ht;cases hm:BU L 0 0 0 with
    |some a=>
     have HE:Hid (EA s=(4,(a:Int))):=hid (by rw[Gg.out,hm]);clear Gg;have CM:Hid (∀v pv B W,Ac W B v L pv->Calls Tryz.prog 168 #[v] W λe w'=>e=.returned (.tuple #[ab a,.bool true])/\Below W.heap.size W w'):=hid λv pv B W hV=>by
      have:=bT v L pv B W hV zZ.out.len zZ.out.ok;rw[hm]at this;exact this
     clear hm
     go_enter Tryz.func113,Tryz.ntmps113
     go_wp2_with (first
      | (go_at_call 166;refine CL.out.mono ?_;rintro e w1 ⟨v,pv,rfl,hV,hb1⟩)
      | (go_at_call 167;refine(CT.out _ _ _ _ hV).mono ?_;rintro e w2 ⟨rfl,hb2⟩;have hV2:=hV.below hb2)
      | (go_at_call 168;refine(CM.out _ _ _ _ hV2).mono ?_;rintro e w3 ⟨rfl,hb3⟩))
     go_ret3
     exact JL HE.out (by decide) ((hb1.trans (hb2.mono hb1.size)).trans (hb3.mono (y5 hb1.size hb2.size)))
    |none=>
     rw[hm]at Gg;have CM:Hid (∀v pv B W,Ac W B v L pv->Calls Tryz.prog 168 #[v] W λe w'=>e=.returned (.tuple #[ab 0,.bool false])/\Below W.heap.size W w'):=hid λv pv B W hV=>by
      have:=bT v L pv B W hV zZ.out.len zZ.out.ok;rw[hm]at this;exact this
     clear hm;cases hn:L.any (λx=>x.2.1==2)with
     |false=>
      have HE:Hid (EA s=(4,(s.size:Int))):=hid (by rw[Gg.out,hn];rfl);clear Gg;have CN:Hid (∀v pv B W,Ac W B v L pv->Calls Tryz.prog 169 #[v] W λe w'=>e=.returned (.bool false)/\Below W.heap.size W w'):=hid λv pv B W hV=>by
       have:=QO v L pv B W hV zZ.out.len;rw[hn]at this;exact this
      clear hn
      go_enter Tryz.func113,Tryz.ntmps113
      go_wp2_with (first
       | (go_at_call 166;refine CL.out.mono ?_;rintro e w1 ⟨v,pv,rfl,hV,hb1⟩)
       | (go_at_call 167;refine(CT.out _ _ _ _ hV).mono ?_;rintro e w2 ⟨rfl,hb2⟩;have hV2:=hV.below hb2)
       | (go_at_call 168;refine(CM.out _ _ _ _ hV2).mono ?_;rintro e w3 ⟨rfl,hb3⟩;have Vy:=hV2.below hb3)
       | (go_at_call 169;refine(CN.out _ _ _ _ Vy).mono ?_;rintro e w4 ⟨rfl,hb4⟩))
      go_ret3
      exact JL HE.out (by decide) (((hb1.trans (hb2.mono hb1.size)).trans (hb3.mono (y5 hb1.size hb2.size))).trans (hb4.mono (y5 (y5 hb1.size hb2.size) hb3.size)))
     |true=>
      have HE:Hid (EA s=(match F3 (AH L) L with
       |some a=>(5,(a:Int))
       |none=>(0,0):Int × Int)):=hid (by rw[Gg.out,hn];rfl)
      clear Gg;have CN:Hid (∀v pv B W,Ac W B v L pv->Calls Tryz.prog 169 #[v] W λe w'=>e=.returned (.bool true)/\Below W.heap.size W w'):=hid λv pv B W hV=>by
       have:=QO v L pv B W hV zZ.out.len;rw[hn]at this;exact this
      clear hn;cases hu:F3 (AH L) L with
      |some a=>
       have zN:Hid (EA s=(5,(a:Int))):=hid (by rw[HE.out,hu]);have CU:Hid (∀v pv B W,Ac W B v L pv->Calls Tryz.prog 170 #[v] W λe w'=>e=.returned (.tuple #[ab a,.bool true])/\Below W.heap.size W w'):=hid λv pv B W hV=>by
        have:=QY v L pv B W hV zZ.out;rw[hu]at this;exact this
       clear hu HE
       go_enter Tryz.func113,Tryz.ntmps113
       go_wp2_with (first
        | (go_at_call 166;refine CL.out.mono ?_;rintro e w1 ⟨v,pv,rfl,hV,hb1⟩)
        | (go_at_call 167;refine(CT.out _ _ _ _ hV).mono ?_;rintro e w2 ⟨rfl,hb2⟩;have hV2:=hV.below hb2)
        | (go_at_call 168;refine(CM.out _ _ _ _ hV2).mono ?_;rintro e w3 ⟨rfl,hb3⟩;have Vy:=hV2.below hb3)
        | (go_at_call 169;refine(CN.out _ _ _ _ Vy).mono ?_;rintro e w4 ⟨rfl,hb4⟩;have hV4:=Vy.below hb4)
        | (go_at_call 170;refine(CU.out _ _ _ _ hV4).mono ?_;rintro e w5 ⟨rfl,yT⟩))
       go_ret3
       exact JL zN.out (by decide) ((((hb1.trans (hb2.mono hb1.size)).trans (hb3.mono (y5 hb1.size hb2.size))).trans (hb4.mono (y5 (y5 hb1.size hb2.size) hb3.size))).trans (yT.mono (y5 (y5 (y5 hb1.size hb2.size) hb3.size) hb4.size)))
      |none=>
       have zN:Hid (EA s=(0,0)):=hid (by rw[HE.out,hu]);have CU:Hid (∀v pv B W,Ac W B v L pv->Calls Tryz.prog 170 #[v] W λe w'=>e=.returned (.tuple #[ab 0,.bool false])/\Below W.heap.size W w'):=hid λv pv B W hV=>by
        have:=QY v L pv B W hV zZ.out;rw[hu]at this;exact this
       clear hu HE
       go_enter Tryz.func113,Tryz.ntmps113
       go_wp2_with (first
        | (go_at_call 166;refine CL.out.mono ?_;rintro e w1 ⟨v,pv,rfl,hV,hb1⟩)
        | (go_at_call 167;refine(CT.out _ _ _ _ hV).mono ?_;rintro e w2 ⟨rfl,hb2⟩;have hV2:=hV.below hb2)
        | (go_at_call 168;refine(CM.out _ _ _ _ hV2).mono ?_;rintro e w3 ⟨rfl,hb3⟩;have Vy:=hV2.below hb3)
        | (go_at_call 169;refine(CN.out _ _ _ _ Vy).mono ?_;rintro e w4 ⟨rfl,hb4⟩;have hV4:=Vy.below hb4)
        | (go_at_call 170;refine(CU.out _ _ _ _ hV4).mono ?_;rintro e w5 ⟨rfl,yT⟩))
       go_ret3
       exact lG zN.out (HLk.out) (hV4.below yT) ((((hb1.trans (hb2.mono hb1.size)).trans (hb3.mono (y5 hb1.size hb2.size))).trans (hb4.mono (y5 (y5 hb1.size hb2.size) hb3.size))).trans (yT.mono (y5 (y5 (y5 hb1.size hb2.size) hb3.size) hb4.size)))
theorem PQ (s:ByteArray):∀(f a:Nat) (x:Nat × List ByteArray),x∈(JE s f a).1->(∃a',x.2=A9 (BR s a').1)/\AR x.2=true
 |0,a,x,h=>by simp[JE]at h
 |f+1,a,x,h=>by
  unfold JE at h;split at h
  ·split at h
   ·simp at h
   ·rename_i hb
    simp only[bh]at h
    rcases h with h |h
    ·subst h
     refine⟨⟨a,rfl⟩,?_⟩;cases hq:AR (A9 (BR s a).1)with
     |true=>rfl
     |false=>exact absurd (.inr hq) hb
    ·exact PQ s f _ x h
  ·simp at h
theorem cH (s:ByteArray):∀(f a:Nat),(JE s f a).1.length<=s.size - a
 |0,a=>by simp[JE]
 |f+1,a=>by
  unfold JE;split
  ·split
   ·simp
   ·rename_i h1 hb
    have h0:¬(BR s a).2=0:=λe=>hb (.inl e)
    have h2:=JY h0;have h3:=cH s f (BR s a).2.toNat;simp only[lC];omega
  ·simp
theorem KP  (h:AR l=true) (h1:¬l.length=1):
  (AW l=0/\l.length=4/\DS (nth l 1)=true)\/(AW l=1/\l.length=4/\DS (nth l 1)=true/\DS (nth l 2)=true)\/(AW l=2/\3<=l.length/\GM (nth l 1)=true/\(l.drop 3).all NP=true):=by
 unfold AR at h;rw[au h1]at h;unfold AW;cases ht:((nth l 0).toList== [116,111,107,101,110])
 ·cases hw:((nth l 0).toList== [115,119,97,112])
  ·cases hr:((nth l 0).toList== [114,117,108,101])
   ·rw[ht,hw,hr]at h;simp at h
   ·rw[ht,hw,hr]at h
    simp only[oy,xx,xz,CY,NI,fu,ia]at h;exact .inr (.inr ⟨rfl,h.1.1,h.1.2.1,h.2⟩)
  ·rw[ht,hw]at h
   simp only[oy,xx,xz,BQ,fu,ia]at h;exact .inr (.inl ⟨rfl,h.1,h.2.1,h.2.2.1⟩)
 ·rw[ht]at h
  simp only[xz,D6,fu,ia]at h;exact .inl ⟨rfl,h.1,h.2.1⟩
theorem jH  (h:u∈l):∃j,u=nth l j:=by
 obtain⟨j,hj,rfl⟩:=jr.1 h;exact⟨j,by unfold nth;simp[gE hj]⟩
theorem ZJ (s:ByteArray) (hs:s.size<=4000):LJ (AF (AG s 0).1):=by
 have key:∀y∈AF (AG s 0).1,(∃a',y.2.2=A9 (BR s a').1)/\AR y.2.2=true/\¬y.2.2.length=1/\y.2.1=AW y.2.2:=by
  intro y hy;unfold AF at hy;rw[cj]at hy;obtain⟨x,hx,rfl⟩:=hy;rw[mo]at hx;have h1:=PQ s _ _ x hx.1;exact⟨h1.1,h1.2,kf hx.2,rfl⟩
 have hsz:∀y∈AF (AG s 0).1,∀j,(nth y.2.2 j).size<=4000:=by
  intro y hy j;obtain⟨a',ha⟩:=(key y hy).1;rw[ha];exact y5 (y5 (SV _ j) (VJ s a')) hs
 have hmem:∀y∈AF (AG s 0).1,∀u∈y.2.2,u.size<=4000:=by
  intro y hy u hu;obtain⟨j,rfl⟩:=jH hu;exact hsz y hy j
 refine⟨?_,λy hy=>?_,λy hy=>?_,λy hy=>?_,λy hy u hu=>?_⟩
 ·unfold AF
  rw[lM];refine y5 (qj _ _) ?_;have:=cH s (s.size - 0) 0;unfold AG;omega
 ·obtain⟨⟨a',ha⟩,h2,h3,h4⟩:=key y hy
  have h5:=VI (BR s a').1;have h6:=VJ s a';rw[<-ha]at h5;refine⟨?_,by omega⟩
  rcases KP h2 h3 with h |h |h
  ·omega
  ·omega
  ·exact h.2.1
 ·obtain⟨_,h2,h3,h4⟩:=key y hy
  rcases KP h2 h3 with h |h |h <;> omega
 ·unfold BC
  split
  ·exact bu _
  ·exact hsz y hy 1
 ·unfold GP at hu
  split at hu
  ·simp at hu
   rcases hu with rfl |rfl
   ·exact hsz y hy 1
   ·exact hsz y hy 2
  ·split at hu
   ·rw[PM,mo]at hu
    exact hmem y hy u (uh hu.1)
   ·simp at hu
theorem PD (rs:List (List ByteArray)) (r:List ByteArray):DW (rs++ [r])=max (DW rs) r.length:=by
 unfold DW;rw[uk];rfl
theorem TX (R:List (ByteArray × List ByteArray)) (nm:ByteArray):∀(l:List ByteArray) (done:List (List ByteArray)) (cur:List ByteArray),
  l.foldl (RR nm) (R++done.map (λr=>(nm,r)),cur,decide (8<DW (done++ [cur])))=
   (R++(l.foldl DG (done,cur)).1.map (λr=>(nm,r)),(l.foldl DG (done,cur)).2,decide (8<DW ((l.foldl DG (done,cur)).1++ [(l.foldl DG (done,cur)).2])))
 | [],done,cur=>rfl
 |x::l,done,cur=>by
  rw[ld,ld]
  by_cases hb:I5 x=true
  ·have e1:RR nm (R++done.map (λr=>(nm,r)),cur,decide (8<DW (done++ [cur]))) x=(R++(done++ [cur]).map (λr=>(nm,r)),[],decide (8<DW (done++ [cur]++ [[]]))):=by
    unfold RR;rw[aq hb,PD (done++ [cur]) []];simp
   have e2:DG (done,cur) x=(done++ [cur],[]):=by unfold DG;rw[aq hb]
   rw[e1,e2];exact TX R nm l (done++ [cur]) []
  ·have e1:RR nm (R++done.map (λr=>(nm,r)),cur,decide (8<DW (done++ [cur]))) x=(R++done.map (λr=>(nm,r)),cur++ [x],decide (8<DW (done++ [cur++ [x]]))):=by
    unfold RR;rw[au hb,PD,PD];simp only[Prod.mk.injEq,true_and];rw[og];simp only[oa,ia,lA,lC,iw];omega
   have e2:DG (done,cur) x=(done,cur++ [x]):=by unfold DG;rw[au hb]
   rw[e1,e2];exact TX R nm l done (cur++ [x])
theorem XT (R:List (ByteArray × List ByteArray)) (nm:ByteArray) (l:List ByteArray):
  (Nc R nm (l.drop 3)).1++ [(nm,(Nc R nm (l.drop 3)).2.1)]=R++(A8 l).map (λr=>(nm,r))/\(Nc R nm (l.drop 3)).2.2=decide (8<DW (A8 l)):=by
 have h:=TX R nm (l.drop 3) [] [];have h0:decide (8<DW (([]:List (List ByteArray))++ [[]]))=false:=rfl;rw[h0]at h;simp only[ur,iq]at h;unfold Nc A8 Ei;rw[h];exact⟨by simp,rfl⟩
theorem OH (ws:List ByteArray) (u:ByteArray):(0<cnt ws u)↔(ws.any λx=>x.toList==u.toList)=true:=by
 unfold cnt;rw[List.length_pos_iff_exists_mem,ot];constructor
 ·rintro⟨y,hy⟩
  rw[mo]at hy;exact⟨y,hy.1,by rw[jf,jf];exact lq.2 (kf hy.2)⟩
 ·rintro⟨y,hy,h⟩
  rw[jf,jf,lq]at h;exact⟨y,mo.2 ⟨hy,ij h⟩⟩
theorem QX {v:ByteArray} (hu:DS u=true) (hv:GM v=true):(v.toList==u.toList)=false:=by
 rw[jf,jf,jz];intro e;unfold DS J2 at hu;unfold GM J2 at hv;rw[e]at hv;simp only[fu,ia]at hu hv;obtain⟨x,hx⟩:=List.exists_mem_of_length_pos (show 0<u.data.toList.length by omega);have h1:=hu.2.2;have h2:=hv.2.2;unfold DF at h1 h2;rw[nj]at h1 h2;have h3:=h1 x hx;have h4:=h2 x hx;simp only[fu,ia]at h3 h4;omega
theorem S8 {lo hi n:Int} (h:J2 u.data.toList lo hi n=true):u.toList.isEmpty=false:=by
 rw[jf];unfold J2 at h;simp only[fu,ia]at h;cases hl:u.data.toList with
 |nil=>rw[hl]at h;simp at h
 |cons x r=>rfl
structure Inv (G:Gr) (ws:List ByteArray) (t n r:Nat):Prop where
 has:∀u,(D2 G.toks u=true\/BW G.names u=true)↔0<cnt ws u
 low:∀x∈G.toks,DS x.1=true
 upp:∀x∈G.names,GM x=true
 nt:G.toks.length=t
 nn:G.names.length=n
 nr:G.rules.length=r
theorem fM (ws:List ByteArray) (w u:ByteArray):0<cnt (ws++ [w]) u↔(0<cnt ws u\/(w.toList==u.toList)=true):=by
 rw[OH,OH,yj,oa];simp
theorem kF (T:List (ByteArray × Int × Int)) (x:ByteArray × Int × Int) (u:ByteArray):D2 (T++ [x]) u=true↔(D2 T u=true\/(x.1.toList==u.toList)=true):=by
 unfold D2;rw[yj,oa];simp
theorem i6 (T:List ByteArray) (x:ByteArray) (u:ByteArray):BW (T++ [x]) u=true↔(BW T u=true\/(x.toList==u.toList)=true):=by
 unfold BW;rw[yj,oa];simp
theorem Inv.aah  (h:Inv G ws t n r)  (hu:DS u=true):BW G.names u=false:=by
 unfold BW;rw[um];intro x hx;rw[QX hu (h.upp x hx)]
 decide
theorem Inv.ahK  (h:Inv G ws t n r)  (hu:GM u=true):D2 G.toks u=false:=by
 unfold D2;rw[um];intro x hx;have h1:=QX (h.low x hx) hu;rw[jz]at h1;simp only[lq];exact λe=>h1 e.symm
theorem aF  (h:Inv G ws t n r)  (h0:((nth l 0).toList== [116,111,107,101,110])=true) (ht:DS (nth l 1)=true):
  (0<cnt ws (nth l 1)/\(D9 G l).2=3)\/
  (¬0<cnt ws (nth l 1)/\Inv (D9 G l).1 (ws++ [nth l 1]) (t+1) n r/\(D9 G l).2=if 20<t+1\/20<n\/60<r\/8<0 then 4 else 0):=by
 unfold D9;rw[aq h0];have hno:=h.aah ht;cases hq:D2 G.toks (nth l 1)
 ·right
  have hc:¬0<cnt ws (nth l 1):=by
   rw[<-h.has,hq,hno];simp
  refine⟨hc,?_,?_⟩
  ·rw[au (by simp)]
   refine⟨λu=>?_,λx hx=>?_,h.upp,by simp[h.nt],h.nn,h.nr⟩
   ·rw[fM,<-h.has,kF]
    constructor
    ·rintro((h1 |h1) |h1)
     ·exact .inl (.inl h1)
     ·exact .inr h1
     ·exact .inl (.inr h1)
    ·rintro((h1 |h1) |h1)
     ·exact .inl (.inl h1)
     ·exact .inr h1
     ·exact .inl (.inr h1)
   ·rw[gj]at hx
    rcases hx with hx |hx
    ·exact h.low x hx
    ·simp at hx;subst hx;exact ht
  ·rw[au (by simp)]
   unfold RL;simp only[lA,lC,iw,h.nt,h.nn,h.nr,oy,xx]
   by_cases hx:20<t+1\/20<n\/60<r
   ·rw[aq (by omega),aq (by omega)]
   ·rw[au (by omega),au (by omega)]
 ·left
  exact⟨(h.has _).1 (.inl hq),by rw[aq rfl]⟩
theorem YN  (h:Inv G ws t n r)  (h0:((nth l 0).toList== [116,111,107,101,110])=false) (hw:((nth l 0).toList== [115,119,97,112])=true):
  Inv (D9 G l).1 ws t n r/\(D9 G l).2=if 20<t\/20<n\/60<r\/8<0 then 4 else 0:=by
 unfold D9;rw[au Rf,aq hw];refine⟨⟨h.has,h.low,h.upp,h.nt,h.nn,h.nr⟩,?_⟩;unfold RL;simp only[h.nt,h.nn,h.nr,oy,xx]
 by_cases hx:20<t\/20<n\/60<r
 ·rw[aq hx,aq (by omega)]
 ·rw[au hx,au (by omega)]
theorem Y3  (h:Inv G ws t n r)  (h0:((nth l 0).toList== [116,111,107,101,110])=false) (hw:((nth l 0).toList== [115,119,97,112])=false)
  (hr:((nth l 0).toList== [114,117,108,101])=true) (ht:GM (nth l 1)=true):
  (0<cnt ws (nth l 1)/\(D9 G l).2=3)\/
  (¬0<cnt ws (nth l 1)/\Inv (D9 G l).1 (ws++ [nth l 1]) t (n+1) (r+(A8 l).length)/\(D9 G l).2=if 20<t\/20<n+1\/60<r+(A8 l).length\/8<DW (A8 l)then 4 else 0):=by
 have hR:=XT G.rules (nth l 1) l;unfold D9;rw[au Rf,au (by simp[hw]),aq hr];have hno:=h.ahK ht;cases hq:BW G.names (nth l 1)
 ·right
  have hc:¬0<cnt ws (nth l 1):=by
   rw[<-h.has,hq,hno];simp
  refine⟨hc,?_,?_⟩
  ·rw[au (by simp)]
   refine⟨λu=>?_,h.low,λx hx=>?_,h.nt,by simp[h.nn],?_⟩
   ·rw[fM,<-h.has,i6]
    constructor
    ·rintro(h1 | (h1 |h1))
     ·exact .inl (.inl h1)
     ·exact .inl (.inr h1)
     ·exact .inr h1
    ·rintro((h1 |h1) |h1)
     ·exact .inl h1
     ·exact .inr (.inl h1)
     ·exact .inr (.inr h1)
   ·rw[gj]at hx
    rcases hx with hx |hx
    ·exact h.upp x hx
    ·simp at hx;subst hx;exact ht
   ·show((Nc G.rules (nth l 1) (l.drop 3)).1++ [(nth l 1,(Nc G.rules (nth l 1) (l.drop 3)).2.1)]).length=_
    rw[hR.1];simp[h.nr]
  ·rw[au (by simp)]
   unfold RL;rw[hR.2];simp only[hR.1];simp only[lA,lC,iw,lM,h.nt,h.nn,h.nr]
   by_cases hx:20<t\/20<n+1\/60<r+(A8 l).length
   ·rw[aq (by omega),aq (by omega)]
   ·rw[au (by omega)]
    by_cases hy:8<DW (A8 l)
    ·rw[aq (ij hy),aq (by omega)]
    ·rw[au (by simp[hy]),au (by omega)]
 ·left
  exact⟨(h.has _).1 (.inr hq),by rw[aq rfl]⟩
theorem UH  (h:Inv G ws t n r)  (hl:AR l=true) (h1:l.length=1):
  (D9 G l).1=G/\(D9 G l).2=if 20<t\/20<n\/60<r then 4 else 0:=by
 unfold AR at hl;rw[aq h1]at hl;have e:(nth l 0).toList=[]:=by simpa using hl
 unfold D9;rw[e];rw[au (by decide),au (by decide),au (by decide)];refine⟨rfl,?_⟩;unfold RL;simp only[h.nt,h.nn,h.nr,oy,xx]
end Go.Proofs.YtjjggdcnpndgjaaGreatDoor
