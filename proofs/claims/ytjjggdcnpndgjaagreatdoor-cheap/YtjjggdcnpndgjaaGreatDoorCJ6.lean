import Derived.Test.YtjjggdcnpndgjaaGreatDoorCJ5
set_option linter.unusedSimpArgs false
set_option maxHeartbeats 1000000
set_option maxRecDepth 100000
namespace Go.Proofs.YtjjggdcnpndgjaaGreatDoor
abbrev dm:=@List.mem_map
abbrev jd:=@List.length_nil
abbrev jv:=@List.mem_iff_getElem
abbrev ni:=@List.mem_filter
abbrev om:=@List.take_length
abbrev ot:=@List.getElem_mem
abbrev um:=@List.map_nil
abbrev uy:=@List.any_eq_false
abbrev yl:=@List.mem_of_mem_drop
open Go.RowKit
variable {G:Gr}{l ws:List ByteArray}{n r t:Nat}{u:ByteArray}
section
open Go.RowKit Go.WideMaps Go.Maps
def AM (ls:List Ln):List ByteArray:=(ls.map λx=>BI x.2.1 x.2.2).filter λs=> !s.toList.isEmpty
def FB (ws:List ByteArray) (x:Ln):Bool:=(x.2.1==1&&((nth x.2.2 1).toList==(nth x.2.2 2).toList))||(I3 x.2.1 x.2.2).any λu=>cnt ws u==0
def FD (ws:List ByteArray):List Ln->Option Nat
 | []=>none
 |x::r=>if FB ws x then some x.1 else FD ws r
theorem tU {ls:List Ln}{k:Nat}{x:Ln} (hx:ls[k]?=some x) (ws:List ByteArray):FD ws (ls.drop k)=if FB ws x then some x.1 else FD ws (ls.drop (k+1)):=by
 obtain⟨hk,e⟩:=zM.1 hx;rw[gm hk,e];rfl
theorem fY {ls:List Ln}{k:Nat}{x:Ln} (hx:ls[k]?=some x):AM (ls.take (k+1))=AM (ls.take k)++if(BI x.2.1 x.2.2).toList.isEmpty then []else [BI x.2.1 x.2.2]:=by
 obtain⟨hk,e⟩:=zM.1 hx;unfold AM;rw[iq hk,e,fq,ql];cases h:(BI x.2.1 x.2.2).toList.isEmpty <;> simp[h]
theorem jL (ls:List Ln) (k:Nat):(AM (ls.take k)).length<=k:=by
 unfold AM;refine zV (qy _ _) ?_;simp;omega
theorem qH (a sh:Nat) (p:Value) (l:List ByteArray) (w:World) (hW:EU w p l) (hsh:sh<=2) (hl:3<=l.length) (Ct:l.length<=4001):
  Calls Tryz.prog 211 #[.agg #[ab a,ab sh,p]] w λe w'=>∃v,e=.returned v/\SK w' v (I3 sh l)/\Below w.heap.size w w':=by
 have h':sh=0\/sh=1\/sh=2:=by omega
 rcases h' with rfl |rfl |rfl
 ·exact qR a p l w hW
 ·exact pC a p l w hW hl Ct
 ·exact lX a p l w hW hl Ct
theorem J3 (w:World) (n:Nat):Below w.heap.size w (w.drewN n):=⟨rfl,rfl,rfl,zn _,λ_ _=>rfl⟩
theorem sH (sh:Nat) (l:List ByteArray) (h3:3<=l.length) (Ct:l.length<=4001):(I3 sh l).length<=4001:=by
 unfold I3;split
 ·simp
 ·split
  ·have h1:=LU l (AE l).length
   rw[om]at h1;omega
  ·simp
structure LN (ls:List Ln):Prop where
 len:ls.length<=4000
 ok:∀x∈ls,V0 x
 sh:∀x∈ls,x.2.1<=2
 gsz:∀x∈ls,(BI x.2.1 x.2.2).size<=4000
 usz:∀x∈ls,∀u∈I3 x.2.1 x.2.2,u.size<=4000
theorem Mz7 {P:Prop} (h:P:=by
  clear acL;go_wp2
  go_quiet (fail)
  rcases xx un with hu0 |hup
  ·have afJ:us=[]:=tj (HUN.out.trans hu0)
   have HE:Hid (FD (AM ls) ls=FD (AM ls) (ls.drop (q+1))):=hid (by rw[HT.out,aq];rw[HLU.out,afJ];simp);subst hu0;clear afJ
   go_wp2_with (first | (go_at_call 211;refine(CU.out _ (Cy.out.trans ((J3 _ _).mono Cy.out.size))).mono ?_;rintro e w2 ⟨⟨adu,aie,rfl,_⟩,hb2⟩))
   have zO:Hid (Below W1.heap.size W1 w2):=hid (Eh.out.trans ((Cy.out.trans (((J3 _ _).trans hb2).mono Cy.out.size)).mono Eh.out.size));clear hb2
   go_loopw [53] (λi wj=>i=ab 0/\Hid (Below W1.heap.size W1 wj)) (λi _=>0)
   case atStart=>exact⟨rfl,zO⟩
   case round=>
    obtain⟨rfl,Mb⟩:=hrel;go_wp2
    go_roundw
    case rel=>exact⟨q+1,by omega,by go_num,HE,Mb⟩
    case measure=>simp[intOf];omega
  ·go_wp2_with (first | (go_at_call 211;refine(CU.out _ (Cy.out.trans ((J3 _ _).mono Cy.out.size))).mono ?_;rintro e w2 ⟨⟨adu,aie,rfl,hst⟩,hb2⟩))
   obtain⟨gu,ou,rfl,abp,hcu⟩:=hst hup;have hbA:Below wr.heap.size wr w2:=Cy.out.trans (((J3 _ _).trans hb2).mono Cy.out.size);have zO:Hid (Below W1.heap.size W1 w2):=hid (Eh.out.trans (hbA.mono Eh.out.size));have q2:w2.cell? (af wr.heap.size 0)=some (ab at_):=(hb2.cell (by simp)).trans (by
    show(wr.alloc _).cell? _=_;rw[A0 (dz wr _)];rfl)
   obtain⟨bl,hbl⟩:=qE (wr.heap.size);rw[hbl]at q2;have HQ2:=hid q2;have afK:bl<w2.heap.size:=M9 q2;have aif:=hid abp;rw[hbl];clear abp hbA hb2 hst q2
   go_loopw [53] (λi wj=>∃j:Nat,j<=un/\i=ab j/\Hid (∀t,t<j->(cnt (AM ls) (nth us t)==0)=false)/\Hid (Below w2.heap.size w2 wj)) (λi _=>un - (intOf i).toNat)
   case atStart=>exact⟨0,by omega,rfl,hid (λt h=>by omega),ah _ _⟩
   case round=>
    obtain⟨j,hj,rfl,hno,Mb⟩:=hrel;have HBj:Hid (Below W1.heap.size W1 wr):=hid (zO.out.trans (Mb.out.mono zO.out.size))
    by_cases Pf:j<un
    ·have cu:wr.cell? (af gu (ou+j))=some (.string (nth us j)):=(aif.out.later Mb.out).2 j (by rw[HUN.out];exact Pf)
     have hmem:nth us j∈us:=by
      unfold nth;rw[Af,gE (by rw[HUN.out];exact Pf)];exact ot _
     have aih:=HUZ.out _ hmem;obtain⟨u,hu⟩:=qE (nth us j);rw[hu]at cu aih;have HU:Hid (nth us j=u):=hid hu;have aii:Hid (nth us j∈us):=hid hmem;obtain⟨D,hown,_,Rf⟩:=HMW.out.below HBj.out;have hkey:keyOf Tryz.prog 9 (.string u)=some (.string u.data.toList):=keyOf_string_mk Tryz.underlying9 Bg;obtain⟨c,hrun,hat,_⟩:=hown.lookup_int Tryz.lawStr Tryz.underlying341 Tryz.underlying3 (Tryz.zeroInt _) hkey;obtain⟨cc,hcc⟩:=qE (cnt (AM ls) u);obtain rfl:c=(cc:Int):=LI (hat.symm.trans (by rw[Rf u,hcc]));have Jy:Hid (cnt (AM ls) u=cc):=hid hcc;clear hu hmem Rf hkey hat hcc hown;have q3:wr.cell? (af bl 0)=some (ab at_):=(Mb.out.cell (by exact afK)).trans HQ2.out;cases hz:((cc:Int)==0)
     ·have Yx:=hid (F8 hno.out (show(cnt (AM ls) (nth us j)==0)=false by rw[HU.out,Jy.out];simp at hz ⊢;omega))
      go_wp2
      go_roundw
      case rel=>exact⟨j+1,by omega,by go_num,Yx,Mb⟩
      case measure=>simp[intOf];omega
     ·have HE:Hid (FD (AM ls) ls=some at_):=hid (by
       rw[HT.out,ay];rw[HLU.out,qb];exact⟨_,aii.out,by rw[HU.out,Jy.out];simp at hz ⊢;omega⟩)
      go_wp2
      go_ret2
      exact⟨by rw[HE.out];rfl,hbr.out.trans (HBj.out.mono hsz)⟩
    ·have HE:Hid (FD (AM ls) ls=FD (AM ls) (ls.drop (q+1))):=hid (by
      rw[HT.out,aq];rw[HLU.out,Bool.not_eq_true,uy];intro y hy;obtain⟨t,ht,rfl⟩:=jv.1 hy;have h1:=hno.out t (by have:=HUN.out;omega);unfold nth at h1;rw[Af,gE ht]at h1;simpa using h1)
     go_wp2
     go_roundw
     case rel=>exact⟨q+1,by omega,by go_num,HE,HBj⟩
     case measure=>simp[intOf];omega):P:=h
theorem RN (v:Value) (ls:List Ln) (pv:List Value) (B:Nat) (w:World) (hV:Bv w B v ls pv) (hok:LN ls):
  Calls Tryz.prog 170 #[v] w λe w'=>e=.returned (cH (FD (AM ls) ls))/\Below w.heap.size w w':=by
 have Rc:= @run_makeMap Tryz.prog
 rcases hV.form with⟨rfl,rfl⟩ | ⟨g,cap,rfl,hnc,hg⟩
 ·clear hV
  have HB:Hid (Below w.heap.size w (w.alloc (.map #[] 0))):=hid ((ah _ _).alloc (zn _) _)
  go_enter Tryz.func170,Tryz.ntmps170
  go_wp2
  go_loopw [15] (λi wr=>i=ab 0/\Hid (Below w.heap.size w wr)) (λi _=>0)
  case atStart=>exact⟨rfl,HB⟩
  case round=>
   obtain⟨rfl,hbr⟩:=hrel;go_wp2
   go_loopw [30] (λi wr=>i=ab 0/\Hid (Below w.heap.size w wr)) (λi _=>0)
   case atStart=>exact⟨rfl,hbr⟩
   case round=>
    obtain⟨rfl,aij⟩:=hrel;go_wp2
    go_ret2
    exact⟨rfl,aij.out⟩
 ·obtain⟨n,hN⟩:=qF (ls.length)
  have hn:n<=4000:=by have:=hok.len;omega
  rw[<-hN]at hnc hV ⊢;have HN:Hid (n=ls.length):=hid hN;have HV:=hid hV;have Bq:=hid hok;have HB:Hid (Below w.heap.size w (w.alloc (.map #[] 0))):=hid ((ah _ _).alloc (zn _) _);have HM:Hid (KJ (w.alloc (.map #[] 0)) w.heap.size 0 []):=hid ⟨_,yx _ _ _ _,isMap_empty,λs=>rfl⟩;clear hN hV hok
  go_enter Tryz.func170,Tryz.ntmps170
  go_wp2;clear Rc
  go_loopw [15] (λi wr=>∃k:Nat,k<=n/\i=ab k/\Hid (KJ wr w.heap.size k (AM (ls.take k)))/\Hid (Below w.heap.size w wr)) (λi _=>n - (intOf i).toNat)
  case atStart=>exact⟨0,by omega,rfl,HM,HB⟩
  case round=>
   clear HM HB;obtain⟨k,hk,rfl,hm,hbr⟩:=hrel;have hsz:=hbr.out.size
   by_cases hlt:k<n
   ·obtain⟨x,hx⟩:∃x,ls[k]?=some x:=⟨_,gE La⟩
    have Eg:=Bq.out.ok x (mG hx);have hxs:=Bq.out.gsz x (mG hx);have hT:=fY hx;obtain⟨p,hp,Dz,k0,k1,k2⟩:=(HV.out.below hbr.out).at hx;obtain⟨at_,sh,l⟩:=x;simp only at k0 k1 k2 hT Dz hxs;have hgr:g<wr.heap.size:=lL hg hsz;have Ju:=hid Dz;obtain⟨gw,m,mc,ad,cs,rfl,_⟩:=Dz;have zL:Hid (Below w.heap.size w (wr.alloc (.cells #[ab at_,ab sh,.slice ad m mc] 325))):=hid (hbr.out.alloc hsz _);have Cy:Hid (Below wr.heap.size wr (wr.alloc (.cells #[ab at_,ab sh,.slice ad m mc] 325))):=hid ((ah _ _).alloc (zn _) _);obtain⟨wd,hwd⟩:=qE (BI sh l);have cG:=QV at_ sh (.slice ad m mc) l _ (Ju.out.below Cy.out) adN Eg.2;rw[hwd]at cG hT hxs;have CG:=hid cG;have HT:=hid hT;obtain⟨ws,Ld⟩:=qE (AM (ls.take k));have Cs:ws.length<=k:=by rw[<-Ld];exact jL ls k
    rw[Ld]at hm HT;obtain⟨D,hown,hD,Rf⟩:=hm.out;have hkey:keyOf Tryz.prog 9 (.string wd)=some (.string wd.data.toList):=keyOf_string_mk Tryz.underlying9 Bg;obtain⟨cc,hcc⟩:=qE (cnt ws wd);have afI:cc<=4000:=by have h1:=oC ws wd;omega
    have HC3:Hid (D.atKey (.string wd.data.toList) (.lit (.int .i64 0))=.lit (.int .i64 cc)):=hid (by rw[Rf wd,hcc]);have HD3:Hid (IsMap (D.put (.string wd.data.toList) (.lit (.int .i64 ((cc:Int)+1))))):=hid (hD.put _ _);have Iy:Hid (∀s:ByteArray,(D.put (.string wd.data.toList) (.lit (.int .i64 ((cc:Int)+1)))).atKey (.string s.data.toList) (.lit (.int .i64 0))=.lit (.int .i64 (cnt (ws++ [wd]) s))):=hid (by have:=VL hD Rf wd;rwa [hcc]at this);have HM:Hid (KJ wr w.heap.size k ws):=hm;have Vq:=hid hown;have Na:=hid hkey;have hk4:k<4000:=by omega
    clear hp hx Eg hT cG hwd Rf hD hown hm hkey hcc Ld Cs;cases he:wd.toList.isEmpty
    ·have HE:Hid (AM (ls.take (k+1))=ws++ [wd]):=hid (by rw[HT.out,aq (by rw[he];decide)])
     clear HT HM
     go_wp2_with (first
      | (go_at_call 210;refine CG.out.mono ?_;rintro e w2 ⟨rfl,hb2⟩;have Iz:=JL (JL Vq.out Cy.out) hb2;obtain⟨c,hrun,hat,_⟩:=Iz.lookup_int Tryz.lawStr Tryz.underlying341 Tryz.underlying3 (Tryz.zeroInt _) Na.out;obtain rfl:c=(cc:Int):=LI (hat.symm.trans HC3.out);clear hat)
      | (at_mapUpdate;refine wm _ rfl _ _ _ 341 rfl 9 3 Tryz.lawStr Tryz.underlying341 _ w.heap.size k _ rfl Iz Bg _ _ _ rfl rfl Na.out _ [] (plainElem_int Tryz.underlying3 (WalkArith.wf_i64 (by omega))) ?_))
     intro w3 Ad Ae;have Ko:Below w.heap.size w w2:=zL.out.trans (hb2.mono zL.out.size);have Ap:Hid (Below w.heap.size w w3):=hid (Ko.grown Ae Ko.size (λj hj=>by cases hj;exact zn _));have Nc:Hid (KJ w3 w.heap.size (k+1) (AM (ls.take (k+1)))):=hid (by rw[HE.out];exact⟨_,Ad,HD3.out,Iy.out⟩);clear Ad Ae Iz hrun Ko hb2;go_wp2
     go_roundw
     case rel=>exact⟨k+1,by omega,by go_num,Nc,Ap⟩
     case measure=>simp[intOf];omega
    ·have HE:Hid (AM (ls.take (k+1))=ws):=hid (by rw[HT.out,ay he,fy])
     go_wp2_with (first | (go_at_call 210;refine CG.out.mono ?_;rintro e w2 ⟨rfl,hb2⟩))
     have Fj:Below wr.heap.size wr w2:=Cy.out.trans (hb2.mono Cy.out.size);have Nc:Hid (KJ w2 w.heap.size (k+1) (AM (ls.take (k+1)))):=hid (by
      rw[HE.out];obtain⟨D',h1,h2⟩:=HM.out.below Fj;exact⟨D',h1.mono (by omega),h2⟩)
     have zO:=hid (zL.out.trans (hb2.mono zL.out.size));clear Fj hb2
     go_roundw
     case rel=>exact⟨k+1,by omega,by go_num,Nc,zO⟩
     case measure=>simp[intOf];omega
   ·have HMW:Hid (KJ wr w.heap.size k (AM ls)):=hid (by
     have h:=hm.out
     rwa [jk La]at h)
    clear hm;obtain⟨W1,hW1⟩:=qF (wr);subst hW1;go_wp2
    go_loopw [30] (λi wi=>∃q:Nat,q<=n/\i=ab q/\Hid (FD (AM ls) ls=FD (AM ls) (ls.drop q))/\Hid (Below W1.heap.size W1 wi)) (λi _=>n - (intOf i).toNat)
    case atStart=>exact⟨0,by omega,rfl,rfl,ah _ _⟩
    case round=>
     obtain⟨q,hq,rfl,ht,Eh⟩:=hrel;have zX:Below w.heap.size w wr:=hbr.out.trans (Eh.out.mono hsz);have aaV:=zX.size
     by_cases My:q<n
     ·obtain⟨x,hx⟩:∃x,ls[q]?=some x:=⟨_,gE La⟩
      have Eg:=Bq.out.ok x (mG hx);have afL:=Bq.out.sh x (mG hx);have adX:=Bq.out.usz x (mG hx);have hT:=tU hx (AM ls);obtain⟨p,hp,Dz,k0,k1,k2⟩:=(HV.out.below zX).at hx;obtain⟨at_,sh,l⟩:=x;simp only at k0 k1 k2 hT Dz afL adX;have hgr:g<wr.heap.size:=lL hg aaV;have Ju:=hid Dz;obtain⟨gw,m,mc,ad,cs,rfl,e1,e2,e3,e4,e5,e6⟩:=Dz;have Nd:3<=l.length:=Eg.1;obtain rfl:ad=some (af gw 1):=e6 (by omega);have c1:wr.cell? (af gw 1)=some (.string (nth l 1)):=by rw[A0 e4];exact e5 1 (by omega)
      have c2:wr.cell? (af gw 2)=some (.string (nth l 2)):=by rw[A0 e4];exact e5 2 (by omega)
      have Iw:gw<wr.heap.size:=ak e4;have hm1:0<m:=by omega
      have hm2:1<m:=by omega
      have hm3:(0:Int)<m:=by omega
      have Qz:(1:Int)<m:=by omega
      have Cy:Hid (Below wr.heap.size wr (wr.alloc (.cells #[ab at_,ab sh,.slice (some (af gw 1)) m mc] 325))):=hid ((ah _ _).alloc (zn _) _);obtain⟨us,Kq⟩:=qE (I3 sh l);obtain⟨un,hun⟩:=qE (us.length);have alh:un<=4001:=by
       have h1:=sH sh l Eg.1 Eg.2;rw[Kq,hun]at h1;exact h1
      have HUN:Hid (us.length=un):=hid hun;have HUZ:Hid (∀u∈us,u.size<=4000):=hid (by rw[<-Kq];exact adX);have CU:Hid (∀W,Below wr.heap.size wr W->Calls Tryz.prog 211 #[.agg #[ab at_,ab sh,.slice (some (af gw 1)) m mc]] W λe w'=>
        (∃ad cap,e=.returned (.slice ad un cap)/\(0<un->∃g off,ad=some (af g off)/\DV w' g off us/\un<=cap))/\Below W.heap.size W w'):=hid λW hW=>by
       refine(qH at_ sh _ l W (Ju.out.below hW) afL Eg.1 Eg.2).mono ?_;rintro e w' ⟨v,rfl,⟨ad,cap,rfl,h1,h2⟩,hb⟩;rw[Kq,hun]at h1 h2 ⊢;exact⟨⟨ad,cap,rfl,λh=>by obtain⟨g,off,h3,h4⟩:=h2 h;exact⟨g,off,h3,h4,h1⟩⟩,hb⟩
      have HT:=hid (ht.out.trans hT);have acL:Hid (FB (AM ls) (at_,sh,l)=((sh==1&&((nth l 1).toList==(nth l 2).toList))||us.any λu=>cnt (AM ls) u==0)):=hid (by unfold FB;rw[Kq]);clear hp hx Eg hT ht e1 e2 e3 e4 e5 e6 Kq hun adX zX Nd;cases hs1:((sh:Int)==1)
      ·have HLU:Hid (FB (AM ls) (at_,sh,l)=us.any λu=>cnt (AM ls) u==0):=hid (by
        rw[acL.out,show(sh==1)=false by simp at hs1 ⊢;omega];simp)
       exact Mz7
      ·cases he:((nth l 1).toList==(nth l 2).toList)
       ·have HLU:Hid (FB (AM ls) (at_,sh,l)=us.any λu=>cnt (AM ls) u==0):=hid (by
         rw[acL.out,he];simp)
        exact Mz7
       ·have HE:Hid (FD (AM ls) ls=some at_):=hid (by
         rw[HT.out,ay];rw[acL.out,he,show(sh==1)=true by simp at hs1 ⊢;omega];rfl)
        go_wp2
        go_quiet (fail)
        go_wp2
        go_ret2
        exact⟨by rw[HE.out];rfl,hbr.out.trans ((Eh.out.trans ((Cy.out.trans ((J3 _ _).mono Cy.out.size)).mono Eh.out.size)).mono hsz)⟩
     ·have HE:Hid (FD (AM ls) ls=none):=hid afB
      go_wp2
      go_ret2
      exact⟨by rw[HE.out];rfl,zX⟩
end
def ES (s:ByteArray):Int × Int:=
 if 4000<s.size then(1,0)
 else if(AL s 0).2<s.size then(2,((AL s 0).2:Nat))
 else match D3 (AK (AL s 0).1) []with
  |some a=>(3,(a:Int))
  |none=>match CK (AK (AL s 0).1) 0 0 0 with
   |some a=>(4,(a:Int))
   |none=>if(AK (AL s 0).1).any (λx=>x.2.1==2)then(match FD (AM (AK (AL s 0).1)) (AK (AL s 0).1)with
     |some a=>(5,(a:Int))
     |none=>(0,0))
    else(4,(s.size:Int))
def bW (s:ByteArray) (w:World) (e:Ending) (w':World):Prop:=
 ∃v,e=.returned (.tuple #[v,ab (ES s).1,ab (ES s).2])/\((ES s).1=0->∃B pv,w.heap.size<=B/\Bv w' B v (AK (AL s 0).1) pv)/\Below w.heap.size w w'
theorem JX {s:ByteArray}{w w':World}{v:Value}{a b:Int} (h:ES s=(a,b)) (ha:a≠0) (hb:Below w.heap.size w w'):bW s w (.returned (.tuple #[v,ab a,ab b])) w':=
 ⟨v,by rw[h],λh0=>absurd (by rw[h]at h0;exact h0) ha,hb⟩
theorem oF {s:ByteArray}{w w':World}{v:Value}{pv:List Value}{L:List (Nat × Nat × List ByteArray)} (h:ES s=(0,0)) (hL:AK (AL s 0).1=L) (hV:Bv w' w.heap.size v L pv) (hb:Below w.heap.size w w'):bW s w (.returned (.tuple #[v,ab 0,ab 0])) w':=
 ⟨v,by rw[h],λ_=>⟨_,pv,zn _,by rw[hL];exact hV⟩,hb⟩
theorem fM (s:ByteArray) (w:World) (hG:E2 w) (hs:s.size<=9223372036854775807) (hok:s.size<=4000->LN (AK (AL s 0).1)):
  Calls Tryz.prog 113 #[.string s] w λe w'=>bW s w e w':=by
 by_cases h1:4000<s.size
 ·have HE:Hid (ES s=(1,0)):=hid (by unfold ES;rw[ay h1])
  have hi1:(4000:Int)<s.size:=by omega
  go_enter Tryz.func113,Tryz.ntmps113
  go_wp2
  go_ret3
  exact JX HE.out (by decide) (ah _ _)
 ·have hi1:¬(4000:Int)<s.size:=by omega
  have Fx:s.size<=4000:=by omega
  have cL:=oD s w hG Fx;have Bq:=hid (hok Fx);obtain⟨en,hen⟩:=qE ((AL s 0).2);obtain⟨L,hL⟩:=qE (AK (AL s 0).1);have HP:Hid (ES s=(if en<s.size then(2,(en:Int))else match D3 L []with
   |some a=>(3,(a:Int))
   |none=>match CK L 0 0 0 with
    |some a=>(4,(a:Int))
    |none=>if L.any (λx=>x.2.1==2)then(match FD (AM L) L with
      |some a=>(5,(a:Int))
      |none=>(0,0))
     else(4,(s.size:Int)):Int × Int)):=hid (by unfold ES;rw[aq h1,hen,hL])
  rw[hen,hL]at cL;rw[hL]at Bq;have CL:=hid cL;have HLk:Hid (AK (AL s 0).1=L):=hid hL;clear cL hen hL hok hG
  by_cases h2:en<s.size
  ·have HE:Hid (ES s=(2,(en:Int))):=hid (by rw[HP.out,ay h2])
   have hi2:(en:Int)<s.size:=by omega
   clear HP
   go_enter Tryz.func113,Tryz.ntmps113
   go_wp2_with (first | (go_at_call 166;refine CL.out.mono ?_;rintro e w1 ⟨v,pv,rfl,hV,hb1⟩))
   go_ret3
   exact JX HE.out (by decide) (hb1)
  ·have hi2:¬(en:Int)<s.size:=by omega
   have HP2:=hid (HP.out.trans (aq h2));clear HP;cases ht:D3 L []with
   |some a=>
    have HE:Hid (ES s=(3,(a:Int))):=hid (by rw[HP2.out,ht]);clear HP2;have CT:Hid (∀v pv B W,Bv W B v L pv->Calls Tryz.prog 167 #[v] W λe w'=>e=.returned (.tuple #[ab a,.bool true])/\Below W.heap.size W w'):=hid λv pv B W hV=>by
     have:=YH v L pv B W hV Bq.out.len Bq.out.ok Bq.out.gsz;rw[ht]at this;exact this
    clear ht
    go_enter Tryz.func113,Tryz.ntmps113
    go_wp2_with (first
     | (go_at_call 166;refine CL.out.mono ?_;rintro e w1 ⟨v,pv,rfl,hV,hb1⟩)
     | (go_at_call 167;refine(CT.out _ _ _ _ hV).mono ?_;rintro e w2 ⟨rfl,hb2⟩))
    go_ret3
    exact JX HE.out (by decide) (hb1.trans (hb2.mono hb1.size))
   |none=>
    have Nf:=hid (HP2.out);rw[ht]at Nf;clear HP2;have CT:Hid (∀v pv B W,Bv W B v L pv->Calls Tryz.prog 167 #[v] W λe w'=>e=.returned (.tuple #[ab 0,.bool false])/\Below W.heap.size W w'):=hid λv pv B W hV=>by
     have:=YH v L pv B W hV Bq.out.len Bq.out.ok Bq.out.gsz;rw[ht]at this;exact this
    clear ht;cases hm:CK L 0 0 0 with
    |some a=>
     have HE:Hid (ES s=(4,(a:Int))):=hid (by rw[Nf.out,hm]);clear Nf;have CM:Hid (∀v pv B W,Bv W B v L pv->Calls Tryz.prog 168 #[v] W λe w'=>e=.returned (.tuple #[ab a,.bool true])/\Below W.heap.size W w'):=hid λv pv B W hV=>by
      have:=dI v L pv B W hV Bq.out.len Bq.out.ok;rw[hm]at this;exact this
     clear hm
     go_enter Tryz.func113,Tryz.ntmps113
     go_wp2_with (first
      | (go_at_call 166;refine CL.out.mono ?_;rintro e w1 ⟨v,pv,rfl,hV,hb1⟩)
      | (go_at_call 167;refine(CT.out _ _ _ _ hV).mono ?_;rintro e w2 ⟨rfl,hb2⟩;have hV2:=hV.below hb2)
      | (go_at_call 168;refine(CM.out _ _ _ _ hV2).mono ?_;rintro e w3 ⟨rfl,hb3⟩))
     go_ret3
     exact JX HE.out (by decide) ((hb1.trans (hb2.mono hb1.size)).trans (hb3.mono (zV hb1.size hb2.size)))
    |none=>
     rw[hm]at Nf;have CM:Hid (∀v pv B W,Bv W B v L pv->Calls Tryz.prog 168 #[v] W λe w'=>e=.returned (.tuple #[ab 0,.bool false])/\Below W.heap.size W w'):=hid λv pv B W hV=>by
      have:=dI v L pv B W hV Bq.out.len Bq.out.ok;rw[hm]at this;exact this
     clear hm;cases hn:L.any (λx=>x.2.1==2)with
     |false=>
      have HE:Hid (ES s=(4,(s.size:Int))):=hid (by rw[Nf.out,hn];rfl);clear Nf;have CN:Hid (∀v pv B W,Bv W B v L pv->Calls Tryz.prog 169 #[v] W λe w'=>e=.returned (.bool false)/\Below W.heap.size W w'):=hid λv pv B W hV=>by
       have:=QZ v L pv B W hV Bq.out.len;rw[hn]at this;exact this
      clear hn
      go_enter Tryz.func113,Tryz.ntmps113
      go_wp2_with (first
       | (go_at_call 166;refine CL.out.mono ?_;rintro e w1 ⟨v,pv,rfl,hV,hb1⟩)
       | (go_at_call 167;refine(CT.out _ _ _ _ hV).mono ?_;rintro e w2 ⟨rfl,hb2⟩;have hV2:=hV.below hb2)
       | (go_at_call 168;refine(CM.out _ _ _ _ hV2).mono ?_;rintro e w3 ⟨rfl,hb3⟩;have Yy:=hV2.below hb3)
       | (go_at_call 169;refine(CN.out _ _ _ _ Yy).mono ?_;rintro e w4 ⟨rfl,hb4⟩))
      go_ret3
      exact JX HE.out (by decide) (((hb1.trans (hb2.mono hb1.size)).trans (hb3.mono (zV hb1.size hb2.size))).trans (hb4.mono (zV (zV hb1.size hb2.size) hb3.size)))
     |true=>
      have HE:Hid (ES s=(match FD (AM L) L with
       |some a=>(5,(a:Int))
       |none=>(0,0):Int × Int)):=hid (by rw[Nf.out,hn];rfl)
      clear Nf;have CN:Hid (∀v pv B W,Bv W B v L pv->Calls Tryz.prog 169 #[v] W λe w'=>e=.returned (.bool true)/\Below W.heap.size W w'):=hid λv pv B W hV=>by
       have:=QZ v L pv B W hV Bq.out.len;rw[hn]at this;exact this
      clear hn;cases hu:FD (AM L) L with
      |some a=>
       have Ba:Hid (ES s=(5,(a:Int))):=hid (by rw[HE.out,hu]);have CU:Hid (∀v pv B W,Bv W B v L pv->Calls Tryz.prog 170 #[v] W λe w'=>e=.returned (.tuple #[ab a,.bool true])/\Below W.heap.size W w'):=hid λv pv B W hV=>by
        have:=RN v L pv B W hV Bq.out;rw[hu]at this;exact this
       clear hu HE
       go_enter Tryz.func113,Tryz.ntmps113
       go_wp2_with (first
        | (go_at_call 166;refine CL.out.mono ?_;rintro e w1 ⟨v,pv,rfl,hV,hb1⟩)
        | (go_at_call 167;refine(CT.out _ _ _ _ hV).mono ?_;rintro e w2 ⟨rfl,hb2⟩;have hV2:=hV.below hb2)
        | (go_at_call 168;refine(CM.out _ _ _ _ hV2).mono ?_;rintro e w3 ⟨rfl,hb3⟩;have Yy:=hV2.below hb3)
        | (go_at_call 169;refine(CN.out _ _ _ _ Yy).mono ?_;rintro e w4 ⟨rfl,hb4⟩;have hV4:=Yy.below hb4)
        | (go_at_call 170;refine(CU.out _ _ _ _ hV4).mono ?_;rintro e w5 ⟨rfl,zP⟩))
       go_ret3
       exact JX Ba.out (by decide) ((((hb1.trans (hb2.mono hb1.size)).trans (hb3.mono (zV hb1.size hb2.size))).trans (hb4.mono (zV (zV hb1.size hb2.size) hb3.size))).trans (zP.mono (zV (zV (zV hb1.size hb2.size) hb3.size) hb4.size)))
      |none=>
       have Ba:Hid (ES s=(0,0)):=hid (by rw[HE.out,hu]);have CU:Hid (∀v pv B W,Bv W B v L pv->Calls Tryz.prog 170 #[v] W λe w'=>e=.returned (.tuple #[ab 0,.bool false])/\Below W.heap.size W w'):=hid λv pv B W hV=>by
        have:=RN v L pv B W hV Bq.out;rw[hu]at this;exact this
       clear hu HE
       go_enter Tryz.func113,Tryz.ntmps113
       go_wp2_with (first
        | (go_at_call 166;refine CL.out.mono ?_;rintro e w1 ⟨v,pv,rfl,hV,hb1⟩)
        | (go_at_call 167;refine(CT.out _ _ _ _ hV).mono ?_;rintro e w2 ⟨rfl,hb2⟩;have hV2:=hV.below hb2)
        | (go_at_call 168;refine(CM.out _ _ _ _ hV2).mono ?_;rintro e w3 ⟨rfl,hb3⟩;have Yy:=hV2.below hb3)
        | (go_at_call 169;refine(CN.out _ _ _ _ Yy).mono ?_;rintro e w4 ⟨rfl,hb4⟩;have hV4:=Yy.below hb4)
        | (go_at_call 170;refine(CU.out _ _ _ _ hV4).mono ?_;rintro e w5 ⟨rfl,zP⟩))
       go_ret3
       exact oF Ba.out (HLk.out) (hV4.below zP) ((((hb1.trans (hb2.mono hb1.size)).trans (hb3.mono (zV hb1.size hb2.size))).trans (hb4.mono (zV (zV hb1.size hb2.size) hb3.size))).trans (zP.mono (zV (zV (zV hb1.size hb2.size) hb3.size) hb4.size)))
theorem PA (s:ByteArray):∀(f a:Nat) (x:Nat × List ByteArray),x∈(JM s f a).1->(∃a',x.2=AF (C3 s a').1)/\AX x.2=true
 |0,a,x,h=>by simp[JM]at h
 |f+1,a,x,h=>by
  unfold JM at h;split at h
  ·split at h
   ·simp at h
   ·rename_i hb
    simp only[bk]at h
    rcases h with h |h
    ·subst h
     refine⟨⟨a,rfl⟩,?_⟩;cases hq:AX (AF (C3 s a).1)with
     |true=>rfl
     |false=>exact absurd (.inr hq) hb
    ·exact PA s f _ x h
  ·simp at h
theorem dV (s:ByteArray):∀(f a:Nat),(JM s f a).1.length<=s.size - a
 |0,a=>by simp[JM]
 |f+1,a=>by
  unfold JM;split
  ·split
   ·simp
   ·rename_i h1 hb
    have h0:¬(C3 s a).2=0:=λe=>hb (.inl e)
    have h2:=K6 h0;have h3:=dV s f (C3 s a).2.toNat;simp only[lC];omega
  ·simp
theorem LB  (h:AX l=true) (h1:¬l.length=1):
  (AZ l=0/\l.length=4/\DZ (nth l 1)=true)\/(AZ l=1/\l.length=4/\DZ (nth l 1)=true/\DZ (nth l 2)=true)\/(AZ l=2/\3<=l.length/\I1 (nth l 1)=true/\(l.drop 3).all NL=true):=by
 unfold AX at h;rw[aq h1]at h;unfold AZ;cases ht:((nth l 0).toList== [116,111,107,101,110])
 ·cases hw:((nth l 0).toList== [115,119,97,112])
  ·cases hr:((nth l 0).toList== [114,117,108,101])
   ·rw[ht,hw,hr]at h;simp at h
   ·rw[ht,hw,hr]at h
    simp only[qi,yj,xZ,D7,O2,gz,ir]at h;exact .inr (.inr ⟨rfl,h.1.1,h.1.2.1,h.2⟩)
  ·rw[ht,hw]at h
   simp only[qi,yj,xZ,C0,gz,ir]at h;exact .inr (.inl ⟨rfl,h.1,h.2.1,h.2.2.1⟩)
 ·rw[ht]at h
  simp only[xZ,DF,gz,ir]at h;exact .inl ⟨rfl,h.1,h.2.1⟩
theorem kJ  (h:u∈l):∃j,u=nth l j:=by
 obtain⟨j,hj,rfl⟩:=jv.1 h;exact⟨j,by unfold nth;simp[gE hj]⟩
theorem cY (s:ByteArray) (hs:s.size<=4000):LN (AK (AL s 0).1):=by
 have key:∀y∈AK (AL s 0).1,(∃a',y.2.2=AF (C3 s a').1)/\AX y.2.2=true/\¬y.2.2.length=1/\y.2.1=AZ y.2.2:=by
  intro y hy;unfold AK at hy;rw[dm]at hy;obtain⟨x,hx,rfl⟩:=hy;rw[ni]at hx;have h1:=PA s _ _ x hx.1;exact⟨h1.1,h1.2,kg hx.2,rfl⟩
 have hsz:∀y∈AK (AL s 0).1,∀j,(nth y.2.2 j).size<=4000:=by
  intro y hy j;obtain⟨a',ha⟩:=(key y hy).1;rw[ha];exact zV (zV (SZ _ j) (WB s a')) hs
 have hmem:∀y∈AK (AL s 0).1,∀u∈y.2.2,u.size<=4000:=by
  intro y hy u hu;obtain⟨j,rfl⟩:=kJ hu;exact hsz y hy j
 refine⟨?_,λy hy=>?_,λy hy=>?_,λy hy=>?_,λy hy u hu=>?_⟩
 ·unfold AK
  rw[lM];refine zV (qy _ _) ?_;have:=dV s (s.size - 0) 0;unfold AL;omega
 ·obtain⟨⟨a',ha⟩,h2,h3,h4⟩:=key y hy
  have h5:=VI (C3 s a').1;have h6:=WB s a';rw[<-ha]at h5;refine⟨?_,by omega⟩
  rcases LB h2 h3 with h |h |h
  ·omega
  ·omega
  ·exact h.2.1
 ·obtain⟨_,h2,h3,h4⟩:=key y hy
  rcases LB h2 h3 with h |h |h <;> omega
 ·unfold BI
  split
  ·exact dh _
  ·exact hsz y hy 1
 ·unfold I3 at hu
  split at hu
  ·simp at hu
   rcases hu with rfl |rfl
   ·exact hsz y hy 1
   ·exact hsz y hy 2
  ·split at hu
   ·rw[PZ,ni]at hu
    exact hmem y hy u (yl hu.1)
   ·simp at hu
theorem PO (rs:List (List ByteArray)) (r:List ByteArray):EA (rs++ [r])=max (EA rs) r.length:=by
 unfold EA;rw[ux];rfl
theorem U9 (R:List (ByteArray × List ByteArray)) (nm:ByteArray):∀(l:List ByteArray) (done:List (List ByteArray)) (cur:List ByteArray),
  l.foldl (SQ nm) (R++done.map (λr=>(nm,r)),cur,decide (8<EA (done++ [cur])))=
   (R++(l.foldl DO (done,cur)).1.map (λr=>(nm,r)),(l.foldl DO (done,cur)).2,decide (8<EA ((l.foldl DO (done,cur)).1++ [(l.foldl DO (done,cur)).2])))
 | [],done,cur=>rfl
 |x::l,done,cur=>by
  rw[lz,lz]
  by_cases hb:IL x=true
  ·have e1:SQ nm (R++done.map (λr=>(nm,r)),cur,decide (8<EA (done++ [cur]))) x=(R++(done++ [cur]).map (λr=>(nm,r)),[],decide (8<EA (done++ [cur]++ [[]]))):=by
    unfold SQ;rw[ay hb,PO (done++ [cur]) []];simp
   have e2:DO (done,cur) x=(done++ [cur],[]):=by unfold DO;rw[ay hb]
   rw[e1,e2];exact U9 R nm l (done++ [cur]) []
  ·have e1:SQ nm (R++done.map (λr=>(nm,r)),cur,decide (8<EA (done++ [cur]))) x=(R++done.map (λr=>(nm,r)),cur++ [x],decide (8<EA (done++ [cur++ [x]]))):=by
    unfold SQ;rw[aq hb,PO,PO];simp only[Prod.mk.injEq,true_and];rw[ow];simp only[oq,ir,lA,lC,jd];omega
   have e2:DO (done,cur) x=(done,cur++ [x]):=by unfold DO;rw[aq hb]
   rw[e1,e2];exact U9 R nm l done (cur++ [x])
theorem ZF (R:List (ByteArray × List ByteArray)) (nm:ByteArray) (l:List ByteArray):
  (Pb R nm (l.drop 3)).1++ [(nm,(Pb R nm (l.drop 3)).2.1)]=R++(AE l).map (λr=>(nm,r))/\(Pb R nm (l.drop 3)).2.2=decide (8<EA (AE l)):=by
 have h:=U9 R nm (l.drop 3) [] [];have h0:decide (8<EA (([]:List (List ByteArray))++ [[]]))=false:=rfl;rw[h0]at h;simp only[um,fy]at h;unfold Pb AE Ge;rw[h];exact⟨by simp,rfl⟩
theorem OT (ws:List ByteArray) (u:ByteArray):(0<cnt ws u)↔(ws.any λx=>x.toList==u.toList)=true:=by
 unfold cnt;rw[List.length_pos_iff_exists_mem,qb];constructor
 ·rintro⟨y,hy⟩
  rw[ni]at hy;exact⟨y,hy.1,by rw[jl,jl];exact kr.2 (kg hy.2)⟩
 ·rintro⟨y,hy,h⟩
  rw[jl,jl,kr]at h;exact⟨y,ni.2 ⟨hy,iz h⟩⟩
theorem R9 {v:ByteArray} (hu:DZ u=true) (hv:I1 v=true):(v.toList==u.toList)=false:=by
 rw[jl,jl,mh];intro e;unfold DZ JG at hu;unfold I1 JG at hv;rw[e]at hv;simp only[gz,ir]at hu hv;obtain⟨x,hx⟩:=List.exists_mem_of_length_pos (show 0<u.data.toList.length by omega);have h1:=hu.2.2;have h2:=hv.2.2;unfold DP at h1 h2;rw[oh]at h1 h2;have h3:=h1 x hx;have h4:=h2 x hx;simp only[gz,ir]at h3 h4;omega
theorem SG {lo hi n:Int} (h:JG u.data.toList lo hi n=true):u.toList.isEmpty=false:=by
 rw[jl];unfold JG at h;simp only[gz,ir]at h;cases hl:u.data.toList with
 |nil=>rw[hl]at h;simp at h
 |cons x r=>rfl
structure Inv (G:Gr) (ws:List ByteArray) (t n r:Nat):Prop where
 has:∀u,(DC G.toks u=true\/D0 G.names u=true)↔0<cnt ws u
 low:∀x∈G.toks,DZ x.1=true
 upp:∀x∈G.names,I1 x=true
 nt:G.toks.length=t
 nn:G.names.length=n
 nr:G.rules.length=r
theorem iH (ws:List ByteArray) (w u:ByteArray):0<cnt (ws++ [w]) u↔(0<cnt ws u\/(w.toList==u.toList)=true):=by
 rw[OT,OT,yS,oq];simp
theorem l8 (T:List (ByteArray × Int × Int)) (x:ByteArray × Int × Int) (u:ByteArray):DC (T++ [x]) u=true↔(DC T u=true\/(x.1.toList==u.toList)=true):=by
 unfold DC;rw[yS,oq];simp
theorem iV (T:List ByteArray) (x:ByteArray) (u:ByteArray):D0 (T++ [x]) u=true↔(D0 T u=true\/(x.toList==u.toList)=true):=by
 unfold D0;rw[yS,oq];simp
theorem Inv.aaW  (h:Inv G ws t n r)  (hu:DZ u=true):D0 G.names u=false:=by
 unfold D0;rw[uy];intro x hx;rw[R9 hu (h.upp x hx)]
 decide
theorem Inv.aik  (h:Inv G ws t n r)  (hu:I1 u=true):DC G.toks u=false:=by
 unfold DC;rw[uy];intro x hx;have h1:=R9 (h.low x hx) hu;rw[mh]at h1;simp only[kr];exact λe=>h1 e.symm
theorem aI  (h:Inv G ws t n r)  (h0:((nth l 0).toList== [116,111,107,101,110])=true) (ht:DZ (nth l 1)=true):
  (0<cnt ws (nth l 1)/\(DI G l).2=3)\/
  (¬0<cnt ws (nth l 1)/\Inv (DI G l).1 (ws++ [nth l 1]) (t+1) n r/\(DI G l).2=if 20<t+1\/20<n\/60<r\/8<0 then 4 else 0):=by
 unfold DI;rw[ay h0];have hno:=h.aaW ht;cases hq:DC G.toks (nth l 1)
 ·right
  have hc:¬0<cnt ws (nth l 1):=by
   rw[<-h.has,hq,hno];simp
  refine⟨hc,?_,?_⟩
  ·rw[aq (by simp)]
   refine⟨λu=>?_,λx hx=>?_,h.upp,by simp[h.nt],h.nn,h.nr⟩
   ·rw[iH,<-h.has,l8]
    constructor
    ·rintro((h1 |h1) |h1)
     ·exact .inl (.inl h1)
     ·exact .inr h1
     ·exact .inl (.inr h1)
    ·rintro((h1 |h1) |h1)
     ·exact .inl (.inl h1)
     ·exact .inr h1
     ·exact .inl (.inr h1)
   ·rw[ig]at hx
    rcases hx with hx |hx
    ·exact h.low x hx
    ·simp at hx;subst hx;exact ht
  ·rw[aq (by simp)]
   unfold QY;simp only[lA,lC,jd,h.nt,h.nn,h.nr,qi,yj]
   by_cases hx:20<t+1\/20<n\/60<r
   ·rw[ay (by omega),ay (by omega)]
   ·rw[aq (by omega),aq (by omega)]
 ·left
  exact⟨(h.has _).1 (.inl hq),by rw[ay rfl]⟩
theorem YT  (h:Inv G ws t n r)  (h0:((nth l 0).toList== [116,111,107,101,110])=false) (hw:((nth l 0).toList== [115,119,97,112])=true):
  Inv (DI G l).1 ws t n r/\(DI G l).2=if 20<t\/20<n\/60<r\/8<0 then 4 else 0:=by
 unfold DI;rw[aq Tt,ay hw];refine⟨⟨h.has,h.low,h.upp,h.nt,h.nn,h.nr⟩,?_⟩;unfold QY;simp only[h.nt,h.nn,h.nr,qi,yj]
 by_cases hx:20<t\/20<n\/60<r
 ·rw[ay hx,ay (by omega)]
 ·rw[aq hx,aq (by omega)]
theorem ZH  (h:Inv G ws t n r)  (h0:((nth l 0).toList== [116,111,107,101,110])=false) (hw:((nth l 0).toList== [115,119,97,112])=false)
  (hr:((nth l 0).toList== [114,117,108,101])=true) (ht:I1 (nth l 1)=true):
  (0<cnt ws (nth l 1)/\(DI G l).2=3)\/
  (¬0<cnt ws (nth l 1)/\Inv (DI G l).1 (ws++ [nth l 1]) t (n+1) (r+(AE l).length)/\(DI G l).2=if 20<t\/20<n+1\/60<r+(AE l).length\/8<EA (AE l)then 4 else 0):=by
 have hR:=ZF G.rules (nth l 1) l;unfold DI;rw[aq Tt,aq (by simp[hw]),ay hr];have hno:=h.aik ht;cases hq:D0 G.names (nth l 1)
 ·right
  have hc:¬0<cnt ws (nth l 1):=by
   rw[<-h.has,hq,hno];simp
  refine⟨hc,?_,?_⟩
  ·rw[aq (by simp)]
   refine⟨λu=>?_,h.low,λx hx=>?_,h.nt,by simp[h.nn],?_⟩
   ·rw[iH,<-h.has,iV]
    constructor
    ·rintro(h1 | (h1 |h1))
     ·exact .inl (.inl h1)
     ·exact .inl (.inr h1)
     ·exact .inr h1
    ·rintro((h1 |h1) |h1)
     ·exact .inl h1
     ·exact .inr (.inl h1)
     ·exact .inr (.inr h1)
   ·rw[ig]at hx
    rcases hx with hx |hx
    ·exact h.upp x hx
    ·simp at hx;subst hx;exact ht
   ·show((Pb G.rules (nth l 1) (l.drop 3)).1++ [(nth l 1,(Pb G.rules (nth l 1) (l.drop 3)).2.1)]).length=_
    rw[hR.1];simp[h.nr]
  ·rw[aq (by simp)]
   unfold QY;rw[hR.2];simp only[hR.1];simp only[lA,lC,jd,lM,h.nt,h.nn,h.nr]
   by_cases hx:20<t\/20<n+1\/60<r+(AE l).length
   ·rw[ay (by omega),ay (by omega)]
   ·rw[aq (by omega)]
    by_cases hy:8<EA (AE l)
    ·rw[ay (iz hy),ay (by omega)]
    ·rw[aq (by simp[hy]),aq (by omega)]
 ·left
  exact⟨(h.has _).1 (.inr hq),by rw[ay rfl]⟩
theorem VZ  (h:Inv G ws t n r)  (hl:AX l=true) (h1:l.length=1):
  (DI G l).1=G/\(DI G l).2=if 20<t\/20<n\/60<r then 4 else 0:=by
 unfold AX at hl;rw[ay h1]at hl;have e:(nth l 0).toList=[]:=by simpa using hl
 unfold DI;rw[e];rw[aq (by decide),aq (by decide),aq (by decide)];refine⟨rfl,?_⟩;unfold QY;simp only[h.nt,h.nn,h.nr,qi,yj]
end Go.Proofs.YtjjggdcnpndgjaaGreatDoor
