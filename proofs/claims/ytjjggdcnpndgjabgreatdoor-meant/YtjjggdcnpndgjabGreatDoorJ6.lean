import Derived.Test.YtjjggdcnpndgjabGreatDoorJ5
set_option linter.unusedSimpArgs false
set_option maxHeartbeats 1000000
set_option maxRecDepth 100000
namespace Go.Proofs.YtjjggdcnpndgjabGreatDoor
open Go.RowKit
variable {G:Gr}{l ws:List ByteArray}{n r t:Nat}{u:ByteArray}
section
open Go.RowKit Go.WideMaps Go.Maps
def AH (ls:List Ln):List ByteArray:=(ls.map fun x=>BC x.2.1 x.2.2).filter fun s=> !s.toList.isEmpty
def ES (ws:List ByteArray) (x:Ln):Bool:=(x.2.1==1&&((nth x.2.2 1).toList==(nth x.2.2 2).toList))||(GM x.2.1 x.2.2).any fun u=>cnt ws u==0
def EY (ws:List ByteArray):List Ln->Option Nat
 | []=>none
 |x::r=>if ES ws x then some x.1 else EY ws r
theorem tH {ls:List Ln}{k:Nat}{x:Ln} (hx:ls[k]?=some x) (ws:List ByteArray):EY ws (ls.drop k)=if ES ws x then some x.1 else EY ws (ls.drop (k+1)):=by
 obtain⟨hk,e⟩:=gS_.1 hx;rw[List.drop_eq_getElem_cons hk,e];rfl
theorem eJ {ls:List Ln}{k:Nat}{x:Ln} (hx:ls[k]?=some x):AH (ls.take (k+1))=AH (ls.take k)++if(BC x.2.1 x.2.2).toList.isEmpty then []else [BC x.2.1 x.2.2]:=by
 obtain⟨hk,e⟩:=gS_.1 hx;unfold AH;rw[List.take_succ_eq_append_getElem hk,e,List.map_append,List.filter_append];cases h:(BC x.2.1 x.2.2).toList.isEmpty <;> simp[h]
theorem jD (ls:List Ln) (k:Nat):(AH (ls.take k)).length<=k:=by
 unfold AH;refine lT_ (List.length_filter_le _ _) ?_;simp;omega
theorem pS (a sh:Nat) (p:Value) (l:List ByteArray) (w:World) (hW:EH w p l) (hsh:sh<=2) (hl:3<=l.length) (hll:l.length<=4001):
  Calls Tryz.prog 121 #[.agg #[ab a,ab sh,p]] w fun e w'=>∃v,e=.returned v/\RT w' v (GM sh l)/\Below w.heap.size w w':=by
 have h':sh=0\/sh=1\/sh=2:=by omega
 rcases h' with rfl |rfl |rfl
 ·exact pK a p l w hW
 ·exact nU a p l w hW hl hll
 ·exact nP a p l w hW hl hll
theorem IL (w:World) (n:Nat):Below w.heap.size w (w.drewN n):=⟨rfl,rfl,rfl,lR_ _,fun _ _=>rfl⟩
theorem pX (sh:Nat) (l:List ByteArray) (h3:3<=l.length) (hll:l.length<=4001):(GM sh l).length<=4001:=by
 unfold GM;split
 ·simp
 ·split
  ·have h1:=LF l (A9 l).length
   rw[List.take_length]at h1;omega
  ·simp
structure LC (ls:List Ln):Prop where
 len:ls.length<=4000
 ok:∀x∈ls,UJ x
 sh:∀x∈ls,x.2.1<=2
 gsz:∀x∈ls,(BC x.2.1 x.2.2).size<=4000
 usz:∀x∈ls,∀u∈GM x.2.1 x.2.2,u.size<=4000
theorem Mz7 {P:Prop} (h:P:=by
  clear HLU0;go_wp2
  go_quiet (fail)
  rcases Nat.eq_zero_or_pos un with hu0 |hup
  ·have hus0:us=[]:=List.eq_nil_of_length_eq_zero (HUN.out.trans hu0)
   have HE:Hid (EY (AH ls) ls=EY (AH ls) (ls.drop (q+1))):=hid (by rw[HT.out,if_neg];rw[HLU.out,hus0];simp);subst hu0;clear hus0
   go_wp2_with (first | (go_at_call 121;refine(CU.out _ (HA1.out.trans ((IL _ _).mono HA1.out.size))).mono ?_;rintro e w2 ⟨⟨adu,capu,rfl,_⟩,hb2⟩))
   have HB2:Hid (Below W1.heap.size W1 w2):=hid (hbi.out.trans ((HA1.out.trans (((IL _ _).trans hb2).mono HA1.out.size)).mono hbi.out.size));clear hb2
   go_loopw [53] (fun i wj=>i=ab 0/\Hid (Below W1.heap.size W1 wj)) (fun i _=>0)
   case atStart=>exact⟨rfl,HB2⟩
   case round=>
    obtain⟨rfl,hbj⟩:=hrel;go_wp2
    go_roundw
    case rel=>exact⟨q+1,by omega,by go_num,HE,hbj⟩
    case measure=>simp[intOf];omega
  ·go_wp2_with (first | (go_at_call 121;refine(CU.out _ (HA1.out.trans ((IL _ _).mono HA1.out.size))).mono ?_;rintro e w2 ⟨⟨adu,capu,rfl,hst⟩,hb2⟩))
   obtain⟨gu,ou,rfl,hstr,hcu⟩:=hst hup;have hbA:Below wr.heap.size wr w2:=HA1.out.trans (((IL _ _).trans hb2).mono HA1.out.size);have HB2:Hid (Below W1.heap.size W1 w2):=hid (hbi.out.trans (hbA.mono hbi.out.size));have q2:w2.cell? (af wr.heap.size 0)=some (ab at_):=(hb2.cell (by simp)).trans (by
    show(wr.alloc _).cell? _=_;rw[A0 (heap_alloc_new wr _)];rfl)
   obtain⟨bl,hbl⟩:=qE (wr.heap.size);rw[hbl]at q2;have HQ2:=hid q2;have hbl2:bl<w2.heap.size:=LO q2;have HSTR:=hid hstr;rw[hbl];clear hstr hbA hb2 hst q2
   go_loopw [53] (fun i wj=>∃j:Nat,j<=un/\i=ab j/\Hid (∀t,t<j->(cnt (AH ls) (nth us t)==0)=false)/\Hid (Below w2.heap.size w2 wj)) (fun i _=>un - (intOf i).toNat)
   case atStart=>exact⟨0,by omega,rfl,hid (fun t h=>by omega),Below.refl _ _⟩
   case round=>
    obtain⟨j,hj,rfl,hno,hbj⟩:=hrel;have HBj:Hid (Below W1.heap.size W1 wr):=hid (HB2.out.trans (hbj.out.mono HB2.out.size))
    by_cases hlj:j<un
    ·have cu:wr.cell? (af gu (ou+j))=some (.string (nth us j)):=(HSTR.out.later hbj.out).2 j (by rw[HUN.out];exact hlj)
     have hmem:nth us j∈us:=by
      unfold nth;rw[gD_,gE (by rw[HUN.out];exact hlj)];exact List.getElem_mem _
     have hus4:=HUZ.out _ hmem;obtain⟨u,hu⟩:=qE (nth us j);rw[hu]at cu hus4;have HU:Hid (nth us j=u):=hid hu;have HMem:Hid (nth us j∈us):=hid hmem;obtain⟨D,hown,_,hcount⟩:=HMW.out.below HBj.out;have hkey:keyOf Tryz.prog 9 (.string u)=some (.string u.data.toList):=keyOf_string_mk Tryz.underlying9 y3Z;obtain⟨c,hrun,hat,_⟩:=hown.lookup_int Tryz.lawStr Tryz.underlying225 Tryz.underlying3 (Tryz.zeroInt _) hkey;obtain⟨cc,hcc⟩:=qE (cnt (AH ls) u);obtain rfl:c=(cc:Int):=L9 (hat.symm.trans (by rw[hcount u,hcc]));have HCC:Hid (cnt (AH ls) u=cc):=hid hcc;clear hu hmem hcount hkey hat hcc hown;have q3:wr.cell? (af bl 0)=some (ab at_):=(hbj.out.cell (by exact hbl2)).trans HQ2.out;cases hz:((cc:Int)==0)
     ·have HN2:=hid (ET hno.out (show(cnt (AH ls) (nth us j)==0)=false by rw[HU.out,HCC.out];simp at hz ⊢;omega))
      go_wp2
      go_roundw
      case rel=>exact⟨j+1,by omega,by go_num,HN2,hbj⟩
      case measure=>simp[intOf];omega
     ·have HE:Hid (EY (AH ls) ls=some at_):=hid (by
       rw[HT.out,if_pos];rw[HLU.out,List.any_eq_true];exact⟨_,HMem.out,by rw[HU.out,HCC.out];simp at hz ⊢;omega⟩)
      go_wp2
      go_ret2
      exact⟨by rw[HE.out];rfl,hbr.out.trans (HBj.out.mono hsz)⟩
    ·have HE:Hid (EY (AH ls) ls=EY (AH ls) (ls.drop (q+1))):=hid (by
      rw[HT.out,if_neg];rw[HLU.out,Bool.not_eq_true,List.any_eq_false];intro y hy;obtain⟨t,ht,rfl⟩:=List.mem_iff_getElem.1 hy;have h1:=hno.out t (by have:=HUN.out;omega);unfold nth at h1;rw[gD_,gE ht]at h1;simpa using h1)
     go_wp2
     go_roundw
     case rel=>exact⟨q+1,by omega,by go_num,HE,HBj⟩
     case measure=>simp[intOf];omega):P:=h
theorem R5 (v:Value) (ls:List Ln) (pv:List Value) (B:Nat) (w:World) (hV:LnV w B v ls pv) (hok:LC ls):
  Calls Tryz.prog 96 #[v] w fun e w'=>e=.returned (cH (EY (AH ls) ls))/\Below w.heap.size w w':=by
 have hmm:= @run_makeMap Tryz.prog
 rcases hV.form with⟨rfl,rfl⟩ | ⟨g,cap,rfl,hnc,hg⟩
 ·clear hV
  have HB:Hid (Below w.heap.size w (w.alloc (.map #[] 0))):=hid ((Below.refl _ _).alloc (lR_ _) _)
  go_enter Tryz.func96,Tryz.ntmps96
  go_wp2
  go_loopw [15] (fun i wr=>i=ab 0/\Hid (Below w.heap.size w wr)) (fun i _=>0)
  case atStart=>exact⟨rfl,HB⟩
  case round=>
   obtain⟨rfl,hbr⟩:=hrel;go_wp2
   go_loopw [30] (fun i wr=>i=ab 0/\Hid (Below w.heap.size w wr)) (fun i _=>0)
   case atStart=>exact⟨rfl,hbr⟩
   case round=>
    obtain⟨rfl,hbr2⟩:=hrel;go_wp2
    go_ret2
    exact⟨rfl,hbr2.out⟩
 ·obtain⟨n,hN⟩:=qF (ls.length)
  have hn:n<=4000:=by have:=hok.len;omega
  rw[<-hN]at hnc hV ⊢;have HN:Hid (n=ls.length):=hid hN;have HV:=hid hV;have HOK:=hid hok;have HB:Hid (Below w.heap.size w (w.alloc (.map #[] 0))):=hid ((Below.refl _ _).alloc (lR_ _) _);have HM:Hid (K9 (w.alloc (.map #[] 0)) w.heap.size 0 []):=hid ⟨_,World.ownsMap_made _ _ _ _,isMap_empty,fun s=>rfl⟩;clear hN hV hok
  go_enter Tryz.func96,Tryz.ntmps96
  go_wp2;clear hmm
  go_loopw [15] (fun i wr=>∃k:Nat,k<=n/\i=ab k/\Hid (K9 wr w.heap.size k (AH (ls.take k)))/\Hid (Below w.heap.size w wr)) (fun i _=>n - (intOf i).toNat)
  case atStart=>exact⟨0,by omega,rfl,HM,HB⟩
  case round=>
   clear HM HB;obtain⟨k,hk,rfl,hm,hbr⟩:=hrel;have hsz:=hbr.out.size
   by_cases hlt:k<n
   ·obtain⟨x,hx⟩:∃x,ls[k]?=some x:=⟨_,gE y8Z⟩
    have hxok:=HOK.out.ok x (mG hx);have hxs:=HOK.out.gsz x (mG hx);have hT:=eJ hx;obtain⟨p,hp,hWV,k0,k1,k2⟩:=(HV.out.below hbr.out).at hx;obtain⟨at_,sh,l⟩:=x;simp only at k0 k1 k2 hT hWV hxs;have hgr:g<wr.heap.size:=lL hg hsz;have HWV:=hid hWV;obtain⟨gw,m,mc,ad,cs,rfl,_⟩:=hWV;have HB1:Hid (Below w.heap.size w (wr.alloc (.cells #[ab at_,ab sh,.slice ad m mc] 194))):=hid (hbr.out.alloc hsz _);have HA1:Hid (Below wr.heap.size wr (wr.alloc (.cells #[ab at_,ab sh,.slice ad m mc] 194))):=hid ((Below.refl _ _).alloc (lR_ _) _);obtain⟨wd,hwd⟩:=qE (BC sh l);have cG:=RF at_ sh (.slice ad m mc) l _ (HWV.out.below HA1.out) y50Z hxok.2;rw[hwd]at cG hT hxs;have CG:=hid cG;have HT:=hid hT;obtain⟨ws,hws⟩:=qE (AH (ls.take k));have hwl:ws.length<=k:=by rw[<-hws];exact jD ls k
    rw[hws]at hm HT;obtain⟨D,hown,hD,hcount⟩:=hm.out;have hkey:keyOf Tryz.prog 9 (.string wd)=some (.string wd.data.toList):=keyOf_string_mk Tryz.underlying9 y3Z;obtain⟨cc,hcc⟩:=qE (cnt ws wd);have hcc4:cc<=4000:=by have h1:=oD ws wd;omega
    have HC3:Hid (D.atKey (.string wd.data.toList) (.lit (.int .i64 0))=.lit (.int .i64 cc)):=hid (by rw[hcount wd,hcc]);have HD3:Hid (IsMap (D.put (.string wd.data.toList) (.lit (.int .i64 ((cc:Int)+1))))):=hid (hD.put _ _);have HC4:Hid (∀s:ByteArray,(D.put (.string wd.data.toList) (.lit (.int .i64 ((cc:Int)+1)))).atKey (.string s.data.toList) (.lit (.int .i64 0))=.lit (.int .i64 (cnt (ws++ [wd]) s))):=hid (by have:=UK hD hcount wd;rwa [hcc]at this);have HM:Hid (K9 wr w.heap.size k ws):=hm;have HOwn:=hid hown;have HKey:=hid hkey;have hk4:k<4000:=by omega
    clear hp hx hxok hT cG hwd hcount hD hown hm hkey hcc hws hwl;cases he:wd.toList.isEmpty
    ·have HE:Hid (AH (ls.take (k+1))=ws++ [wd]):=hid (by rw[HT.out,if_neg (by rw[he];decide)])
     clear HT HM
     go_wp2_with (first
      | (go_at_call 120;refine CG.out.mono ?_;rintro e w2 ⟨rfl,hb2⟩;have hown2:=J6 (J6 HOwn.out HA1.out) hb2;obtain⟨c,hrun,hat,_⟩:=hown2.lookup_int Tryz.lawStr Tryz.underlying225 Tryz.underlying3 (Tryz.zeroInt _) HKey.out;obtain rfl:c=(cc:Int):=L9 (hat.symm.trans HC3.out);clear hat)
      | (at_mapUpdate;refine wpList_mapUpdate_own _ rfl _ _ _ 225 rfl 9 3 Tryz.lawStr Tryz.underlying225 _ w.heap.size k _ rfl hown2 y3Z _ _ _ rfl rfl HKey.out _ [] (plainElem_int Tryz.underlying3 (WalkArith.wf_i64 (by omega))) ?_))
     intro w3 hown3 hgrow3;have hbw2:Below w.heap.size w w2:=HB1.out.trans (hb2.mono HB1.out.size);have HB3:Hid (Below w.heap.size w w3):=hid (hbw2.grown hgrow3 hbw2.size (fun j hj=>by cases hj;exact lR_ _));have HMV:Hid (K9 w3 w.heap.size (k+1) (AH (ls.take (k+1)))):=hid (by rw[HE.out];exact⟨_,hown3,HD3.out,HC4.out⟩);clear hown3 hgrow3 hown2 hrun hbw2 hb2;go_wp2
     go_roundw
     case rel=>exact⟨k+1,by omega,by go_num,HMV,HB3⟩
     case measure=>simp[intOf];omega
    ·have HE:Hid (AH (ls.take (k+1))=ws):=hid (by rw[HT.out,if_pos he,List.append_nil])
     go_wp2_with (first | (go_at_call 120;refine CG.out.mono ?_;rintro e w2 ⟨rfl,hb2⟩))
     have hbb:Below wr.heap.size wr w2:=HA1.out.trans (hb2.mono HA1.out.size);have HMV:Hid (K9 w2 w.heap.size (k+1) (AH (ls.take (k+1)))):=hid (by
      rw[HE.out];obtain⟨D',h1,h2⟩:=HM.out.below hbb;exact⟨D',h1.mono (by omega),h2⟩)
     have HB2:=hid (HB1.out.trans (hb2.mono HB1.out.size));clear hbb hb2
     go_roundw
     case rel=>exact⟨k+1,by omega,by go_num,HMV,HB2⟩
     case measure=>simp[intOf];omega
   ·have HMW:Hid (K9 wr w.heap.size k (AH ls)):=hid (by
     have h:=hm.out
     rwa [List.take_of_length_le y8Z]at h)
    clear hm;obtain⟨W1,hW1⟩:=qF (wr);subst hW1;go_wp2
    go_loopw [30] (fun i wi=>∃q:Nat,q<=n/\i=ab q/\Hid (EY (AH ls) ls=EY (AH ls) (ls.drop q))/\Hid (Below W1.heap.size W1 wi)) (fun i _=>n - (intOf i).toNat)
    case atStart=>exact⟨0,by omega,rfl,rfl,Below.refl _ _⟩
    case round=>
     obtain⟨q,hq,rfl,ht,hbi⟩:=hrel;have hbw:Below w.heap.size w wr:=hbr.out.trans (hbi.out.mono hsz);have hsz2:=hbw.size
     by_cases hlq:q<n
     ·obtain⟨x,hx⟩:∃x,ls[q]?=some x:=⟨_,gE y8Z⟩
      have hxok:=HOK.out.ok x (mG hx);have hxsh:=HOK.out.sh x (mG hx);have hxus:=HOK.out.usz x (mG hx);have hT:=tH hx (AH ls);obtain⟨p,hp,hWV,k0,k1,k2⟩:=(HV.out.below hbw).at hx;obtain⟨at_,sh,l⟩:=x;simp only at k0 k1 k2 hT hWV hxsh hxus;have hgr:g<wr.heap.size:=lL hg hsz2;have HWV:=hid hWV;obtain⟨gw,m,mc,ad,cs,rfl,e1,e2,e3,e4,e5,e6⟩:=hWV;have hl3:3<=l.length:=hxok.1;obtain rfl:ad=some (af gw 1):=e6 (by omega);have c1:wr.cell? (af gw 1)=some (.string (nth l 1)):=by rw[A0 e4];exact e5 1 (by omega)
      have c2:wr.cell? (af gw 2)=some (.string (nth l 2)):=by rw[A0 e4];exact e5 2 (by omega)
      have hgw:gw<wr.heap.size:=lt_of_block e4;have hm1:0<m:=by omega
      have hm2:1<m:=by omega
      have hm3:(0:Int)<m:=by omega
      have hm4:(1:Int)<m:=by omega
      have HA1:Hid (Below wr.heap.size wr (wr.alloc (.cells #[ab at_,ab sh,.slice (some (af gw 1)) m mc] 194))):=hid ((Below.refl _ _).alloc (lR_ _) _);obtain⟨us,hus⟩:=qE (GM sh l);obtain⟨un,hun⟩:=qE (us.length);have hun4:un<=4001:=by
       have h1:=pX sh l hxok.1 hxok.2;rw[hus,hun]at h1;exact h1
      have HUN:Hid (us.length=un):=hid hun;have HUZ:Hid (∀u∈us,u.size<=4000):=hid (by rw[<-hus];exact hxus);have CU:Hid (∀W,Below wr.heap.size wr W->Calls Tryz.prog 121 #[.agg #[ab at_,ab sh,.slice (some (af gw 1)) m mc]] W fun e w'=>
        (∃ad cap,e=.returned (.slice ad un cap)/\(0<un->∃g off,ad=some (af g off)/\DK w' g off us/\un<=cap))/\Below W.heap.size W w'):=hid fun W hW=>by
       refine(pS at_ sh _ l W (HWV.out.below hW) hxsh hxok.1 hxok.2).mono ?_;rintro e w' ⟨v,rfl,⟨ad,cap,rfl,h1,h2⟩,hb⟩;rw[hus,hun]at h1 h2 ⊢;exact⟨⟨ad,cap,rfl,fun h=>by obtain⟨g,off,h3,h4⟩:=h2 h;exact⟨g,off,h3,h4,h1⟩⟩,hb⟩
      have HT:=hid (ht.out.trans hT);have HLU0:Hid (ES (AH ls) (at_,sh,l)=((sh==1&&((nth l 1).toList==(nth l 2).toList))||us.any fun u=>cnt (AH ls) u==0)):=hid (by unfold ES;rw[hus]);clear hp hx hxok hT ht e1 e2 e3 e4 e5 e6 hus hun hxus hbw hl3;cases hs1:((sh:Int)==1)
      ·have HLU:Hid (ES (AH ls) (at_,sh,l)=us.any fun u=>cnt (AH ls) u==0):=hid (by
        rw[HLU0.out,show(sh==1)=false by simp at hs1 ⊢;omega];simp)
       exact Mz7
      ·cases he:((nth l 1).toList==(nth l 2).toList)
       ·have HLU:Hid (ES (AH ls) (at_,sh,l)=us.any fun u=>cnt (AH ls) u==0):=hid (by
         rw[HLU0.out,he];simp)
        exact Mz7
       ·have HE:Hid (EY (AH ls) ls=some at_):=hid (by
         rw[HT.out,if_pos];rw[HLU0.out,he,show(sh==1)=true by simp at hs1 ⊢;omega];rfl)
        go_wp2
        go_quiet (fail)
        go_wp2
        go_ret2
        exact⟨by rw[HE.out];rfl,hbr.out.trans ((hbi.out.trans ((HA1.out.trans ((IL _ _).mono HA1.out.size)).mono hbi.out.size)).mono hsz)⟩
     ·have HE:Hid (EY (AH ls) ls=none):=hid y44Z
      go_wp2
      go_ret2
      exact⟨by rw[HE.out];rfl,hbw⟩
end
def E8 (s:ByteArray):Int × Int:=
 if 4000<s.size then(1,0)
 else if(AG s 0).2<s.size then(2,((AG s 0).2:Nat))
 else match CQ (AF (AG s 0).1) []with
  |some a=>(3,(a:Int))
  |none=>match BZ (AF (AG s 0).1) 0 0 0 with
   |some a=>(4,(a:Int))
   |none=>if(AF (AG s 0).1).any (fun x=>x.2.1==2)then(match EY (AH (AF (AG s 0).1)) (AF (AG s 0).1)with
     |some a=>(5,(a:Int))
     |none=>(0,0))
    else(4,(s.size:Int))
def bB (s:ByteArray) (w:World) (e:Ending) (w':World):Prop:=
 ∃v,e=.returned (.tuple #[v,ab (E8 s).1,ab (E8 s).2])/\((E8 s).1=0->∃B pv,w.heap.size<=B/\LnV w' B v (AF (AG s 0).1) pv)/\Below w.heap.size w w'
theorem JK {s:ByteArray}{w w':World}{v:Value}{a b:Int} (h:E8 s=(a,b)) (ha:a≠0) (hb:Below w.heap.size w w'):bB s w (.returned (.tuple #[v,ab a,ab b])) w':=
 ⟨v,by rw[h],fun h0=>absurd (by rw[h]at h0;exact h0) ha,hb⟩
theorem mX {s:ByteArray}{w w':World}{v:Value}{pv:List Value}{L:List (Nat × Nat × List ByteArray)} (h:E8 s=(0,0)) (hL:AF (AG s 0).1=L) (hV:LnV w' w.heap.size v L pv) (hb:Below w.heap.size w w'):bB s w (.returned (.tuple #[v,ab 0,ab 0])) w':=
 ⟨v,by rw[h],fun _=>⟨_,pv,lR_ _,by rw[hL];exact hV⟩,hb⟩
theorem dX (s:ByteArray) (w:World) (hG:DS w) (hs:s.size<=9223372036854775807) (hok:s.size<=4000->LC (AF (AG s 0).1)):
  Calls Tryz.prog 59 #[.string s] w fun e w'=>bB s w e w':=by
 by_cases h1:4000<s.size
 ·have HE:Hid (E8 s=(1,0)):=hid (by unfold E8;rw[if_pos h1])
  have hi1:(4000:Int)<s.size:=by omega
  go_enter Tryz.func59,Tryz.ntmps59
  go_wp2
  go_ret3
  exact JK HE.out (by decide) (Below.refl _ _)
 ·have hi1:¬(4000:Int)<s.size:=by omega
  have hs4:s.size<=4000:=by omega
  have cL:=nJ s w hG hs4;have HOK:=hid (hok hs4);obtain⟨en,hen⟩:=qE ((AG s 0).2);obtain⟨L,hL⟩:=qE (AF (AG s 0).1);have HP:Hid (E8 s=(if en<s.size then(2,(en:Int))else match CQ L []with
   |some a=>(3,(a:Int))
   |none=>match BZ L 0 0 0 with
    |some a=>(4,(a:Int))
    |none=>if L.any (fun x=>x.2.1==2)then(match EY (AH L) L with
      |some a=>(5,(a:Int))
      |none=>(0,0))
     else(4,(s.size:Int)):Int × Int)):=hid (by unfold E8;rw[if_neg h1,hen,hL])
  rw[hen,hL]at cL;rw[hL]at HOK;have CL:=hid cL;have HLk:Hid (AF (AG s 0).1=L):=hid hL;clear cL hen hL hok hG
  by_cases h2:en<s.size
  ·have HE:Hid (E8 s=(2,(en:Int))):=hid (by rw[HP.out,if_pos h2])
   have hi2:(en:Int)<s.size:=by omega
   clear HP
   go_enter Tryz.func59,Tryz.ntmps59
   go_wp2_with (first | (go_at_call 92;refine CL.out.mono ?_;rintro e w1 ⟨v,pv,rfl,hV,hb1⟩))
   go_ret3
   exact JK HE.out (by decide) (hb1)
  ·have hi2:¬(en:Int)<s.size:=by omega
   have HP2:=hid (HP.out.trans (if_neg h2));clear HP;cases ht:CQ L []with
   |some a=>
    have HE:Hid (E8 s=(3,(a:Int))):=hid (by rw[HP2.out,ht]);clear HP2;have CT:Hid (∀v pv B W,LnV W B v L pv->Calls Tryz.prog 93 #[v] W fun e w'=>e=.returned (.tuple #[ab a,.bool true])/\Below W.heap.size W w'):=hid fun v pv B W hV=>by
     have:=YK v L pv B W hV HOK.out.len HOK.out.ok HOK.out.gsz;rw[ht]at this;exact this
    clear ht
    go_enter Tryz.func59,Tryz.ntmps59
    go_wp2_with (first
     | (go_at_call 92;refine CL.out.mono ?_;rintro e w1 ⟨v,pv,rfl,hV,hb1⟩)
     | (go_at_call 93;refine(CT.out _ _ _ _ hV).mono ?_;rintro e w2 ⟨rfl,hb2⟩))
    go_ret3
    exact JK HE.out (by decide) (hb1.trans (hb2.mono hb1.size))
   |none=>
    have HP3:=hid (HP2.out);rw[ht]at HP3;clear HP2;have CT:Hid (∀v pv B W,LnV W B v L pv->Calls Tryz.prog 93 #[v] W fun e w'=>e=.returned (.tuple #[ab 0,.bool false])/\Below W.heap.size W w'):=hid fun v pv B W hV=>by
     have:=YK v L pv B W hV HOK.out.len HOK.out.ok HOK.out.gsz;rw[ht]at this;exact this
    clear ht;cases hm:BZ L 0 0 0 with
    |some a=>
     have HE:Hid (E8 s=(4,(a:Int))):=hid (by rw[HP3.out,hm]);clear HP3;have CM:Hid (∀v pv B W,LnV W B v L pv->Calls Tryz.prog 94 #[v] W fun e w'=>e=.returned (.tuple #[ab a,.bool true])/\Below W.heap.size W w'):=hid fun v pv B W hV=>by
      have:=bD v L pv B W hV HOK.out.len HOK.out.ok;rw[hm]at this;exact this
     clear hm
     go_enter Tryz.func59,Tryz.ntmps59
     go_wp2_with (first
      | (go_at_call 92;refine CL.out.mono ?_;rintro e w1 ⟨v,pv,rfl,hV,hb1⟩)
      | (go_at_call 93;refine(CT.out _ _ _ _ hV).mono ?_;rintro e w2 ⟨rfl,hb2⟩;have hV2:=hV.below hb2)
      | (go_at_call 94;refine(CM.out _ _ _ _ hV2).mono ?_;rintro e w3 ⟨rfl,hb3⟩))
     go_ret3
     exact JK HE.out (by decide) ((hb1.trans (hb2.mono hb1.size)).trans (hb3.mono (lT_ hb1.size hb2.size)))
    |none=>
     rw[hm]at HP3;have CM:Hid (∀v pv B W,LnV W B v L pv->Calls Tryz.prog 94 #[v] W fun e w'=>e=.returned (.tuple #[ab 0,.bool false])/\Below W.heap.size W w'):=hid fun v pv B W hV=>by
      have:=bD v L pv B W hV HOK.out.len HOK.out.ok;rw[hm]at this;exact this
     clear hm;cases hn:L.any (fun x=>x.2.1==2)with
     |false=>
      have HE:Hid (E8 s=(4,(s.size:Int))):=hid (by rw[HP3.out,hn];rfl);clear HP3;have CN:Hid (∀v pv B W,LnV W B v L pv->Calls Tryz.prog 95 #[v] W fun e w'=>e=.returned (.bool false)/\Below W.heap.size W w'):=hid fun v pv B W hV=>by
       have:=RA v L pv B W hV HOK.out.len;rw[hn]at this;exact this
      clear hn
      go_enter Tryz.func59,Tryz.ntmps59
      go_wp2_with (first
       | (go_at_call 92;refine CL.out.mono ?_;rintro e w1 ⟨v,pv,rfl,hV,hb1⟩)
       | (go_at_call 93;refine(CT.out _ _ _ _ hV).mono ?_;rintro e w2 ⟨rfl,hb2⟩;have hV2:=hV.below hb2)
       | (go_at_call 94;refine(CM.out _ _ _ _ hV2).mono ?_;rintro e w3 ⟨rfl,hb3⟩;have hV3:=hV2.below hb3)
       | (go_at_call 95;refine(CN.out _ _ _ _ hV3).mono ?_;rintro e w4 ⟨rfl,hb4⟩))
      go_ret3
      exact JK HE.out (by decide) (((hb1.trans (hb2.mono hb1.size)).trans (hb3.mono (lT_ hb1.size hb2.size))).trans (hb4.mono (lT_ (lT_ hb1.size hb2.size) hb3.size)))
     |true=>
      have HE:Hid (E8 s=(match EY (AH L) L with
       |some a=>(5,(a:Int))
       |none=>(0,0):Int × Int)):=hid (by rw[HP3.out,hn];rfl)
      clear HP3;have CN:Hid (∀v pv B W,LnV W B v L pv->Calls Tryz.prog 95 #[v] W fun e w'=>e=.returned (.bool true)/\Below W.heap.size W w'):=hid fun v pv B W hV=>by
       have:=RA v L pv B W hV HOK.out.len;rw[hn]at this;exact this
      clear hn;cases hu:EY (AH L) L with
      |some a=>
       have HE2:Hid (E8 s=(5,(a:Int))):=hid (by rw[HE.out,hu]);have CU:Hid (∀v pv B W,LnV W B v L pv->Calls Tryz.prog 96 #[v] W fun e w'=>e=.returned (.tuple #[ab a,.bool true])/\Below W.heap.size W w'):=hid fun v pv B W hV=>by
        have:=R5 v L pv B W hV HOK.out;rw[hu]at this;exact this
       clear hu HE
       go_enter Tryz.func59,Tryz.ntmps59
       go_wp2_with (first
        | (go_at_call 92;refine CL.out.mono ?_;rintro e w1 ⟨v,pv,rfl,hV,hb1⟩)
        | (go_at_call 93;refine(CT.out _ _ _ _ hV).mono ?_;rintro e w2 ⟨rfl,hb2⟩;have hV2:=hV.below hb2)
        | (go_at_call 94;refine(CM.out _ _ _ _ hV2).mono ?_;rintro e w3 ⟨rfl,hb3⟩;have hV3:=hV2.below hb3)
        | (go_at_call 95;refine(CN.out _ _ _ _ hV3).mono ?_;rintro e w4 ⟨rfl,hb4⟩;have hV4:=hV3.below hb4)
        | (go_at_call 96;refine(CU.out _ _ _ _ hV4).mono ?_;rintro e w5 ⟨rfl,hb5⟩))
       go_ret3
       exact JK HE2.out (by decide) ((((hb1.trans (hb2.mono hb1.size)).trans (hb3.mono (lT_ hb1.size hb2.size))).trans (hb4.mono (lT_ (lT_ hb1.size hb2.size) hb3.size))).trans (hb5.mono (lT_ (lT_ (lT_ hb1.size hb2.size) hb3.size) hb4.size)))
      |none=>
       have HE2:Hid (E8 s=(0,0)):=hid (by rw[HE.out,hu]);have CU:Hid (∀v pv B W,LnV W B v L pv->Calls Tryz.prog 96 #[v] W fun e w'=>e=.returned (.tuple #[ab 0,.bool false])/\Below W.heap.size W w'):=hid fun v pv B W hV=>by
        have:=R5 v L pv B W hV HOK.out;rw[hu]at this;exact this
       clear hu HE
       go_enter Tryz.func59,Tryz.ntmps59
       go_wp2_with (first
        | (go_at_call 92;refine CL.out.mono ?_;rintro e w1 ⟨v,pv,rfl,hV,hb1⟩)
        | (go_at_call 93;refine(CT.out _ _ _ _ hV).mono ?_;rintro e w2 ⟨rfl,hb2⟩;have hV2:=hV.below hb2)
        | (go_at_call 94;refine(CM.out _ _ _ _ hV2).mono ?_;rintro e w3 ⟨rfl,hb3⟩;have hV3:=hV2.below hb3)
        | (go_at_call 95;refine(CN.out _ _ _ _ hV3).mono ?_;rintro e w4 ⟨rfl,hb4⟩;have hV4:=hV3.below hb4)
        | (go_at_call 96;refine(CU.out _ _ _ _ hV4).mono ?_;rintro e w5 ⟨rfl,hb5⟩))
       go_ret3
       exact mX HE2.out (HLk.out) (hV4.below hb5) ((((hb1.trans (hb2.mono hb1.size)).trans (hb3.mono (lT_ hb1.size hb2.size))).trans (hb4.mono (lT_ (lT_ hb1.size hb2.size) hb3.size))).trans (hb5.mono (lT_ (lT_ (lT_ hb1.size hb2.size) hb3.size) hb4.size)))
theorem PZ (s:ByteArray):∀(f a:Nat) (x:Nat × List ByteArray),x∈(JD s f a).1->(∃a',x.2=AA (BT s a').1)/\AR x.2=true
 |0,a,x,h=>by simp[JD]at h
 |f+1,a,x,h=>by
  unfold JD at h;split at h
  ·split at h
   ·simp at h
   ·rename_i hb
    simp only[List.mem_cons]at h
    rcases h with h |h
    ·subst h
     refine⟨⟨a,rfl⟩,?_⟩;cases hq:AR (AA (BT s a).1)with
     |true=>rfl
     |false=>exact absurd (.inr hq) hb
    ·exact PZ s f _ x h
  ·simp at h
theorem bA (s:ByteArray):∀(f a:Nat),(JD s f a).1.length<=s.size - a
 |0,a=>by simp[JD]
 |f+1,a=>by
  unfold JD;split
  ·split
   ·simp
   ·rename_i h1 hb
    have h0:¬(BT s a).2=0:=fun e=>hb (.inl e)
    have h2:=JZ h0;have h3:=bA s f (BT s a).2.toNat;simp only[lC];omega
  ·simp
theorem KP  (h:AR l=true) (h1:¬l.length=1):
  (AV l=0/\l.length=4/\DQ (nth l 1)=true)\/(AV l=1/\l.length=4/\DQ (nth l 1)=true/\DQ (nth l 2)=true)\/(AV l=2/\3<=l.length/\GO (nth l 1)=true/\(l.drop 3).all NH=true):=by
 unfold AR at h;rw[if_neg h1]at h;unfold AV;cases ht:((nth l 0).toList== [116,111,107,101,110])
 ·cases hw:((nth l 0).toList== [115,119,97,112])
  ·cases hr:((nth l 0).toList== [114,117,108,101])
   ·rw[ht,hw,hr]at h;simp at h
   ·rw[ht,hw,hr]at h
    simp only[Bool.false_eq_true,if_false,if_true,CY,NU,Bool.and_eq_true,decide_eq_true_eq]at h;exact .inr (.inr ⟨rfl,h.1.1,h.1.2.1,h.2⟩)
  ·rw[ht,hw]at h
   simp only[Bool.false_eq_true,if_false,if_true,BS,Bool.and_eq_true,decide_eq_true_eq]at h;exact .inr (.inl ⟨rfl,h.1,h.2.1,h.2.2.1⟩)
 ·rw[ht]at h
  simp only[if_true,D5,Bool.and_eq_true,decide_eq_true_eq]at h;exact .inl ⟨rfl,h.1,h.2.1⟩
theorem gO  (h:u∈l):∃j,u=nth l j:=by
 obtain⟨j,hj,rfl⟩:=List.mem_iff_getElem.1 h;exact⟨j,by unfold nth;simp[gE hj]⟩
theorem d9 (s:ByteArray) (hs:s.size<=4000):LC (AF (AG s 0).1):=by
 have key:∀y∈AF (AG s 0).1,(∃a',y.2.2=AA (BT s a').1)/\AR y.2.2=true/\¬y.2.2.length=1/\y.2.1=AV y.2.2:=by
  intro y hy;unfold AF at hy;rw[List.mem_map]at hy;obtain⟨x,hx,rfl⟩:=hy;rw[List.mem_filter]at hx;have h1:=PZ s _ _ x hx.1;exact⟨h1.1,h1.2,of_decide_eq_true hx.2,rfl⟩
 have hsz:∀y∈AF (AG s 0).1,∀j,(nth y.2.2 j).size<=4000:=by
  intro y hy j;obtain⟨a',ha⟩:=(key y hy).1;rw[ha];exact lT_ (lT_ (SX _ j) (U7 s a')) hs
 have hmem:∀y∈AF (AG s 0).1,∀u∈y.2.2,u.size<=4000:=by
  intro y hy u hu;obtain⟨j,rfl⟩:=gO hu;exact hsz y hy j
 refine⟨?_,fun y hy=>?_,fun y hy=>?_,fun y hy=>?_,fun y hy u hu=>?_⟩
 ·unfold AF
  rw[lM];refine lT_ (List.length_filter_le _ _) ?_;have:=bA s (s.size - 0) 0;unfold AG;omega
 ·obtain⟨⟨a',ha⟩,h2,h3,h4⟩:=key y hy
  have h5:=UA (BT s a').1;have h6:=U7 s a';rw[<-ha]at h5;refine⟨?_,by omega⟩
  rcases KP h2 h3 with h |h |h
  ·omega
  ·omega
  ·exact h.2.1
 ·obtain⟨_,h2,h3,h4⟩:=key y hy
  rcases KP h2 h3 with h |h |h <;> omega
 ·unfold BC
  split
  ·exact Nat.zero_le _
  ·exact hsz y hy 1
 ·unfold GM at hu
  split at hu
  ·simp at hu
   rcases hu with rfl |rfl
   ·exact hsz y hy 1
   ·exact hsz y hy 2
  ·split at hu
   ·rw[Q1,List.mem_filter]at hu
    exact hmem y hy u (List.mem_of_mem_drop hu.1)
   ·simp at hu
theorem P0 (rs:List (List ByteArray)) (r:List ByteArray):DW (rs++ [r])=max (DW rs) r.length:=by
 unfold DW;rw[List.foldl_append];rfl
theorem TG (R:List (ByteArray × List ByteArray)) (nm:ByteArray):∀(l:List ByteArray) (done:List (List ByteArray)) (cur:List ByteArray),
  l.foldl (RY nm) (R++done.map (fun r=>(nm,r)),cur,decide (8<DW (done++ [cur])))=
   (R++(l.foldl DG (done,cur)).1.map (fun r=>(nm,r)),(l.foldl DG (done,cur)).2,decide (8<DW ((l.foldl DG (done,cur)).1++ [(l.foldl DG (done,cur)).2])))
 | [],done,cur=>rfl
 |x::l,done,cur=>by
  rw[List.foldl_cons,List.foldl_cons]
  by_cases hb:I0 x=true
  ·have e1:RY nm (R++done.map (fun r=>(nm,r)),cur,decide (8<DW (done++ [cur]))) x=(R++(done++ [cur]).map (fun r=>(nm,r)),[],decide (8<DW (done++ [cur]++ [[]]))):=by
    unfold RY;rw[if_pos hb,P0 (done++ [cur]) []];simp
   have e2:DG (done,cur) x=(done++ [cur],[]):=by unfold DG;rw[if_pos hb]
   rw[e1,e2];exact TG R nm l (done++ [cur]) []
  ·have e1:RY nm (R++done.map (fun r=>(nm,r)),cur,decide (8<DW (done++ [cur]))) x=(R++done.map (fun r=>(nm,r)),cur++ [x],decide (8<DW (done++ [cur++ [x]]))):=by
    unfold RY;rw[if_neg hb,P0,P0];simp only[Prod.mk.injEq,true_and];rw[Bool.eq_iff_iff];simp only[Bool.or_eq_true,decide_eq_true_eq,lA,lC,List.length_nil];omega
   have e2:DG (done,cur) x=(done,cur++ [x]):=by unfold DG;rw[if_neg hb]
   rw[e1,e2];exact TG R nm l done (cur++ [x])
theorem XG (R:List (ByteArray × List ByteArray)) (nm:ByteArray) (l:List ByteArray):
  (rst R nm (l.drop 3)).1++ [(nm,(rst R nm (l.drop 3)).2.1)]=R++(A9 l).map (fun r=>(nm,r))/\(rst R nm (l.drop 3)).2.2=decide (8<DW (A9 l)):=by
 have h:=TG R nm (l.drop 3) [] [];have h0:decide (8<DW (([]:List (List ByteArray))++ [[]]))=false:=rfl;rw[h0]at h;simp only[List.map_nil,List.append_nil]at h;unfold rst A9 pst;rw[h];exact⟨by simp,rfl⟩
theorem OL (ws:List ByteArray) (u:ByteArray):(0<cnt ws u)↔(ws.any fun x=>x.toList==u.toList)=true:=by
 unfold cnt;rw[List.length_pos_iff_exists_mem,List.any_eq_true];constructor
 ·rintro⟨y,hy⟩
  rw[List.mem_filter]at hy;exact⟨y,hy.1,by rw[ByteArray.toList_eq,ByteArray.toList_eq];exact beq_iff_eq.2 (of_decide_eq_true hy.2)⟩
 ·rintro⟨y,hy,h⟩
  rw[ByteArray.toList_eq,ByteArray.toList_eq,beq_iff_eq]at h;exact⟨y,List.mem_filter.2 ⟨hy,decide_eq_true h⟩⟩
theorem QX {v:ByteArray} (hu:DQ u=true) (hv:GO v=true):(v.toList==u.toList)=false:=by
 rw[ByteArray.toList_eq,ByteArray.toList_eq,beq_eq_false_iff_ne];intro e;unfold DQ J1 at hu;unfold GO J1 at hv;rw[e]at hv;simp only[Bool.and_eq_true,decide_eq_true_eq]at hu hv;obtain⟨x,hx⟩:=List.exists_mem_of_length_pos (show 0<u.data.toList.length by omega);have h1:=hu.2.2;have h2:=hv.2.2;unfold DF at h1 h2;rw[List.all_eq_true]at h1 h2;have h3:=h1 x hx;have h4:=h2 x hx;simp only[Bool.and_eq_true,decide_eq_true_eq]at h3 h4;omega
theorem S6 {lo hi n:Int} (h:J1 u.data.toList lo hi n=true):u.toList.isEmpty=false:=by
 rw[ByteArray.toList_eq];unfold J1 at h;simp only[Bool.and_eq_true,decide_eq_true_eq]at h;cases hl:u.data.toList with
 |nil=>rw[hl]at h;simp at h
 |cons x r=>rfl
structure Inv (G:Gr) (ws:List ByteArray) (t n r:Nat):Prop where
 has:∀u,(D2 G.toks u=true\/C4 G.names u=true)↔0<cnt ws u
 low:∀x∈G.toks,DQ x.1=true
 upp:∀x∈G.names,GO x=true
 nt:G.toks.length=t
 nn:G.names.length=n
 nr:G.rules.length=r
theorem fV (ws:List ByteArray) (w u:ByteArray):0<cnt (ws++ [w]) u↔(0<cnt ws u\/(w.toList==u.toList)=true):=by
 rw[OL,OL,List.any_append,Bool.or_eq_true];simp
theorem j5 (T:List (ByteArray × Int × Int)) (x:ByteArray × Int × Int) (u:ByteArray):D2 (T++ [x]) u=true↔(D2 T u=true\/(x.1.toList==u.toList)=true):=by
 unfold D2;rw[List.any_append,Bool.or_eq_true];simp
theorem gX (T:List ByteArray) (x:ByteArray) (u:ByteArray):C4 (T++ [x]) u=true↔(C4 T u=true\/(x.toList==u.toList)=true):=by
 unfold C4;rw[List.any_append,Bool.or_eq_true];simp
theorem Inv.no_name  (h:Inv G ws t n r)  (hu:DQ u=true):C4 G.names u=false:=by
 unfold C4;rw[List.any_eq_false];intro x hx;rw[QX hu (h.upp x hx)]
 decide
theorem Inv.no_tok  (h:Inv G ws t n r)  (hu:GO u=true):D2 G.toks u=false:=by
 unfold D2;rw[List.any_eq_false];intro x hx;have h1:=QX (h.low x hx) hu;rw[beq_eq_false_iff_ne]at h1;simp only[beq_iff_eq];exact fun e=>h1 e.symm
theorem cZ  (h:Inv G ws t n r)  (h0:((nth l 0).toList== [116,111,107,101,110])=true) (ht:DQ (nth l 1)=true):
  (0<cnt ws (nth l 1)/\(D7 G l).2=3)\/
  (¬0<cnt ws (nth l 1)/\Inv (D7 G l).1 (ws++ [nth l 1]) (t+1) n r/\(D7 G l).2=if 20<t+1\/20<n\/60<r\/8<0 then 4 else 0):=by
 unfold D7;rw[if_pos h0];have hno:=h.no_name ht;cases hq:D2 G.toks (nth l 1)
 ·right
  have hc:¬0<cnt ws (nth l 1):=by
   rw[<-h.has,hq,hno];simp
  refine⟨hc,?_,?_⟩
  ·rw[if_neg (by simp)]
   refine⟨fun u=>?_,fun x hx=>?_,h.upp,by simp[h.nt],h.nn,h.nr⟩
   ·rw[fV,<-h.has,j5]
    constructor
    ·rintro((h1 |h1) |h1)
     ·exact .inl (.inl h1)
     ·exact .inr h1
     ·exact .inl (.inr h1)
    ·rintro((h1 |h1) |h1)
     ·exact .inl (.inl h1)
     ·exact .inr h1
     ·exact .inl (.inr h1)
   ·rw[List.mem_append]at hx
    rcases hx with hx |hx
    ·exact h.low x hx
    ·simp at hx;subst hx;exact ht
  ·rw[if_neg (by simp)]
   unfold RB;simp only[lA,lC,List.length_nil,h.nt,h.nn,h.nr,Bool.false_eq_true,if_false]
   by_cases hx:20<t+1\/20<n\/60<r
   ·rw[if_pos (by omega),if_pos (by omega)]
   ·rw[if_neg (by omega),if_neg (by omega)]
 ·left
  exact⟨(h.has _).1 (.inl hq),by rw[if_pos rfl]⟩
theorem YL  (h:Inv G ws t n r)  (h0:((nth l 0).toList== [116,111,107,101,110])=false) (hw:((nth l 0).toList== [115,119,97,112])=true):
  Inv (D7 G l).1 ws t n r/\(D7 G l).2=if 20<t\/20<n\/60<r\/8<0 then 4 else 0:=by
 unfold D7;rw[if_neg y56Z,if_pos hw];refine⟨⟨h.has,h.low,h.upp,h.nt,h.nn,h.nr⟩,?_⟩;unfold RB;simp only[h.nt,h.nn,h.nr,Bool.false_eq_true,if_false]
 by_cases hx:20<t\/20<n\/60<r
 ·rw[if_pos hx,if_pos (by omega)]
 ·rw[if_neg hx,if_neg (by omega)]
theorem XS  (h:Inv G ws t n r)  (h0:((nth l 0).toList== [116,111,107,101,110])=false) (hw:((nth l 0).toList== [115,119,97,112])=false)
  (hr:((nth l 0).toList== [114,117,108,101])=true) (ht:GO (nth l 1)=true):
  (0<cnt ws (nth l 1)/\(D7 G l).2=3)\/
  (¬0<cnt ws (nth l 1)/\Inv (D7 G l).1 (ws++ [nth l 1]) t (n+1) (r+(A9 l).length)/\(D7 G l).2=if 20<t\/20<n+1\/60<r+(A9 l).length\/8<DW (A9 l)then 4 else 0):=by
 have hR:=XG G.rules (nth l 1) l;unfold D7;rw[if_neg y56Z,if_neg (by simp[hw]),if_pos hr];have hno:=h.no_tok ht;cases hq:C4 G.names (nth l 1)
 ·right
  have hc:¬0<cnt ws (nth l 1):=by
   rw[<-h.has,hq,hno];simp
  refine⟨hc,?_,?_⟩
  ·rw[if_neg (by simp)]
   refine⟨fun u=>?_,h.low,fun x hx=>?_,h.nt,by simp[h.nn],?_⟩
   ·rw[fV,<-h.has,gX]
    constructor
    ·rintro(h1 | (h1 |h1))
     ·exact .inl (.inl h1)
     ·exact .inl (.inr h1)
     ·exact .inr h1
    ·rintro((h1 |h1) |h1)
     ·exact .inl h1
     ·exact .inr (.inl h1)
     ·exact .inr (.inr h1)
   ·rw[List.mem_append]at hx
    rcases hx with hx |hx
    ·exact h.upp x hx
    ·simp at hx;subst hx;exact ht
   ·show((rst G.rules (nth l 1) (l.drop 3)).1++ [(nth l 1,(rst G.rules (nth l 1) (l.drop 3)).2.1)]).length=_
    rw[hR.1];simp[h.nr]
  ·rw[if_neg (by simp)]
   unfold RB;rw[hR.2];simp only[hR.1];simp only[lA,lC,List.length_nil,lM,h.nt,h.nn,h.nr]
   by_cases hx:20<t\/20<n+1\/60<r+(A9 l).length
   ·rw[if_pos (by omega),if_pos (by omega)]
   ·rw[if_neg (by omega)]
    by_cases hy:8<DW (A9 l)
    ·rw[if_pos (decide_eq_true hy),if_pos (by omega)]
    ·rw[if_neg (by simp[hy]),if_neg (by omega)]
 ·left
  exact⟨(h.has _).1 (.inr hq),by rw[if_pos rfl]⟩
theorem VK  (h:Inv G ws t n r)  (hl:AR l=true) (h1:l.length=1):
  (D7 G l).1=G/\(D7 G l).2=if 20<t\/20<n\/60<r then 4 else 0:=by
 unfold AR at hl;rw[if_pos h1]at hl;have e:(nth l 0).toList=[]:=by simpa using hl
 unfold D7;rw[e];rw[if_neg (by decide),if_neg (by decide),if_neg (by decide)];refine⟨rfl,?_⟩;unfold RB;simp only[h.nt,h.nn,h.nr,Bool.false_eq_true,if_false]
end Go.Proofs.YtjjggdcnpndgjabGreatDoor
