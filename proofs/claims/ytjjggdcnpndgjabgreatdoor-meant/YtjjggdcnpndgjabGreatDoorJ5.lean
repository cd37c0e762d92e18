import Derived.Test.YtjjggdcnpndgjabGreatDoorJ4
import Derived.Laws.AppendOwnNone
import Derived.Maps.Own
import Derived.Maps.OwnOps
import Derived.Maps.Views
set_option linter.unusedSimpArgs false
set_option maxHeartbeats 1000000
set_option maxRecDepth 100000
namespace Go.Proofs.YtjjggdcnpndgjabGreatDoor
open Go.RowKit
variable {B k n:Nat}{v:Value}{w:World}
def GM (sh:Nat) (l:List ByteArray):List ByteArray:=if sh=1 then [nth l 1,nth l 2]else if sh=2 then(A9 l).flatten else []
theorem pJ (l:List ByteArray):(pst l).1.flatten++(pst l).2=l.filter fun x=> !I0 x:=by
 suffices h:∀(l:List ByteArray) (st:List (List ByteArray) × List ByteArray),(l.foldl DG st).1.flatten++(l.foldl DG st).2=st.1.flatten++st.2++l.filter (fun x=> !I0 x) from by simpa[pst] using h l ([],[])
 intro l
 induction l with
 |nil=>intro st;simp
 |cons x r ih=>
  intro st;rw[List.foldl_cons,ih];unfold DG
  by_cases hb:I0 x=true
  ·rw[if_pos hb];simp[hb]
  ·rw[if_neg hb];simp[hb]
theorem Q1 (l:List ByteArray):(A9 l).flatten=(l.drop 3).filter fun x=> !I0 x:=by
 rw[<-pJ];unfold A9;simp
theorem LF (l:List ByteArray) (k:Nat):((A9 l).take k).flatten.length<=l.length:=by
 have h1:(A9 l).flatten.length<=l.length:=by
  rw[Q1];exact lT_ (List.length_filter_le _ _) (by simp)
 have h2:(A9 l).flatten=((A9 l).take k).flatten++((A9 l).drop k).flatten:=by
  rw[<-List.flatten_append,List.take_append_drop]
 rw[h2,lA]at h1;omega
theorem sS (l:List ByteArray):(pst l).1.length<=l.length:=by
 suffices h:∀(l:List ByteArray) (st:List (List ByteArray) × List ByteArray),(l.foldl DG st).1.length<=st.1.length+l.length from by simpa[pst] using h l ([],[])
 intro l
 induction l with
 |nil=>intro st;simp
 |cons x r ih=>
  intro st;have h1:=ih (DG st x);have h2:(DG st x).1.length<=st.1.length+1:=by unfold DG;split <;> simp
  simp only[List.foldl_cons,lC];omega
theorem QK (l:List ByteArray):(A9 l).length<=l.length+1:=by
 unfold A9;have:=sS (l.drop 3);simp at this ⊢;omega
structure Q5 (w:World) (B:Nat) (v:Value) (rs:List (List ByteArray)) (pvs:List Value):Prop where
 row:w.ownsRow B 30 1 v rs.length pvs
 each:∀(i:Nat) (r:List ByteArray) (p:Value),rs[i]?=some r->pvs[i]?=some p->w.ownsRow B 9 1 p r.length (r.map Value.string)
theorem JO.rows {Bl:Nat}{done:List (List ByteArray)}{cur:List ByteArray}{pvd:List Value}{pl:Value} (h:JO w B Bl v done cur pvd pl):Q5 w B v (done++ [cur]) (pvd++ [pl]):=by
 have hl:=h.pvl;refine⟨by simpa using h.row,fun i r p hr hp=>?_⟩
 by_cases hi:i<done.length
 ·rw[aL hi]at hr
  rw[aL (by omega)]at hp;exact(h.parts i r p hr hp).1
 ·rw[aR_ (by omega)]at hr
  rw[aR_ (by omega)]at hp;obtain⟨h1,_⟩:=gS_.1 hr;simp at h1;rw[show i - done.length=0 by omega]at hr;rw[show i - pvd.length=0 by omega]at hp;simp at hr hp;subst hr;subst hp;exact KX h.last h.hB
theorem PX (a sh:Nat) (p:Value) (l:List ByteArray) (w:World) (hW:EH w p l) (hl:3<=l.length) (hll:l.length<=4001):
  Calls Tryz.prog 100 #[.agg #[ab a,ab sh,p]] w fun e w'=>∃g cap pvs,e=.returned (ae g (A9 l).length cap)/\Q5 w' w.heap.size (ae g (A9 l).length cap) (A9 l) pvs/\Below w.heap.size w w':=by
 refine(kY a sh p l w hW hl hll).mono ?_;rintro e w' ⟨v,Bl,pvd,pl,rfl,hR,hb⟩;have h:=hR.rows;obtain⟨g,cap,hv,_⟩:=AX h.row (by simp);subst hv;exact⟨g,cap,_,rfl,h,hb⟩
theorem Q5.at {w w':World}{B g n cap:Nat}{rs:List (List ByteArray)}{pvs:List Value} (h:Q5 w B (ae g n cap) rs pvs) (hn:rs.length=n) (hb:Below w.heap.size w w') {k:Nat} (hk:k<n):
  ∃r p,rs[k]?=some r/\w'.cell? (af g k)=some p/\w'.ownsRow B 9 1 p r.length (r.map Value.string)/\(∀q,p.ownBlock=some q->q<w.heap.size):=by
 have hr:=h.row;rw[hn]at hr;have hpl:pvs.length=n:=by have:=hr.1;omega
 have hp:pvs[k]?=some (pvs[k]'(by omega)):=gE (by omega);have hrk:rs[k]?=some (rs[k]'(by omega)):=gE (by omega);have he:=h.each k _ _ hrk hp;refine⟨_,_,hrk,?_,A8 he (A1.of_below hb []) (by simp),fun q hq=>CK he hq⟩;rw[hb.cell (CK hr (g:=g) rfl),hr.cellAt k (by omega),hp]
def RT (w:World) (v:Value) (us:List ByteArray):Prop:=∃(ad:Option Addr) (cap:Nat),v=.slice ad us.length cap/\us.length<=cap/\(0<us.length->∃g off,ad=some (af g off)/\DK w g off us)
theorem qO {e g cap:Nat}{xs:List Value} (h:w.ownsRow B e 1 (ae g n cap) n xs):∀j u,xs[j]?=some u->w.cell? (((af g 0):Addr).add j)=some u:=fun j u hu=>by
 have hadd:((af g 0):Addr).add j=(af g j):=by unfold Addr.add;split <;> simp_all
 have hj:=(gS_.1 hu).1;have:=h.1;rw[hadd,h.cellAt j (by omega),hu]
theorem rM {us:List ByteArray} (h:w.ownsRow B 9 1 v n (us.map Value.string)) (hn:n=us.length):RT w v us:=by
 subst hn
 rcases h.2 with⟨h1,h2⟩ | ⟨g,cap,cur,h1,_,_,hnc,_⟩
 ·exact⟨none,0,by rw[h1,h2],by omega,fun h=>by omega⟩
 ·subst h1
  exact⟨_,_,rfl,hnc,fun _=>⟨g,0,rfl,aK h rfl⟩⟩
theorem nP (a:Nat) (p:Value) (l:List ByteArray) (w:World) (hW:EH w p l) (hl:3<=l.length) (hll:l.length<=4001):
  Calls Tryz.prog 121 #[.agg #[ab a,ab 2,p]] w fun e w'=>∃v,e=.returned v/\RT w' v (A9 l).flatten/\Below w.heap.size w w':=by
 obtain⟨i0,hi,hz0,hz1,hz2⟩:=info_parts Tryz.info9;have hW1:EH (w.alloc (.cells #[ab a,ab 2,p] 194)) p l:=hW.below ((Below.refl _ _).alloc (lR_ _) _);have cR:=PX a 2 p l _ hW1 hl hll;obtain⟨n,hn⟩:=qE ((A9 l).length);have hn4:n<=4002:=by have:=QK l;omega
 rw[hn]at cR;have HN:Hid ((A9 l).length=n):=hid hn;have CR:=hid cR;have HB1:Hid (Below w.heap.size w (w.alloc (.cells #[ab a,ab 2,p] 194))):=hid ((Below.refl _ _).alloc (lR_ _) _);have HLL:Hid (l.length<=4001):=hid hll;obtain⟨gw,m,mc,ad,cs,rfl,_⟩:=hW;clear cR hn hW1 hl hll
 go_enter Tryz.func121,Tryz.ntmps121
 go_wp2_with (first | (go_at_call 100;refine CR.out.mono ?_;rintro e w2 ⟨g,cap,pvs,rfl,hR,hb2⟩))
 have hb2w:Below w.heap.size w w2:=HB1.out.trans (hb2.mono HB1.out.size);have HB2:=hid hb2w;have HR:=hid hR;clear hb2 hb2w hR CR HB1
 go_loopw [3,18] (fun v i wr=>∃(k un:Nat),k<=n/\un<=4001/\i=ab k/\Hid (((A9 l).take k).flatten.length=un)/\wr.ownsRow w2.heap.size 9 1 v un ((((A9 l).take k).flatten).map Value.string)/\Hid (Below w2.heap.size w2 wr)) (fun _ i _=>n - (intOf i).toNat)
 case atStart=>exact⟨0,0,by omega,by omega,rfl,rfl,World.ownsRow_nil _ _ _ _,Below.refl _ _⟩
 case round=>
  obtain⟨k,un,hk,hun,rfl,hul,hown,hbr⟩:=hrel;have hsz:=hbr.out.size
  by_cases hlt:k<n
  ·obtain⟨r,q,hr,hq,hrow,hqb⟩:=HR.out.at HN.out hbr.out hlt
   have HT:Hid (((A9 l).take (k+1)).flatten=((A9 l).take k).flatten++r):=hid (by
    obtain⟨hk',e⟩:=gS_.1 hr;rw[List.take_succ_eq_append_getElem hk',List.flatten_append,e];simp)
   have hle:un+r.length<=4001:=by
    have h1:=LF l (k+1);rw[HT.out,lA,hul.out]at h1;have:=HLL.out;omega
   rcases hrow.2 with⟨h1,h2⟩ | ⟨gq,capq,cur,h1,_,_,hnc,_⟩
   ·subst h1
    have hr0:r=[]:=List.eq_nil_of_length_eq_zero h2;subst hr0;clear hqb hrow hr
    go_wp2_with (first
     | (at_builtin;refine wpList_append_own_none rfl _ _ 30 rfl w2.heap.size 9 i0 1 Tryz.underlying30 hi _ _ _ rfl hown rfl ?_))
    go_roundw
    case rel=>exact⟨k+1,un,by omega,hun,by go_num,hid (by rw[HT.out,List.append_nil];exact hul.out),by rw[HT.out,List.append_nil];exact hown,hbr⟩
    case measure=>simp[intOf];omega
   ·subst h1
    obtain⟨rn,hrn⟩:=qE (r.length);rw[hrn]at hrow hle hnc hq;have hnews:=qO hrow;have HRN:Hid (r.length=rn):=hid hrn;have hlen:(r.map Value.string).length=rn*1:=by simp[hrn]
    clear hrn hqb hrow hr
    go_wp2_with (first
     | (at_builtin;(refine wpList_append_own _ rfl _ _ 30 rfl w2.heap.size 9 i0 (.string ByteArray.empty) 1 16 Tryz.underlying30 hi hz0 hz1 hz2 rfl (by decide) _ _ _ rfl hown (af gq 0) rn capq (r.map Value.string) rfl hlen hnews ?c2 ?c3 ?c4 ?c5 ?_)))
    case c2=>intro u hu;simp at hu;obtain⟨y,_,rfl⟩:=hu;rfl
    case c3=>unfold maxLen;omega
    case c4=>omega
    case c5=>exact hsz
    intro v' w3 hown3 hgrow3 _;have hbr3:Hid (Below w2.heap.size w2 w3):=hid (hbr.out.grown hgrow3 hsz (fun j hj=>(hown.lt j hj).1));clear hgrow3 hnews;go_wp2
    go_roundw
    case rel=>exact⟨k+1,un+rn,by omega,hle,by go_num,hid (by rw[HT.out,lA,hul.out,HRN.out]),by rw[HT.out,List.map_append,List.map_flatten,List.map_take];exact hown3,hbr3⟩
    case measure=>simp[intOf];omega
  ·have HE:Hid ((A9 l).take k=A9 l):=hid (List.take_of_length_le y8Z)
   have HO:=hid (rM hown hul.out.symm);clear hown;go_wp2;go_ret;rw[<-HE.out];exact⟨_,rfl,HO.out,HB2.out.trans (hbr.out.mono HB2.out.size)⟩
theorem nU (a:Nat) (p:Value) (l:List ByteArray) (w:World) (hW:EH w p l) (hl:3<=l.length) (hll:l.length<=4001):
  Calls Tryz.prog 121 #[.agg #[ab a,ab 1,p]] w fun e w'=>∃v,e=.returned v/\RT w' v [nth l 1,nth l 2]/\Below w.heap.size w w':=by
 obtain⟨g,n,cap,ad,cs,rfl,h2,h3,h4,h5,h6,h7⟩:=hW;have had:=h7 (by omega);subst had;have hb:Below w.heap.size w (w.alloc (.cells #[ab a,ab 1,.slice (some (af g 1)) n cap] 194)):=(Below.refl _ _).alloc (lR_ _) _;have hcap2:2<=cap:=by omega
 have hn2:2<=n:=by omega
 have hz:¬cap=0:=by omega
 have HU:Hid (RT (w.alloc (.cells #[ab a,ab 1,.slice (some (af g 1)) n cap] 194)) (.slice (some (af g 1)) 2 cap) [nth l 1,nth l 2]):=hid (by
  refine⟨_,_,rfl,hcap2,fun _=>⟨g,1,rfl,lL (lt_of_block h5) hb.size,fun j hj=>?_⟩⟩;rw[hb.cell (by exact lt_of_block h5),A0 h5];have h':j=0\/j=1:=by simp at hj;omega
  rcases h' with rfl |rfl
  ·exact h6 1 (by omega)
  ·exact h6 2 (by omega))
 have HB:=hid hb;clear h5 h6 h7 h2 hb hl hll
 go_enter Tryz.func121,Tryz.ntmps121
 go_wp2;go_ret;exact⟨_,rfl,HU.out,HB.out⟩
theorem pK (a:Nat) (p:Value) (l:List ByteArray) (w:World) (hW:EH w p l):
  Calls Tryz.prog 121 #[.agg #[ab a,ab 0,p]] w fun e w'=>∃v,e=.returned v/\RT w' v []/\Below w.heap.size w w':=by
 obtain⟨g,n,cap,ad,cs,rfl,_⟩:=hW;have HB:Hid (Below w.heap.size w (w.alloc (.cells #[ab a,ab 0,.slice ad n cap] 194))):=hid ((Below.refl _ _).alloc (lR_ _) _)
 go_enter Tryz.func121,Tryz.ntmps121
 go_wp2;go_ret;exact⟨_,rfl,⟨none,0,rfl,lR_ _,fun h=>by simp at h⟩,HB.out⟩
def cH (o:Option Nat):Value:=match o with |some a=>.tuple #[ab a,.bool true] |none=>.tuple #[ab 0,.bool false]
def DW (rs:List (List ByteArray)):Nat:=rs.foldl (fun m r=>max m r.length) 0
abbrev Ln:=Nat × Nat × List ByteArray
def BZ:List Ln->Nat->Nat->Nat->Option Nat
 | [],_,_,_=>none
 |x::rest,t,n,r=>
  if 20< (if x.2.1=0 then t+1 else t)\/20< (if x.2.1=2 then n+1 else n)\/60< (if x.2.1=2 then r+(A9 x.2.2).length else r)\/8< (if x.2.1=2 then DW (A9 x.2.2)else 0)then some x.1
  else BZ rest (if x.2.1=0 then t+1 else t) (if x.2.1=2 then n+1 else n) (if x.2.1=2 then r+(A9 x.2.2).length else r)
def UJ (x:Ln):Prop:=3<=x.2.2.length/\x.2.2.length<=4001
theorem rU {ls:List Ln}{x:Ln} (hx:ls[k]?=some x) (t n r:Nat):BZ (ls.drop k) t n r=
  if 20< (if x.2.1=0 then t+1 else t)\/20< (if x.2.1=2 then n+1 else n)\/60< (if x.2.1=2 then r+(A9 x.2.2).length else r)\/8< (if x.2.1=2 then DW (A9 x.2.2)else 0)then some x.1
  else BZ (ls.drop (k+1)) (if x.2.1=0 then t+1 else t) (if x.2.1=2 then n+1 else n) (if x.2.1=2 then r+(A9 x.2.2).length else r):=by
 obtain⟨hk,e⟩:=gS_.1 hx;rw[List.drop_eq_getElem_cons hk,e];rfl
theorem jE {rs:List (List ByteArray)}{r:List ByteArray} (hr:rs[k]?=some r):DW (rs.take (k+1))=max (DW (rs.take k)) r.length:=by
 obtain⟨hk,e⟩:=gS_.1 hr;rw[List.take_succ_eq_append_getElem hk,e];unfold DW;rw[List.foldl_append];rfl
theorem TU {t r g:Nat}:20<t\/(¬20<t/\20<n)\/(¬20<t/\¬20<n/\60<r)\/(¬20<t/\¬20<n/\¬60<r/\8<g)\/(¬20<t/\¬20<n/\¬60<r/\¬8<g):=by omega
theorem bD (v:Value) (ls:List Ln) (pv:List Value) (B:Nat) (w:World) (hV:LnV w B v ls pv) (hn:ls.length<=4000) (hok:∀x∈ls,UJ x):
  Calls Tryz.prog 94 #[v] w fun e w'=>e=.returned (cH (BZ ls 0 0 0))/\Below w.heap.size w w':=by
 rcases hV.form with⟨rfl,rfl⟩ | ⟨g,cap,rfl,hnc,hg⟩
 ·clear hV
  go_enter Tryz.func94,Tryz.ntmps94
  go_wp2
  go_loopw [4,5,6,14] (fun a b c i wr=>a=ab 0/\b=ab 0/\c=ab 0/\i=ab 0/\wr=w) (fun _ _ _ i _=>0)
  case atStart=>exact⟨rfl,rfl,rfl,rfl,rfl⟩
  case round=>
   obtain⟨rfl,rfl,rfl,rfl,rfl⟩:=hrel;go_wp2
   go_ret2
   exact⟨rfl,Below.refl _ _⟩
 ·obtain⟨n,hN⟩:=qF (ls.length)
  rw[<-hN]at hn hnc hV ⊢;have HN:Hid (n=ls.length):=hid hN;have HV:=hid hV;have HOK:=hid hok;clear hN hV hok
  go_enter Tryz.func94,Tryz.ntmps94
  go_wp2
  go_loopw [4,5,6,14] (fun a b c i wr=>∃k t nm ru:Nat,k<=n/\t<=4000/\nm<=4000/\ru<=100/\a=ab t/\b=ab nm/\c=ab ru/\i=ab k/\Hid (BZ ls 0 0 0=BZ (ls.drop k) t nm ru)/\Hid (Below w.heap.size w wr)) (fun _ _ _ i _=>n - (intOf i).toNat)
  case atStart=>exact⟨0,0,0,0,by omega,by omega,by omega,by omega,rfl,rfl,rfl,rfl,rfl,Below.refl _ _⟩
  case round=>
   obtain⟨k,t,nm,ru,hk,ht,hnm,hru,rfl,rfl,rfl,rfl,hm,hbr⟩:=hrel;have hsz:=hbr.out.size
   by_cases hlt:k<n
   ·obtain⟨x,hx⟩:∃x,ls[k]?=some x:=⟨_,gE y8Z⟩
    have hxok:=HOK.out x (mG hx);have hM:=rU hx t nm ru;obtain⟨p,hp,hWV,k0,k1,k2⟩:=(HV.out.below hbr.out).at hx;obtain⟨at_,sh,l⟩:=x;simp only at k0 k1 k2 hM hWV;have HX:Hid (UJ (at_,sh,l)):=hid hxok;have hgr:g<wr.heap.size:=lL hg hsz;have HWV:=hid hWV;obtain⟨gw,m,mc,ad,cs,rfl,_⟩:=hWV;have HB1:Hid (Below w.heap.size w (wr.alloc (.cells #[ab at_,ab sh,.slice ad m mc] 194))):=hid (hbr.out.alloc hsz _);have HA1:Hid (Below wr.heap.size wr (wr.alloc (.cells #[ab at_,ab sh,.slice ad m mc] 194))):=hid ((Below.refl _ _).alloc (lR_ _) _);clear hp hx hxok
    by_cases h0:sh=0
    ·subst h0
     simp only[if_true,if_neg (show ¬(0:Nat)=2 by decide)]at hM;have HM:=hid (hm.out.trans hM);clear hM hm
     rcases TU (t:=t+1) (n:=nm) (r:=ru) (g:=0)with h1 | ⟨h1,h2⟩ | ⟨h1,h2,h3⟩ | ⟨h1,h2,h3,h4⟩ | ⟨h1,h2,h3,h4⟩
     ·have HE:Hid (BZ ls 0 0 0=some at_):=hid y10Z
      have hi1:(20:Int)< (t:Int)+1:=by omega
      clear HM;go_wp2
      go_ret2
      exact⟨by rw[HE.out];rfl,HB1.out⟩
     ·have HE:Hid (BZ ls 0 0 0=some at_):=hid y10Z
      have hi1:¬((20:Int)< (t:Int)+1):=by omega
      have hi2:(20:Int)< (nm:Int):=by omega
      clear HM;go_wp2
      go_ret2
      exact⟨by rw[HE.out];rfl,HB1.out⟩
     ·have HE:Hid (BZ ls 0 0 0=some at_):=hid y10Z
      have hi1:¬((20:Int)< (t:Int)+1):=by omega
      have hi2:¬((20:Int)< (nm:Int)):=by omega
      have hi3:(60:Int)< (ru:Int):=by omega
      clear HM;go_wp2
      go_ret2
      exact⟨by rw[HE.out];rfl,HB1.out⟩
     ·omega
     ·have HE:Hid (BZ ls 0 0 0=BZ (ls.drop (k+1)) (t+1) (nm) (ru)):=hid y67Z
      have hi1:¬((20:Int)< (t:Int)+1):=by omega
      have hi2:¬((20:Int)< (nm:Int)):=by omega
      have hi3:¬((60:Int)< (ru:Int)):=by omega
      have hi4:¬((8:Int)< (0:Int)):=by omega
      clear HM;go_wp2
      go_roundw
      case rel=>exact⟨k+1,t+1,nm,ru,by omega,by omega,by omega,by omega,by first |rfl |go_num,by first |rfl |go_num,by first |rfl |go_num,by go_num,HE,hid HB1.out⟩
      case measure=>simp[intOf];omega
    ·have hs0:¬((sh:Int)=0):=by omega
     by_cases h2:sh=2
     ·subst h2
      obtain⟨W,hW⟩:=qF (wr);subst hW;simp only[if_true,if_neg (show ¬(2:Nat)=0 by decide)]at hM;have HM0:=hid (hm.out.trans hM);have cR:=PX at_ 2 (.slice ad m mc) l _ (HWV.out.below HA1.out) HX.out.1 HX.out.2;obtain⟨rn,hrn⟩:=qE ((A9 l).length);have hrl:rn<=4002:=by have h1:=QK l;have h2:=HX.out.2;simp only at h2;omega
      rw[hrn]at cR;have CR:=hid cR;have HRN:Hid ((A9 l).length=rn):=hid hrn;clear hM hm cR hrn h0 hs0
      go_wp2_with (first | (go_at_call 100;refine CR.out.mono ?_;rintro e w2 ⟨gr,capr,pvs,rfl,hR,hb2⟩))
      have hb2w:Below w.heap.size w w2:=HB1.out.trans (hb2.mono HB1.out.size);have HB2:=hid hb2w;have HR:=hid hR;have q0:w2.cell? (af W.heap.size 0)=some (ab at_):=by
       rw[hb2.cell (by simp)];rw[A0 (heap_alloc_new W _)];rfl
      have hb2s:=hb2.size;clear hb2 hb2w hR CR;have hbk:W.heap.size<w2.heap.size:=by have:=hb2s;simp at this;omega
      have HQ0:=hid q0;clear q0 hb2s
      go_loopw [6,9,31] (fun c lg i wi=>∃(q lgn:Nat),q<=rn/\lgn<=4001/\c=ab ((ru:Int)+q)/\lg=ab lgn/\i=ab q/\Hid (DW ((A9 l).take q)=lgn)/\Hid (Below w2.heap.size w2 wi)) (fun _ _ i _=>rn - (intOf i).toNat)
      case atStart=>exact⟨0,0,by omega,by omega,by first |rfl |go_num,rfl,rfl,rfl,Below.refl _ _⟩
      case round=>
       obtain⟨q,lgn,hq,hlg,rfl,rfl,rfl,hlong,hbi⟩:=hrel
       by_cases hlq:q<rn
       ·obtain⟨r,pr,hr,hpc,hrow,_⟩:=HR.out.at HRN.out hbi.out hlq
        have HL2:Hid (DW ((A9 l).take (q+1))=max lgn r.length):=hid (by rw[jE hr,hlong.out]);have hrl2:r.length<=4001:=by
         have h1:=LF l (q+1);obtain⟨hk',e⟩:=gS_.1 hr;rw[List.take_succ_eq_append_getElem hk',List.flatten_append,e]at h1;simp at h1;have h2:=HX.out.2;simp only at h2;omega
        obtain⟨pa,pc,hpr⟩:=BI hrow;subst hpr;obtain⟨rl,hrl3⟩:=qE (r.length);rw[hrl3]at hrl2 hpc HL2;clear hr hrow hrl3;go_wp2
        go_roundw
        case rel=>exact⟨q+1,max lgn rl,by omega,by omega,by go_num,by first |rfl |go_num,by go_num,HL2,hbi⟩
        case measure=>simp[intOf];omega
       ·have HG:Hid (DW (A9 l)=lgn):=hid (by
         have h:=hlong.out
         rwa [List.take_of_length_le (by have:=HRN.out;omega)]at h)
        have hqr:q=rn:=by omega
        subst hqr;have HM:Hid (BZ ls 0 0 0=if 20<t\/20<nm+1\/60<ru+q\/8<lgn then some at_ else BZ (ls.drop (k+1)) t (nm+1) (ru+q)):=hid (by
         have h:=HM0.out;rw[HRN.out,HG.out]at h;exact h)
        have HB3:Hid (Below w.heap.size w wr):=hid (HB2.out.trans (hbi.out.mono HB2.out.size));have q1:wr.cell? (af W.heap.size 0)=some (ab at_):=(hbi.out.cell (by exact hbk)).trans HQ0.out;clear HM0
        rcases TU (t:=t) (n:=nm+1) (r:=ru+q) (g:=lgn)with h1 | ⟨h1,h2⟩ | ⟨h1,h2,h3⟩ | ⟨h1,h2,h3,h4⟩ | ⟨h1,h2,h3,h4⟩
        ·have HE:Hid (BZ ls 0 0 0=some at_):=hid y10Z
         have hi1:(20:Int)< (t:Int):=by omega
         clear HM;go_wp2
         go_ret2
         exact⟨by rw[HE.out];rfl,HB3.out⟩
        ·have HE:Hid (BZ ls 0 0 0=some at_):=hid y10Z
         have hi1:¬((20:Int)< (t:Int)):=by omega
         have hi2:(20:Int)< (nm:Int)+1:=by omega
         clear HM;go_wp2
         go_ret2
         exact⟨by rw[HE.out];rfl,HB3.out⟩
        ·have HE:Hid (BZ ls 0 0 0=some at_):=hid y10Z
         have hi1:¬((20:Int)< (t:Int)):=by omega
         have hi2:¬((20:Int)< (nm:Int)+1):=by omega
         have hi3:(60:Int)< (ru:Int)+q:=by omega
         clear HM;go_wp2
         go_ret2
         exact⟨by rw[HE.out];rfl,HB3.out⟩
        ·have HE:Hid (BZ ls 0 0 0=some at_):=hid y10Z
         have hi1:¬((20:Int)< (t:Int)):=by omega
         have hi2:¬((20:Int)< (nm:Int)+1):=by omega
         have hi3:¬((60:Int)< (ru:Int)+q):=by omega
         have hi4:(8:Int)< (lgn:Int):=by omega
         clear HM;go_wp2
         go_ret2
         exact⟨by rw[HE.out];rfl,HB3.out⟩
        ·have HE:Hid (BZ ls 0 0 0=BZ (ls.drop (k+1)) (t) (nm+1) (ru+q)):=hid y67Z
         have hi1:¬((20:Int)< (t:Int)):=by omega
         have hi2:¬((20:Int)< (nm:Int)+1):=by omega
         have hi3:¬((60:Int)< (ru:Int)+q):=by omega
         have hi4:¬((8:Int)< (lgn:Int)):=by omega
         clear HM;go_wp2
         go_roundw
         case rel=>exact⟨k+1,t,nm+1,ru+q,by omega,by omega,by omega,by omega,by first |rfl |go_num,by first |rfl |go_num,by first |rfl |go_num,by go_num,HE,hid HB3.out⟩
         case measure=>simp[intOf];omega
     ·simp only[if_neg h0,if_neg h2]at hM
      have HM:=hid (hm.out.trans hM);have hs2:¬((sh:Int)=2):=by omega
      clear hM hm h0 h2
      rcases TU (t:=t) (n:=nm) (r:=ru) (g:=0)with h1 | ⟨h1,h2⟩ | ⟨h1,h2,h3⟩ | ⟨h1,h2,h3,h4⟩ | ⟨h1,h2,h3,h4⟩
      ·have HE:Hid (BZ ls 0 0 0=some at_):=hid y10Z
       have hi1:(20:Int)< (t:Int):=by omega
       clear HM;go_wp2
       go_ret2
       exact⟨by rw[HE.out];rfl,HB1.out⟩
      ·have HE:Hid (BZ ls 0 0 0=some at_):=hid y10Z
       have hi1:¬((20:Int)< (t:Int)):=by omega
       have hi2:(20:Int)< (nm:Int):=by omega
       clear HM;go_wp2
       go_ret2
       exact⟨by rw[HE.out];rfl,HB1.out⟩
      ·have HE:Hid (BZ ls 0 0 0=some at_):=hid y10Z
       have hi1:¬((20:Int)< (t:Int)):=by omega
       have hi2:¬((20:Int)< (nm:Int)):=by omega
       have hi3:(60:Int)< (ru:Int):=by omega
       clear HM;go_wp2
       go_ret2
       exact⟨by rw[HE.out];rfl,HB1.out⟩
      ·omega
      ·have HE:Hid (BZ ls 0 0 0=BZ (ls.drop (k+1)) (t) (nm) (ru)):=hid y67Z
       have hi1:¬((20:Int)< (t:Int)):=by omega
       have hi2:¬((20:Int)< (nm:Int)):=by omega
       have hi3:¬((60:Int)< (ru:Int)):=by omega
       have hi4:¬((8:Int)< (0:Int)):=by omega
       clear HM;go_wp2
       go_roundw
       case rel=>exact⟨k+1,t,nm,ru,by omega,by omega,by omega,by omega,by first |rfl |go_num,by first |rfl |go_num,by first |rfl |go_num,by go_num,HE,hid HB1.out⟩
       case measure=>simp[intOf];omega
   ·have HE:Hid (BZ ls 0 0 0=none):=hid (by rw[hm.out,List.drop_eq_nil_of_le y8Z];rfl)
    go_wp2
    go_ret2
    exact⟨by rw[HE.out];rfl,hbr.out⟩
section
open Go.RowKit Go.WideMaps Go.Maps
theorem Tryz.lawStr:Keyed Tryz.prog 9:=string_keyed Tryz.underlying9
theorem Tryz.zeroInt (w:World):(zeroValue 3).run Tryz.prog w=.ok (ab 0) w:=by kernel_rfl
def ED (x s:ByteArray):Bool:=decide (x.data.toList=s.data.toList)
def cnt (ws:List ByteArray) (s:ByteArray):Nat:=(ws.filter fun x=>ED x s).length
theorem J6 {w':World}{b:Nat}{D:DataW Unit} (h:w.ownsMap Tryz.prog 9 (plainElem Tryz.prog 3) b n D) (hb:Below w.heap.size w w'):w'.ownsMap Tryz.prog 9 (plainElem Tryz.prog 3) b n D:=by
 have hlt:=h.lt;obtain⟨es,clock,h1,h2⟩:=h;exact⟨es,clock,(hb.block b hlt).trans h1,h2⟩
def K9 (w:World) (b n:Nat) (ws:List ByteArray):Prop:=∃D:DataW Unit,w.ownsMap Tryz.prog 9 (plainElem Tryz.prog 3) b n D/\IsMap D/\∀s:ByteArray,D.atKey (.string s.data.toList) (.lit (.int .i64 0))=.lit (.int .i64 (cnt ws s))
theorem K9.below {w':World}{b:Nat}{ws:List ByteArray} (h:K9 w b n ws) (hb:Below w.heap.size w w'):K9 w' b n ws:=by
 obtain⟨D,hown,h2,h3⟩:=h;exact⟨D,J6 hown hb,h2,h3⟩
theorem LO {p:Addr} (h:w.cell? p=some v):p.block<w.heap.size:=by
 rcases Nat.lt_or_ge p.block w.heap.size with h1 |h1
 ·exact h1
 ·unfold World.cell? at h
  rw[Array.getElem?_eq_none h1]at h;simp at h
theorem L9 {a b:Int} (h:(DataW.lit (.int .i64 a):DataW Unit)=.lit (.int .i64 b)):a=b:=by
 injection h with h
 injection h
theorem cK (ws:List ByteArray) (x s:ByteArray):cnt (ws++ [x]) s=cnt ws s+if ED x s=true then 1 else 0:=by
 unfold cnt;rw[List.filter_append,lA]
 by_cases h:ED x s=true
 ·rw[if_pos h,List.filter_cons_of_pos (by exact h)];rfl
 ·rw[if_neg h,List.filter_cons_of_neg (by exact h)];rfl
theorem oD (ws:List ByteArray) (s:ByteArray):cnt ws s<=ws.length:=List.length_filter_le _ _
theorem UK {D:DataW Unit}{ws:List ByteArray} (hm:IsMap D) (h:∀s:ByteArray,D.atKey (.string s.data.toList) (.lit (.int .i64 0))=.lit (.int .i64 (cnt ws s))) (x:ByteArray):
  ∀s:ByteArray,(D.put (.string x.data.toList) (.lit (.int .i64 ((cnt ws x:Int)+1)))).atKey (.string s.data.toList) (.lit (.int .i64 0))=.lit (.int .i64 (cnt (ws++ [x]) s)):=by
 intro s;rw[cK]
 by_cases e:x.data.toList=s.data.toList
 ·have h2:cnt ws x=cnt ws s:=by unfold cnt ED;rw[e]
  have h3:ED x s=true:=decide_eq_true e;rw[<-e,atKey_put_same hm (by trivial),if_pos h3,<-h2];rfl
 ·have h3:¬ED x s=true:=fun h=>e (of_decide_eq_true h)
  rw[atKey_put_other (fun h=>e (by injection h with h;exact h.symm)),h s,if_neg h3];rfl
def CQ:List Ln->List ByteArray->Option Nat
 | [],_=>none
 |x::r,ws=>if(BC x.2.1 x.2.2).toList.isEmpty then CQ r ws else if 0<cnt ws (BC x.2.1 x.2.2)then some x.1 else CQ r (ws++ [BC x.2.1 x.2.2])
theorem oO {ls:List Ln}{x:Ln} (hx:ls[k]?=some x) (ws:List ByteArray):CQ (ls.drop k) ws=
  if(BC x.2.1 x.2.2).toList.isEmpty then CQ (ls.drop (k+1)) ws else if 0<cnt ws (BC x.2.1 x.2.2)then some x.1 else CQ (ls.drop (k+1)) (ws++ [BC x.2.1 x.2.2]):=by
 obtain⟨hk,e⟩:=gS_.1 hx;rw[List.drop_eq_getElem_cons hk,e];rfl
theorem YK (v:Value) (ls:List Ln) (pv:List Value) (B:Nat) (w:World) (hV:LnV w B v ls pv) (hn:ls.length<=4000) (hok:∀x∈ls,UJ x) (hsz:∀x∈ls,(BC x.2.1 x.2.2).size<=4000):
  Calls Tryz.prog 93 #[v] w fun e w'=>e=.returned (cH (CQ ls []))/\Below w.heap.size w w':=by
 have hmm:= @run_makeMap Tryz.prog
 rcases hV.form with⟨rfl,rfl⟩ | ⟨g,cap,rfl,hnc,hg⟩
 ·clear hV
  have HB:Hid (Below w.heap.size w (w.alloc (.map #[] 0))):=hid ((Below.refl _ _).alloc (lR_ _) _)
  go_enter Tryz.func93,Tryz.ntmps93
  go_wp2
  go_loopw [11] (fun i wr=>i=ab 0/\Hid (Below w.heap.size w wr)) (fun i _=>0)
  case atStart=>exact⟨rfl,HB⟩
  case round=>
   obtain⟨rfl,hbr⟩:=hrel;go_wp2
   go_ret2
   exact⟨rfl,hbr.out⟩
 ·obtain⟨n,hN⟩:=qF (ls.length)
  rw[<-hN]at hn hnc hV ⊢;have HN:Hid (n=ls.length):=hid hN;have HV:=hid hV;have HOK:=hid hok;have HSZ:=hid hsz;have HB:Hid (Below w.heap.size w (w.alloc (.map #[] 0))):=hid ((Below.refl _ _).alloc (lR_ _) _);have HM:Hid (K9 (w.alloc (.map #[] 0)) w.heap.size 0 []):=hid ⟨_,World.ownsMap_made _ _ _ _,isMap_empty,fun s=>rfl⟩;clear hN hV hok hsz
  go_enter Tryz.func93,Tryz.ntmps93
  go_wp2;clear hmm
  go_loopw [11] (fun i wr=>∃(k:Nat) (ws:List ByteArray),k<=n/\i=ab k/\Hid (ws.length<=k)/\Hid (CQ ls []=CQ (ls.drop k) ws)/\Hid (K9 wr w.heap.size k ws)/\Hid (Below w.heap.size w wr)) (fun i _=>n - (intOf i).toNat)
  case atStart=>exact⟨0,[],by omega,rfl,hid (by simp),rfl,HM,HB⟩
  case round=>
   clear HM HB;obtain⟨k,ws,hk,rfl,hwl,ht,hm,hbr⟩:=hrel;have hsz:=hbr.out.size
   by_cases hlt:k<n
   ·obtain⟨x,hx⟩:∃x,ls[k]?=some x:=⟨_,gE y8Z⟩
    have hxok:=HOK.out x (mG hx);have hxs:=HSZ.out x (mG hx);have hT:=oO hx ws;obtain⟨p,hp,hWV,k0,k1,k2⟩:=(HV.out.below hbr.out).at hx;obtain⟨at_,sh,l⟩:=x;simp only at k0 k1 k2 hT hWV hxs;have hgr:g<wr.heap.size:=lL hg hsz;have HWV:=hid hWV;obtain⟨gw,m,mc,ad,cs,rfl,_⟩:=hWV;have HB1:Hid (Below w.heap.size w (wr.alloc (.cells #[ab at_,ab sh,.slice ad m mc] 194))):=hid (hbr.out.alloc hsz _);have HA1:Hid (Below wr.heap.size wr (wr.alloc (.cells #[ab at_,ab sh,.slice ad m mc] 194))):=hid ((Below.refl _ _).alloc (lR_ _) _);obtain⟨wd,hwd⟩:=qE (BC sh l);have cG:=RF at_ sh (.slice ad m mc) l _ (HWV.out.below HA1.out) y50Z hxok.2;rw[hwd]at cG hT hxs;have CG:=hid cG;have HT:=hid (ht.out.trans hT);obtain⟨D,hown,hD,hcount⟩:=hm.out;have hkey:keyOf Tryz.prog 9 (.string wd)=some (.string wd.data.toList):=keyOf_string_mk Tryz.underlying9 y3Z;have HC:Hid (D.atKey (.string wd.data.toList) (.lit (.int .i64 0))=.lit (.int .i64 (cnt ws wd))):=hid (hcount wd)
    have HC2:=hid (UK hD hcount wd);have HD2:Hid (IsMap (D.put (.string wd.data.toList) (.lit (.int .i64 ((cnt ws wd:Int)+1))))):=hid (hD.put _ _);have HM:Hid (K9 wr w.heap.size k ws):=hm;have HOwn:=hid hown;have HBt:Hid (w.heap.size<=wr.heap.size):=hid hsz;have HKey:=hid hkey;clear hp hx hxok ht hT cG hwd hcount hD hown hm hkey;cases he:wd.toList.isEmpty
    ·obtain⟨cc,hcc⟩:=qE (cnt ws wd)
     have hcc4:cc<=4000:=by have h1:=oD ws wd;have h2:=hwl.out;omega
     have HT2:Hid (CQ ls []=if 0<cc then some at_ else CQ (ls.drop (k+1)) (ws++ [wd])):=hid (by
      rw[HT.out,if_neg (by rw[he];decide),hcc])
     have HC3:Hid (D.atKey (.string wd.data.toList) (.lit (.int .i64 0))=.lit (.int .i64 cc)):=hid (by rw[HC.out,hcc]);have HD3:Hid (IsMap (D.put (.string wd.data.toList) (.lit (.int .i64 ((cc:Int)+1))))):=hid (by have:=HD2.out;rwa [hcc]at this);have HC4:Hid (∀s:ByteArray,(D.put (.string wd.data.toList) (.lit (.int .i64 ((cc:Int)+1)))).atKey (.string s.data.toList) (.lit (.int .i64 0))=.lit (.int .i64 (cnt (ws++ [wd]) s))):=hid (by have:=HC2.out;rwa [hcc]at this);have HCS:Hid (cnt (ws++ [wd]) wd=cc+1):=hid (by rw[cK,hcc,if_pos (show ED wd wd=true from decide_eq_true rfl)]);have HC5:Hid ((D.put (.string wd.data.toList) (.lit (.int .i64 ((cc:Int)+1)))).atKey (.string wd.data.toList) (.lit (.int .i64 0))=.lit (.int .i64 ((cc:Int)+1))):=hid (by rw[HC4.out wd,HCS.out];rfl);have HWB:Hid (w.heap.size<wr.heap.size):=hid (HOwn.out.lt);clear HT HC HD2 HC2 hcc HM;have hk4:k<4000:=by omega
     by_cases hz:0<cc
     ·have HE:Hid (CQ ls []=some at_):=hid (by rw[HT2.out,if_pos hz])
      have hz1:(1:Int)< (cc:Int)+1:=by omega
      clear HT2
      go_wp2_with (first
       | (go_at_call 120;refine CG.out.mono ?_;rintro e w2 ⟨rfl,hb2⟩;have hown2:=J6 (J6 HOwn.out HA1.out) hb2;have q2:w2.cell? (af wr.heap.size 0)=some (ab at_):=(hb2.cell (by simp)).trans (by rw[A0 (heap_alloc_new wr _)];rfl);obtain⟨c,hrun,hat,_⟩:=hown2.lookup_int Tryz.lawStr Tryz.underlying225 Tryz.underlying3 (Tryz.zeroInt _) HKey.out;obtain rfl:c=(cc:Int):=L9 (hat.symm.trans HC3.out);clear hat)
       | (at_mapUpdate;refine wpList_mapUpdate_own _ rfl _ _ _ 225 rfl 9 3 Tryz.lawStr Tryz.underlying225 _ w.heap.size k _ rfl hown2 y3Z _ _ _ rfl rfl HKey.out _ [] (plainElem_int Tryz.underlying3 (WalkArith.wf_i64 (by omega))) ?_))
      intro w3 hown3 hgrow3;obtain⟨c2,hrun2,hat2,_⟩:=hown3.lookup_int Tryz.lawStr Tryz.underlying225 Tryz.underlying3 (Tryz.zeroInt _) HKey.out;obtain rfl:c2=(cc:Int)+1:=L9 (hat2.symm.trans HC5.out);have hb2w:Below wr.heap.size wr w2:=HA1.out.trans (hb2.mono HA1.out.size);have hbw2:Below w.heap.size w w2:=HB1.out.trans (hb2.mono HB1.out.size);have HB3:Hid (Below w.heap.size w w3):=hid (hbw2.grown hgrow3 hbw2.size (fun j hj=>by cases hj;exact lR_ _));have q3:w3.cell? (af wr.heap.size 0)=some (ab at_):=(World.cell?_of_block (hgrow3.block _ (LO q2) (by have:=HWB.out;simp;omega))).trans q2;have HMV:Hid (K9 w3 w.heap.size (k+1) (ws++ [wd])):=hid ⟨_,hown3,HD3.out,HC4.out⟩;clear hown3 hgrow3 hown2 hrun hat2 hb2w hbw2 hb2 q2;go_wp2
      go_ret2
      exact⟨by rw[HE.out];rfl,HB3.out⟩
     ·have HE:Hid (CQ ls []=CQ (ls.drop (k+1)) (ws++ [wd])):=hid (by rw[HT2.out,if_neg hz])
      have hc0:cc=0:=by omega
      subst hc0;clear HT2 hz hcc4
      go_wp2_with (first
       | (go_at_call 120;refine CG.out.mono ?_;rintro e w2 ⟨rfl,hb2⟩;have hown2:=J6 (J6 HOwn.out HA1.out) hb2;have q2:w2.cell? (af wr.heap.size 0)=some (ab at_):=(hb2.cell (by simp)).trans (by rw[A0 (heap_alloc_new wr _)];rfl);obtain⟨c,hrun,hat,_⟩:=hown2.lookup_int Tryz.lawStr Tryz.underlying225 Tryz.underlying3 (Tryz.zeroInt _) HKey.out;obtain rfl:c=(0:Int):=L9 (hat.symm.trans HC3.out);clear hat)
       | (at_mapUpdate;refine wpList_mapUpdate_own _ rfl _ _ _ 225 rfl 9 3 Tryz.lawStr Tryz.underlying225 _ w.heap.size k _ rfl hown2 y3Z _ _ _ rfl rfl HKey.out _ [] (plainElem_int Tryz.underlying3 (WalkArith.wf_i64 (by omega))) ?_))
      intro w3 hown3 hgrow3;obtain⟨c2,hrun2,hat2,_⟩:=hown3.lookup_int Tryz.lawStr Tryz.underlying225 Tryz.underlying3 (Tryz.zeroInt _) HKey.out;obtain rfl:c2=(1:Int):=L9 (hat2.symm.trans HC5.out);have hb2w:Below wr.heap.size wr w2:=HA1.out.trans (hb2.mono HA1.out.size);have hbw2:Below w.heap.size w w2:=HB1.out.trans (hb2.mono HB1.out.size);have HB3:Hid (Below w.heap.size w w3):=hid (hbw2.grown hgrow3 hbw2.size (fun j hj=>by cases hj;exact lR_ _));have q3:w3.cell? (af wr.heap.size 0)=some (ab at_):=(World.cell?_of_block (hgrow3.block _ (LO q2) (by have:=HWB.out;simp;omega))).trans q2;have HMV:Hid (K9 w3 w.heap.size (k+1) (ws++ [wd])):=hid ⟨_,hown3,HD3.out,HC4.out⟩;clear hown3 hgrow3 hown2 hrun hat2 hb2w hbw2 hb2 q2;go_wp2
      go_roundw
      case rel=>exact⟨k+1,ws++ [wd],by omega,by go_num,hid (by have:=hwl.out;simp;omega),HE,HMV,HB3⟩
      case measure=>simp[intOf];omega
    ·have HE:Hid (CQ ls []=CQ (ls.drop (k+1)) ws):=hid (by rw[HT.out,if_pos he])
     go_wp2_with (first | (go_at_call 120;refine CG.out.mono ?_;rintro e w2 ⟨rfl,hb2⟩))
     have hbb:Below wr.heap.size wr w2:=HA1.out.trans (hb2.mono HA1.out.size);have HMV:Hid (K9 w2 w.heap.size (k+1) ws):=hid (by
      obtain⟨D',h1,h2⟩:=HM.out.below hbb;exact⟨D',h1.mono (by omega),h2⟩)
     have HB2:=hid (HB1.out.trans (hb2.mono HB1.out.size));clear hbb hb2
     go_roundw
     case rel=>exact⟨k+1,ws,by omega,by go_num,hid (by have:=hwl.out;omega),HE,HMV,HB2⟩
     case measure=>simp[intOf];omega
   ·have HE:Hid (CQ ls []=none):=hid y44Z
    go_wp2
    go_ret2
    exact⟨by rw[HE.out];rfl,hbr.out⟩
end
end Go.Proofs.YtjjggdcnpndgjabGreatDoor
