import Derived.Test.YtjjggdcnpndgjaaGreatDoorHJ4
import Derived.Laws.AppendOwnNone
import Derived.Maps.Own
import Derived.Maps.OwnOps
import Derived.Maps.Views
set_option linter.unusedSimpArgs false
set_option maxHeartbeats 1000000
set_option maxRecDepth 100000
namespace Go.Proofs.YtjjggdcnpndgjaaGreatDoor
abbrev iq:=@List.append_nil
abbrev kf:=@of_decide_eq_true
abbrev qj:=@List.length_filter_le
abbrev qp:=@List.filter_cons_of_pos
abbrev qq:=@List.filter_cons_of_neg
abbrev qx:=@List.take_append_drop
abbrev vk:=@Go.wpList_mapUpdate_own
abbrev xM:=@Go.World.ownsMap_made
abbrev xR:=@Go.wpList_append_own
abbrev yw:=@List.flatten_append
open Go.RowKit
variable {B k n:Nat}{v:Value}{w:World}
def GP (sh:Nat) (l:List ByteArray):List ByteArray:=if sh=1 then [nth l 1,nth l 2]else if sh=2 then(A8 l).flatten else []
theorem rH (l:List ByteArray):(Ei l).1.flatten++(Ei l).2=l.filter λx=> !I5 x:=by
 suffices h:∀(l:List ByteArray) (st:List (List ByteArray) × List ByteArray),(l.foldl DG st).1.flatten++(l.foldl DG st).2=st.1.flatten++st.2++l.filter (λx=> !I5 x) from by simpa[Ei] using h l ([],[])
 intro l
 induction l with
 |nil=>intro st;simp
 |cons x r ih=>
  intro st;rw[ld,ih];unfold DG
  by_cases hb:I5 x=true
  ·rw[aq hb];simp[hb]
  ·rw[au hb];simp[hb]
theorem PM (l:List ByteArray):(A8 l).flatten=(l.drop 3).filter λx=> !I5 x:=by
 rw[<-rH];unfold A8;simp
theorem L8 (l:List ByteArray) (k:Nat):((A8 l).take k).flatten.length<=l.length:=by
 have h1:(A8 l).flatten.length<=l.length:=by
  rw[PM];exact y5 (qj _ _) (by simp)
 have h2:(A8 l).flatten=((A8 l).take k).flatten++((A8 l).drop k).flatten:=by
  rw[<-yw,qx]
 rw[h2,lA]at h1;omega
theorem vG (l:List ByteArray):(Ei l).1.length<=l.length:=by
 suffices h:∀(l:List ByteArray) (st:List (List ByteArray) × List ByteArray),(l.foldl DG st).1.length<=st.1.length+l.length from by simpa[Ei] using h l ([],[])
 intro l
 induction l with
 |nil=>intro st;simp
 |cons x r ih=>
  intro st;have h1:=ih (DG st x);have h2:(DG st x).1.length<=st.1.length+1:=by unfold DG;split <;> simp
  simp only[ld,lC];omega
theorem R5 (l:List ByteArray):(A8 l).length<=l.length+1:=by
 unfold A8;have:=vG (l.drop 3);simp at this ⊢;omega
structure P8 (w:World) (B:Nat) (v:Value) (rs:List (List ByteArray)) (zm:List Value):Prop where
 row:w.ownsRow B 39 1 v rs.length zm
 each:∀(i:Nat) (r:List ByteArray) (p:Value),rs[i]?=some r->zm[i]?=some p->w.ownsRow B 9 1 p r.length (r.map Value.string)
theorem JN.rows {Bl:Nat}{done:List (List ByteArray)}{cur:List ByteArray}{Cc:List Value}{pl:Value} (h:JN w B Bl v done cur Cc pl):P8 w B v (done++ [cur]) (Cc++ [pl]):=by
 have hl:=h.Cz;refine⟨by simpa using h.row,λi r p hr hp=>?_⟩
 by_cases hi:i<done.length
 ·rw[aL hi]at hr
  rw[aL (by omega)]at hp;exact(h.parts i r p hr hp).1
 ·rw[zQ (by omega)]at hr
  rw[zQ (by omega)]at hp;obtain⟨h1,_⟩:=yS.1 hr;simp at h1;rw[show i - done.length=0 by omega]at hr;rw[show i - Cc.length=0 by omega]at hp;simp at hr hp;subst hr;subst hp;exact KX h.last h.hB
theorem OX (a sh:Nat) (p:Value) (l:List ByteArray) (w:World) (hW:EM w p l) (hl:3<=l.length) (Dz:l.length<=4001):
  Calls Tryz.prog 202 #[.agg #[ab a,ab sh,p]] w λe w'=>∃g cap zm,e=.returned (ae g (A8 l).length cap)/\P8 w' w.heap.size (ae g (A8 l).length cap) (A8 l) zm/\Below w.heap.size w w':=by
 refine(pH a sh p l w hW hl Dz).mono ?_;rintro e w' ⟨v,Bl,Cc,pl,rfl,hR,hb⟩;have h:=hR.rows;obtain⟨g,cap,hv,_⟩:=AX h.row (by simp);subst hv;exact⟨g,cap,_,rfl,h,hb⟩
theorem P8.at {w w':World}{B g n cap:Nat}{rs:List (List ByteArray)}{zm:List Value} (h:P8 w B (ae g n cap) rs zm) (hn:rs.length=n) (hb:Below w.heap.size w w') {k:Nat} (hk:k<n):
  ∃r p,rs[k]?=some r/\w'.cell? (af g k)=some p/\w'.ownsRow B 9 1 p r.length (r.map Value.string)/\(∀q,p.ownBlock=some q->q<w.heap.size):=by
 have hr:=h.row;rw[hn]at hr;have hpl:zm.length=n:=by have:=hr.1;omega
 have hp:zm[k]?=some (zm[k]'(by omega)):=gE (by omega);have Ce:rs[k]?=some (rs[k]'(by omega)):=gE (by omega);have he:=h.each k _ _ Ce hp;refine⟨_,_,Ce,?_,A7 he (A1.yX hb []) (by simp),λq hq=>CJ he hq⟩;rw[hb.cell (CJ hr (g:=g) rfl),hr.cellAt k (by omega),hp]
def S6 (w:World) (v:Value) (us:List ByteArray):Prop:=∃(ad:Option Addr) (cap:Nat),v=.slice ad us.length cap/\us.length<=cap/\(0<us.length->∃g off,ad=some (af g off)/\DL w g off us)
theorem qI {e g cap:Nat}{xs:List Value} (h:w.ownsRow B e 1 (ae g n cap) n xs):∀j u,xs[j]?=some u->w.cell? (((af g 0):Addr).add j)=some u:=λj u hu=>by
 have hadd:((af g 0):Addr).add j=(af g j):=by unfold Addr.add;split <;> simp_all
 have hj:=(yS.1 hu).1;have:=h.1;rw[hadd,h.cellAt j (by omega),hu]
theorem qY {us:List ByteArray} (h:w.ownsRow B 9 1 v n (us.map Value.string)) (hn:n=us.length):S6 w v us:=by
 subst hn
 rcases h.2 with⟨h1,h2⟩ | ⟨g,cap,cur,h1,_,_,hnc,_⟩
 ·exact⟨none,0,by rw[h1,h2],by omega,λh=>by omega⟩
 ·subst h1
  exact⟨_,_,rfl,hnc,λ_=>⟨g,0,rfl,dC h rfl⟩⟩
theorem nO (a:Nat) (p:Value) (l:List ByteArray) (w:World) (hW:EM w p l) (hl:3<=l.length) (Dz:l.length<=4001):
  Calls Tryz.prog 211 #[.agg #[ab a,ab 2,p]] w λe w'=>∃v,e=.returned v/\S6 w' v (A8 l).flatten/\Below w.heap.size w w':=by
 obtain⟨i0,hi,hz0,hz1,hz2⟩:=jc Tryz.info9;have hW1:EM (w.alloc (.cells #[ab a,ab 2,p] 325)) p l:=hW.below ((ah _ _).alloc (yF _) _);have cR:=OX a 2 p l _ hW1 hl Dz;obtain⟨n,hn⟩:=qE ((A8 l).length);have Ia:n<=4002:=by have:=R5 l;omega
 rw[hn]at cR;have HN:Hid ((A8 l).length=n):=hid hn;have CR:=hid cR;have yR:Hid (Below w.heap.size w (w.alloc (.cells #[ab a,ab 2,p] 325))):=hid ((ah _ _).alloc (yF _) _);have HLL:Hid (l.length<=4001):=hid Dz;obtain⟨gw,m,mc,ad,cs,rfl,_⟩:=hW;clear cR hn hW1 hl Dz
 go_enter Tryz.func211,Tryz.ntmps211
 go_wp2_with (first | (go_at_call 202;refine CR.out.mono ?_;rintro e w2 ⟨g,cap,zm,rfl,hR,hb2⟩))
 have Ri:Below w.heap.size w w2:=yR.out.trans (hb2.mono yR.out.size);have yV:=hid Ri;have HR:=hid hR;clear hb2 Ri hR CR yR
 go_loopw [3,18] (λv i wr=>∃(k un:Nat),k<=n/\un<=4001/\i=ab k/\Hid (((A8 l).take k).flatten.length=un)/\wr.ownsRow w2.heap.size 9 1 v un ((((A8 l).take k).flatten).map Value.string)/\Hid (Below w2.heap.size w2 wr)) (λ_ i _=>n - (intOf i).toNat)
 case atStart=>exact⟨0,0,by omega,by omega,rfl,rfl,je _ _ _ _,ah _ _⟩
 case round=>
  obtain⟨k,un,hk,hun,rfl,hul,hown,hbr⟩:=hrel;have hsz:=hbr.out.size
  by_cases hlt:k<n
  ·obtain⟨r,q,hr,hq,hrow,hqb⟩:=HR.out.at HN.out hbr.out hlt
   have HT:Hid (((A8 l).take (k+1)).flatten=((A8 l).take k).flatten++r):=hid (by
    obtain⟨hk',e⟩:=yS.1 hr;rw[gz hk',yw,e];simp)
   have hle:un+r.length<=4001:=by
    have h1:=L8 l (k+1);rw[HT.out,lA,hul.out]at h1;have:=HLL.out;omega
   rcases hrow.2 with⟨h1,h2⟩ | ⟨gq,ahC,cur,h1,_,_,hnc,_⟩
   ·subst h1
    have Fv:r=[]:=qy h2;subst Fv;clear hqb hrow hr
    go_wp2_with (first
     | (at_builtin;refine wpList_append_own_none rfl _ _ 39 rfl w2.heap.size 9 i0 1 Tryz.underlying39 hi _ _ _ rfl hown rfl ?_))
    go_roundw
    case rel=>exact⟨k+1,un,by omega,hun,by go_num,hid (by rw[HT.out,iq];exact hul.out),by rw[HT.out,iq];exact hown,hbr⟩
    case measure=>simp[intOf];omega
   ·subst h1
    obtain⟨rn,Hq⟩:=qE (r.length);rw[Hq]at hrow hle hnc hq;have hnews:=qI hrow;have HRN:Hid (r.length=rn):=hid Hq;have hlen:(r.map Value.string).length=rn*1:=by simp[Hq]
    clear Hq hqb hrow hr
    go_wp2_with (first
     | (at_builtin;(refine xR _ rfl _ _ 39 rfl w2.heap.size 9 i0 (.string ByteArray.empty) 1 16 Tryz.underlying39 hi hz0 hz1 hz2 rfl (by decide) _ _ _ rfl hown (af gq 0) rn ahC (r.map Value.string) rfl hlen hnews ?c2 ?c3 ?c4 ?c5 ?_)))
    case c2=>intro u hu;simp at hu;obtain⟨y,_,rfl⟩:=hu;rfl
    case c3=>unfold maxLen;omega
    case c4=>omega
    case c5=>exact hsz
    intro v' w3 zO zM _;have ahD:Hid (Below w2.heap.size w2 w3):=hid (hbr.out.grown zM hsz (λj hj=>(hown.lt j hj).1));clear zM hnews;go_wp2
    go_roundw
    case rel=>exact⟨k+1,un+rn,by omega,hle,by go_num,hid (by rw[HT.out,lA,hul.out,HRN.out]),by rw[HT.out,ew,List.map_flatten,List.map_take];exact zO,ahD⟩
    case measure=>simp[intOf];omega
  ·have HE:Hid ((A8 l).take k=A8 l):=hid (jk Iz)
   have HO:=hid (qY hown hul.out.symm);clear hown;go_wp2;go_ret;rw[<-HE.out];exact⟨_,rfl,HO.out,yV.out.trans (hbr.out.mono yV.out.size)⟩
theorem nI (a:Nat) (p:Value) (l:List ByteArray) (w:World) (hW:EM w p l) (hl:3<=l.length) (Dz:l.length<=4001):
  Calls Tryz.prog 211 #[.agg #[ab a,ab 1,p]] w λe w'=>∃v,e=.returned v/\S6 w' v [nth l 1,nth l 2]/\Below w.heap.size w w':=by
 obtain⟨g,n,cap,ad,cs,rfl,h2,h3,h4,h5,h6,h7⟩:=hW;have had:=h7 (by omega);subst had;have hb:Below w.heap.size w (w.alloc (.cells #[ab a,ab 1,.slice (some (af g 1)) n cap] 325)):=(ah _ _).alloc (yF _) _;have hcap2:2<=cap:=by omega
 have hn2:2<=n:=by omega
 have hz:¬cap=0:=by omega
 have HU:Hid (S6 (w.alloc (.cells #[ab a,ab 1,.slice (some (af g 1)) n cap] 325)) (.slice (some (af g 1)) 2 cap) [nth l 1,nth l 2]):=hid (by
  refine⟨_,_,rfl,hcap2,λ_=>⟨g,1,rfl,lL (ak h5) hb.size,λj hj=>?_⟩⟩;rw[hb.cell (by exact ak h5),A0 h5];have h':j=0\/j=1:=by simp at hj;omega
  rcases h' with rfl |rfl
  ·exact h6 1 (by omega)
  ·exact h6 2 (by omega))
 have HB:=hid hb;clear h5 h6 h7 h2 hb hl Dz
 go_enter Tryz.func211,Tryz.ntmps211
 go_wp2;go_ret;exact⟨_,rfl,HU.out,HB.out⟩
theorem rY (a:Nat) (p:Value) (l:List ByteArray) (w:World) (hW:EM w p l):
  Calls Tryz.prog 211 #[.agg #[ab a,ab 0,p]] w λe w'=>∃v,e=.returned v/\S6 w' v []/\Below w.heap.size w w':=by
 obtain⟨g,n,cap,ad,cs,rfl,_⟩:=hW;have HB:Hid (Below w.heap.size w (w.alloc (.cells #[ab a,ab 0,.slice ad n cap] 325))):=hid ((ah _ _).alloc (yF _) _)
 go_enter Tryz.func211,Tryz.ntmps211
 go_wp2;go_ret;exact⟨_,rfl,⟨none,0,rfl,yF _,λh=>by simp at h⟩,HB.out⟩
def bA (o:Option Nat):Value:=match o with |some a=>.tuple #[ab a,.bool true] |none=>.tuple #[ab 0,.bool false]
def DW (rs:List (List ByteArray)):Nat:=rs.foldl (λm r=>max m r.length) 0
abbrev Ln:=Nat × Nat × List ByteArray
def BU:List Ln->Nat->Nat->Nat->Option Nat
 | [],_,_,_=>none
 |x::rest,t,n,r=>
  if 20< (if x.2.1=0 then t+1 else t)\/20< (if x.2.1=2 then n+1 else n)\/60< (if x.2.1=2 then r+(A8 x.2.2).length else r)\/8< (if x.2.1=2 then DW (A8 x.2.2)else 0)then some x.1
  else BU rest (if x.2.1=0 then t+1 else t) (if x.2.1=2 then n+1 else n) (if x.2.1=2 then r+(A8 x.2.2).length else r)
def UN (x:Ln):Prop:=3<=x.2.2.length/\x.2.2.length<=4001
theorem sK {ls:List Ln}{x:Ln} (hx:ls[k]?=some x) (t n r:Nat):BU (ls.drop k) t n r=
  if 20< (if x.2.1=0 then t+1 else t)\/20< (if x.2.1=2 then n+1 else n)\/60< (if x.2.1=2 then r+(A8 x.2.2).length else r)\/8< (if x.2.1=2 then DW (A8 x.2.2)else 0)then some x.1
  else BU (ls.drop (k+1)) (if x.2.1=0 then t+1 else t) (if x.2.1=2 then n+1 else n) (if x.2.1=2 then r+(A8 x.2.2).length else r):=by
 obtain⟨hk,e⟩:=yS.1 hx;rw[gm hk,e];rfl
theorem jR {rs:List (List ByteArray)}{r:List ByteArray} (hr:rs[k]?=some r):DW (rs.take (k+1))=max (DW (rs.take k)) r.length:=by
 obtain⟨hk,e⟩:=yS.1 hr;rw[gz hk,e];unfold DW;rw[uk];rfl
theorem TS {t r g:Nat}:20<t\/(¬20<t/\20<n)\/(¬20<t/\¬20<n/\60<r)\/(¬20<t/\¬20<n/\¬60<r/\8<g)\/(¬20<t/\¬20<n/\¬60<r/\¬8<g):=by omega
theorem bT (v:Value) (ls:List Ln) (pv:List Value) (B:Nat) (w:World) (hV:Ac w B v ls pv) (hn:ls.length<=4000) (hok:∀x∈ls,UN x):
  Calls Tryz.prog 168 #[v] w λe w'=>e=.returned (bA (BU ls 0 0 0))/\Below w.heap.size w w':=by
 rcases hV.form with⟨rfl,rfl⟩ | ⟨g,cap,rfl,hnc,hg⟩
 ·clear hV
  go_enter Tryz.func168,Tryz.ntmps168
  go_wp2
  go_loopw [4,5,6,14] (λa b c i wr=>a=ab 0/\b=ab 0/\c=ab 0/\i=ab 0/\wr=w) (λ_ _ _ i _=>0)
  case atStart=>exact⟨rfl,rfl,rfl,rfl,rfl⟩
  case round=>
   obtain⟨rfl,rfl,rfl,rfl,rfl⟩:=hrel;go_wp2
   go_ret2
   exact⟨rfl,ah _ _⟩
 ·obtain⟨n,hN⟩:=qF (ls.length)
  rw[<-hN]at hn hnc hV ⊢;have HN:Hid (n=ls.length):=hid hN;have HV:=hid hV;have zZ:=hid hok;clear hN hV hok
  go_enter Tryz.func168,Tryz.ntmps168
  go_wp2
  go_loopw [4,5,6,14] (λa b c i wr=>∃k t nm ru:Nat,k<=n/\t<=4000/\nm<=4000/\ru<=100/\a=ab t/\b=ab nm/\c=ab ru/\i=ab k/\Hid (BU ls 0 0 0=BU (ls.drop k) t nm ru)/\Hid (Below w.heap.size w wr)) (λ_ _ _ i _=>n - (intOf i).toNat)
  case atStart=>exact⟨0,0,0,0,by omega,by omega,by omega,by omega,rfl,rfl,rfl,rfl,rfl,ah _ _⟩
  case round=>
   obtain⟨k,t,nm,ru,hk,ht,hnm,hru,rfl,rfl,rfl,rfl,hm,hbr⟩:=hrel;have hsz:=hbr.out.size
   by_cases hlt:k<n
   ·obtain⟨x,hx⟩:∃x,ls[k]?=some x:=⟨_,gE Iz⟩
    have Cq:=zZ.out x (mG hx);have hM:=sK hx t nm ru;obtain⟨p,hp,Cl,k0,k1,k2⟩:=(HV.out.below hbr.out).at hx;obtain⟨at_,sh,l⟩:=x;simp only at k0 k1 k2 hM Cl;have HX:Hid (UN (at_,sh,l)):=hid Cq;have hgr:g<wr.heap.size:=lL hg hsz;have Ho:=hid Cl;obtain⟨gw,m,mc,ad,cs,rfl,_⟩:=Cl;have yR:Hid (Below w.heap.size w (wr.alloc (.cells #[ab at_,ab sh,.slice ad m mc] 325))):=hid (hbr.out.alloc hsz _);have Az:Hid (Below wr.heap.size wr (wr.alloc (.cells #[ab at_,ab sh,.slice ad m mc] 325))):=hid ((ah _ _).alloc (yF _) _);clear hp hx Cq
    by_cases h0:sh=0
    ·subst h0
     simp only[xz,au (show ¬(0:Nat)=2 by decide)]at hM;have HM:=hid (hm.out.trans hM);clear hM hm
     rcases TS (t:=t+1) (n:=nm) (r:=ru) (g:=0)with h1 | ⟨h1,h2⟩ | ⟨h1,h2,h3⟩ | ⟨h1,h2,h3,h4⟩ | ⟨h1,h2,h3,h4⟩
     ·have HE:Hid (BU ls 0 0 0=some at_):=hid Ov
      have hi1:(20:Int)< (t:Int)+1:=by omega
      clear HM;go_wp2
      go_ret2
      exact⟨by rw[HE.out];rfl,yR.out⟩
     ·have HE:Hid (BU ls 0 0 0=some at_):=hid Ov
      have hi1:¬((20:Int)< (t:Int)+1):=by omega
      have hi2:(20:Int)< (nm:Int):=by omega
      clear HM;go_wp2
      go_ret2
      exact⟨by rw[HE.out];rfl,yR.out⟩
     ·have HE:Hid (BU ls 0 0 0=some at_):=hid Ov
      have hi1:¬((20:Int)< (t:Int)+1):=by omega
      have hi2:¬((20:Int)< (nm:Int)):=by omega
      have Cs:(60:Int)< (ru:Int):=by omega
      clear HM;go_wp2
      go_ret2
      exact⟨by rw[HE.out];rfl,yR.out⟩
     ·omega
     ·have HE:Hid (BU ls 0 0 0=BU (ls.drop (k+1)) (t+1) (nm) (ru)):=hid acY
      have hi1:¬((20:Int)< (t:Int)+1):=by omega
      have hi2:¬((20:Int)< (nm:Int)):=by omega
      have Cs:¬((60:Int)< (ru:Int)):=by omega
      have hi4:¬((8:Int)< (0:Int)):=by omega
      clear HM;go_wp2
      go_roundw
      case rel=>exact⟨k+1,t+1,nm,ru,by omega,by omega,by omega,by omega,by first |rfl |go_num,by first |rfl |go_num,by first |rfl |go_num,by go_num,HE,hid yR.out⟩
      case measure=>simp[intOf];omega
    ·have hs0:¬((sh:Int)=0):=by omega
     by_cases h2:sh=2
     ·subst h2
      obtain⟨W,hW⟩:=qF (wr);subst hW;simp only[xz,au (show ¬(2:Nat)=0 by decide)]at hM;have HM0:=hid (hm.out.trans hM);have cR:=OX at_ 2 (.slice ad m mc) l _ (Ho.out.below Az.out) HX.out.1 HX.out.2;obtain⟨rn,Hq⟩:=qE ((A8 l).length);have hrl:rn<=4002:=by have h1:=R5 l;have h2:=HX.out.2;simp only at h2;omega
      rw[Hq]at cR;have CR:=hid cR;have HRN:Hid ((A8 l).length=rn):=hid Hq;clear hM hm cR Hq h0 hs0
      go_wp2_with (first | (go_at_call 202;refine CR.out.mono ?_;rintro e w2 ⟨gr,Jc,zm,rfl,hR,hb2⟩))
      have Ri:Below w.heap.size w w2:=yR.out.trans (hb2.mono yR.out.size);have yV:=hid Ri;have HR:=hid hR;have q0:w2.cell? (af W.heap.size 0)=some (ab at_):=by
       rw[hb2.cell (by simp)];rw[A0 (dw W _)];rfl
      have ae3:=hb2.size;clear hb2 Ri hR CR;have hbk:W.heap.size<w2.heap.size:=by have:=ae3;simp at this;omega
      have Pb:=hid q0;clear q0 ae3
      go_loopw [6,9,31] (λc lg i wi=>∃(q Nf:Nat),q<=rn/\Nf<=4001/\c=ab ((ru:Int)+q)/\lg=ab Nf/\i=ab q/\Hid (DW ((A8 l).take q)=Nf)/\Hid (Below w2.heap.size w2 wi)) (λ_ _ i _=>rn - (intOf i).toNat)
      case atStart=>exact⟨0,0,by omega,by omega,by first |rfl |go_num,rfl,rfl,rfl,ah _ _⟩
      case round=>
       obtain⟨q,Nf,hq,hlg,rfl,rfl,rfl,ae4,Cr⟩:=hrel
       by_cases Li:q<rn
       ·obtain⟨r,pr,hr,Lj,hrow,_⟩:=HR.out.at HRN.out Cr.out Li
        have HL2:Hid (DW ((A8 l).take (q+1))=max Nf r.length):=hid (by rw[jR hr,ae4.out]);have abW:r.length<=4001:=by
         have h1:=L8 l (q+1);obtain⟨hk',e⟩:=yS.1 hr;rw[gz hk',yw,e]at h1;simp at h1;have h2:=HX.out.2;simp only at h2;omega
        obtain⟨pa,pc,Tl⟩:=BB hrow;subst Tl;obtain⟨rl,ae5⟩:=qE (r.length);rw[ae5]at abW Lj HL2;clear hr hrow ae5;go_wp2
        go_roundw
        case rel=>exact⟨q+1,max Nf rl,by omega,by omega,by go_num,by first |rfl |go_num,by go_num,HL2,Cr⟩
        case measure=>simp[intOf];omega
       ·have HG:Hid (DW (A8 l)=Nf):=hid (by
         have h:=ae4.out
         rwa [jk (by have:=HRN.out;omega)]at h)
        have hqr:q=rn:=by omega
        subst hqr;have HM:Hid (BU ls 0 0 0=if 20<t\/20<nm+1\/60<ru+q\/8<Nf then some at_ else BU (ls.drop (k+1)) t (nm+1) (ru+q)):=hid (by
         have h:=HM0.out;rw[HRN.out,HG.out]at h;exact h)
        have zy:Hid (Below w.heap.size w wr):=hid (yV.out.trans (Cr.out.mono yV.out.size));have q1:wr.cell? (af W.heap.size 0)=some (ab at_):=(Cr.out.cell (by exact hbk)).trans Pb.out;clear HM0
        rcases TS (t:=t) (n:=nm+1) (r:=ru+q) (g:=Nf)with h1 | ⟨h1,h2⟩ | ⟨h1,h2,h3⟩ | ⟨h1,h2,h3,h4⟩ | ⟨h1,h2,h3,h4⟩
        ·have HE:Hid (BU ls 0 0 0=some at_):=hid Ov
         have hi1:(20:Int)< (t:Int):=by omega
         clear HM;go_wp2
         go_ret2
         exact⟨by rw[HE.out];rfl,zy.out⟩
        ·have HE:Hid (BU ls 0 0 0=some at_):=hid Ov
         have hi1:¬((20:Int)< (t:Int)):=by omega
         have hi2:(20:Int)< (nm:Int)+1:=by omega
         clear HM;go_wp2
         go_ret2
         exact⟨by rw[HE.out];rfl,zy.out⟩
        ·have HE:Hid (BU ls 0 0 0=some at_):=hid Ov
         have hi1:¬((20:Int)< (t:Int)):=by omega
         have hi2:¬((20:Int)< (nm:Int)+1):=by omega
         have Cs:(60:Int)< (ru:Int)+q:=by omega
         clear HM;go_wp2
         go_ret2
         exact⟨by rw[HE.out];rfl,zy.out⟩
        ·have HE:Hid (BU ls 0 0 0=some at_):=hid Ov
         have hi1:¬((20:Int)< (t:Int)):=by omega
         have hi2:¬((20:Int)< (nm:Int)+1):=by omega
         have Cs:¬((60:Int)< (ru:Int)+q):=by omega
         have hi4:(8:Int)< (Nf:Int):=by omega
         clear HM;go_wp2
         go_ret2
         exact⟨by rw[HE.out];rfl,zy.out⟩
        ·have HE:Hid (BU ls 0 0 0=BU (ls.drop (k+1)) (t) (nm+1) (ru+q)):=hid acY
         have hi1:¬((20:Int)< (t:Int)):=by omega
         have hi2:¬((20:Int)< (nm:Int)+1):=by omega
         have Cs:¬((60:Int)< (ru:Int)+q):=by omega
         have hi4:¬((8:Int)< (Nf:Int)):=by omega
         clear HM;go_wp2
         go_roundw
         case rel=>exact⟨k+1,t,nm+1,ru+q,by omega,by omega,by omega,by omega,by first |rfl |go_num,by first |rfl |go_num,by first |rfl |go_num,by go_num,HE,hid zy.out⟩
         case measure=>simp[intOf];omega
     ·simp only[au h0,au h2]at hM
      have HM:=hid (hm.out.trans hM);have hs2:¬((sh:Int)=2):=by omega
      clear hM hm h0 h2
      rcases TS (t:=t) (n:=nm) (r:=ru) (g:=0)with h1 | ⟨h1,h2⟩ | ⟨h1,h2,h3⟩ | ⟨h1,h2,h3,h4⟩ | ⟨h1,h2,h3,h4⟩
      ·have HE:Hid (BU ls 0 0 0=some at_):=hid Ov
       have hi1:(20:Int)< (t:Int):=by omega
       clear HM;go_wp2
       go_ret2
       exact⟨by rw[HE.out];rfl,yR.out⟩
      ·have HE:Hid (BU ls 0 0 0=some at_):=hid Ov
       have hi1:¬((20:Int)< (t:Int)):=by omega
       have hi2:(20:Int)< (nm:Int):=by omega
       clear HM;go_wp2
       go_ret2
       exact⟨by rw[HE.out];rfl,yR.out⟩
      ·have HE:Hid (BU ls 0 0 0=some at_):=hid Ov
       have hi1:¬((20:Int)< (t:Int)):=by omega
       have hi2:¬((20:Int)< (nm:Int)):=by omega
       have Cs:(60:Int)< (ru:Int):=by omega
       clear HM;go_wp2
       go_ret2
       exact⟨by rw[HE.out];rfl,yR.out⟩
      ·omega
      ·have HE:Hid (BU ls 0 0 0=BU (ls.drop (k+1)) (t) (nm) (ru)):=hid acY
       have hi1:¬((20:Int)< (t:Int)):=by omega
       have hi2:¬((20:Int)< (nm:Int)):=by omega
       have Cs:¬((60:Int)< (ru:Int)):=by omega
       have hi4:¬((8:Int)< (0:Int)):=by omega
       clear HM;go_wp2
       go_roundw
       case rel=>exact⟨k+1,t,nm,ru,by omega,by omega,by omega,by omega,by first |rfl |go_num,by first |rfl |go_num,by first |rfl |go_num,by go_num,HE,hid yR.out⟩
       case measure=>simp[intOf];omega
   ·have HE:Hid (BU ls 0 0 0=none):=hid (by rw[hm.out,nh Iz];rfl)
    go_wp2
    go_ret2
    exact⟨by rw[HE.out];rfl,hbr.out⟩
section
open Go.RowKit Go.WideMaps Go.Maps
theorem Tryz.lawStr:Keyed Tryz.prog 9:=string_keyed Tryz.underlying9
theorem Tryz.zeroInt (w:World):(zeroValue 3).run Tryz.prog w=.ok (ab 0) w:=by kernel_rfl
def EF (x s:ByteArray):Bool:=decide (x.data.toList=s.data.toList)
def cnt (ws:List ByteArray) (s:ByteArray):Nat:=(ws.filter λx=>EF x s).length
theorem JB {w':World}{b:Nat}{D:DataW Unit} (h:w.ownsMap Tryz.prog 9 (plainElem Tryz.prog 3) b n D) (hb:Below w.heap.size w w'):w'.ownsMap Tryz.prog 9 (plainElem Tryz.prog 3) b n D:=by
 have hlt:=h.lt;obtain⟨es,clock,h1,h2⟩:=h;exact⟨es,clock,(hb.block b hlt).trans h1,h2⟩
def KA (w:World) (b n:Nat) (ws:List ByteArray):Prop:=∃D:DataW Unit,w.ownsMap Tryz.prog 9 (plainElem Tryz.prog 3) b n D/\IsMap D/\∀s:ByteArray,D.atKey (.string s.data.toList) (.lit (.int .i64 0))=.lit (.int .i64 (cnt ws s))
theorem KA.below {w':World}{b:Nat}{ws:List ByteArray} (h:KA w b n ws) (hb:Below w.heap.size w w'):KA w' b n ws:=by
 obtain⟨D,hown,h2,h3⟩:=h;exact⟨D,JB hown hb,h2,h3⟩
theorem LN {p:Addr} (h:w.cell? p=some v):p.block<w.heap.size:=by
 rcases jw p.block w.heap.size with h1 |h1
 ·exact h1
 ·unfold World.cell? at h
  rw[Array.getElem?_eq_none h1]at h;simp at h
theorem LD {a b:Int} (h:(DataW.lit (.int .i64 a):DataW Unit)=.lit (.int .i64 b)):a=b:=by
 injection h with h
 injection h
theorem bK (ws:List ByteArray) (x s:ByteArray):cnt (ws++ [x]) s=cnt ws s+if EF x s=true then 1 else 0:=by
 unfold cnt;rw[oz,lA]
 by_cases h:EF x s=true
 ·rw[aq h,qp (by exact h)];rfl
 ·rw[au h,qq (by exact h)];rfl
theorem mT (ws:List ByteArray) (s:ByteArray):cnt ws s<=ws.length:=qj _ _
theorem UP {D:DataW Unit}{ws:List ByteArray} (hm:IsMap D) (h:∀s:ByteArray,D.atKey (.string s.data.toList) (.lit (.int .i64 0))=.lit (.int .i64 (cnt ws s))) (x:ByteArray):
  ∀s:ByteArray,(D.put (.string x.data.toList) (.lit (.int .i64 ((cnt ws x:Int)+1)))).atKey (.string s.data.toList) (.lit (.int .i64 0))=.lit (.int .i64 (cnt (ws++ [x]) s)):=by
 intro s;rw[bK]
 by_cases e:x.data.toList=s.data.toList
 ·have h2:cnt ws x=cnt ws s:=by unfold cnt EF;rw[e]
  have h3:EF x s=true:=ij e;rw[<-e,atKey_put_same hm (by trivial),aq h3,<-h2];rfl
 ·have h3:¬EF x s=true:=λh=>e (kf h)
  rw[atKey_put_other (λh=>e (by injection h with h;exact h.symm)),h s,au h3];rfl
def CK:List Ln->List ByteArray->Option Nat
 | [],_=>none
 |x::r,ws=>if(BC x.2.1 x.2.2).toList.isEmpty then CK r ws else if 0<cnt ws (BC x.2.1 x.2.2)then some x.1 else CK r (ws++ [BC x.2.1 x.2.2])
theorem o0 {ls:List Ln}{x:Ln} (hx:ls[k]?=some x) (ws:List ByteArray):CK (ls.drop k) ws=
  if(BC x.2.1 x.2.2).toList.isEmpty then CK (ls.drop (k+1)) ws else if 0<cnt ws (BC x.2.1 x.2.2)then some x.1 else CK (ls.drop (k+1)) (ws++ [BC x.2.1 x.2.2]):=by
 obtain⟨hk,e⟩:=yS.1 hx;rw[gm hk,e];rfl
theorem YM (v:Value) (ls:List Ln) (pv:List Value) (B:Nat) (w:World) (hV:Ac w B v ls pv) (hn:ls.length<=4000) (hok:∀x∈ls,UN x) (hsz:∀x∈ls,(BC x.2.1 x.2.2).size<=4000):
  Calls Tryz.prog 167 #[v] w λe w'=>e=.returned (bA (CK ls []))/\Below w.heap.size w w':=by
 have Pc:= @run_makeMap Tryz.prog
 rcases hV.form with⟨rfl,rfl⟩ | ⟨g,cap,rfl,hnc,hg⟩
 ·clear hV
  have HB:Hid (Below w.heap.size w (w.alloc (.map #[] 0))):=hid ((ah _ _).alloc (yF _) _)
  go_enter Tryz.func167,Tryz.ntmps167
  go_wp2
  go_loopw [11] (λi wr=>i=ab 0/\Hid (Below w.heap.size w wr)) (λi _=>0)
  case atStart=>exact⟨rfl,HB⟩
  case round=>
   obtain⟨rfl,hbr⟩:=hrel;go_wp2
   go_ret2
   exact⟨rfl,hbr.out⟩
 ·obtain⟨n,hN⟩:=qF (ls.length)
  rw[<-hN]at hn hnc hV ⊢;have HN:Hid (n=ls.length):=hid hN;have HV:=hid hV;have zZ:=hid hok;have HSZ:=hid hsz;have HB:Hid (Below w.heap.size w (w.alloc (.map #[] 0))):=hid ((ah _ _).alloc (yF _) _);have HM:Hid (KA (w.alloc (.map #[] 0)) w.heap.size 0 []):=hid ⟨_,xM _ _ _ _,isMap_empty,λs=>rfl⟩;clear hN hV hok hsz
  go_enter Tryz.func167,Tryz.ntmps167
  go_wp2;clear Pc
  go_loopw [11] (λi wr=>∃(k:Nat) (ws:List ByteArray),k<=n/\i=ab k/\Hid (ws.length<=k)/\Hid (CK ls []=CK (ls.drop k) ws)/\Hid (KA wr w.heap.size k ws)/\Hid (Below w.heap.size w wr)) (λi _=>n - (intOf i).toNat)
  case atStart=>exact⟨0,[],by omega,rfl,hid (by simp),rfl,HM,HB⟩
  case round=>
   clear HM HB;obtain⟨k,ws,hk,rfl,Au,ht,hm,hbr⟩:=hrel;have hsz:=hbr.out.size
   by_cases hlt:k<n
   ·obtain⟨x,hx⟩:∃x,ls[k]?=some x:=⟨_,gE Iz⟩
    have Cq:=zZ.out x (mG hx);have hxs:=HSZ.out x (mG hx);have hT:=o0 hx ws;obtain⟨p,hp,Cl,k0,k1,k2⟩:=(HV.out.below hbr.out).at hx;obtain⟨at_,sh,l⟩:=x;simp only at k0 k1 k2 hT Cl hxs;have hgr:g<wr.heap.size:=lL hg hsz;have Ho:=hid Cl;obtain⟨gw,m,mc,ad,cs,rfl,_⟩:=Cl;have yR:Hid (Below w.heap.size w (wr.alloc (.cells #[ab at_,ab sh,.slice ad m mc] 325))):=hid (hbr.out.alloc hsz _);have Az:Hid (Below wr.heap.size wr (wr.alloc (.cells #[ab at_,ab sh,.slice ad m mc] 325))):=hid ((ah _ _).alloc (yF _) _);obtain⟨wd,hwd⟩:=qE (BC sh l);have cG:=RO at_ sh (.slice ad m mc) l _ (Ho.out.below Az.out) acU Cq.2;rw[hwd]at cG hT hxs;have CG:=hid cG;have HT:=hid (ht.out.trans hT);obtain⟨D,hown,hD,Pe⟩:=hm.out;have hkey:keyOf Tryz.prog 9 (.string wd)=some (.string wd.data.toList):=keyOf_string_mk Tryz.underlying9 zX;have HC:Hid (D.atKey (.string wd.data.toList) (.lit (.int .i64 0))=.lit (.int .i64 (cnt ws wd))):=hid (Pe wd)
    have Ke:=hid (UP hD Pe wd);have Pf:Hid (IsMap (D.put (.string wd.data.toList) (.lit (.int .i64 ((cnt ws wd:Int)+1))))):=hid (hD.put _ _);have HM:Hid (KA wr w.heap.size k ws):=hm;have Tg:=hid hown;have Rj:Hid (w.heap.size<=wr.heap.size):=hid hsz;have Ll:=hid hkey;clear hp hx Cq ht hT cG hwd Pe hD hown hm hkey;cases he:wd.toList.isEmpty
    ·obtain⟨cc,hcc⟩:=qE (cnt ws wd)
     have ae6:cc<=4000:=by have h1:=mT ws wd;have h2:=Au.out;omega
     have HT2:Hid (CK ls []=if 0<cc then some at_ else CK (ls.drop (k+1)) (ws++ [wd])):=hid (by
      rw[HT.out,au (by rw[he];decide),hcc])
     have HC3:Hid (D.atKey (.string wd.data.toList) (.lit (.int .i64 0))=.lit (.int .i64 cc)):=hid (by rw[HC.out,hcc]);have HD3:Hid (IsMap (D.put (.string wd.data.toList) (.lit (.int .i64 ((cc:Int)+1))))):=hid (by have:=Pf.out;rwa [hcc]at this);have Ge:Hid (∀s:ByteArray,(D.put (.string wd.data.toList) (.lit (.int .i64 ((cc:Int)+1)))).atKey (.string s.data.toList) (.lit (.int .i64 0))=.lit (.int .i64 (cnt (ws++ [wd]) s))):=hid (by have:=Ke.out;rwa [hcc]at this);have Bw:Hid (cnt (ws++ [wd]) wd=cc+1):=hid (by rw[bK,hcc,aq (show EF wd wd=true from ij rfl)]);have Lm:Hid ((D.put (.string wd.data.toList) (.lit (.int .i64 ((cc:Int)+1)))).atKey (.string wd.data.toList) (.lit (.int .i64 0))=.lit (.int .i64 ((cc:Int)+1))):=hid (by rw[Ge.out wd,Bw.out];rfl);have Vv:Hid (w.heap.size<wr.heap.size):=hid (Tg.out.lt);clear HT HC Pf Ke hcc HM;have hk4:k<4000:=by omega
     by_cases hz:0<cc
     ·have HE:Hid (CK ls []=some at_):=hid (by rw[HT2.out,aq hz])
      have hz1:(1:Int)< (cc:Int)+1:=by omega
      clear HT2
      go_wp2_with (first
       | (go_at_call 210;refine CG.out.mono ?_;rintro e w2 ⟨rfl,hb2⟩;have Gf:=JB (JB Tg.out Az.out) hb2;have q2:w2.cell? (af wr.heap.size 0)=some (ab at_):=(hb2.cell (by simp)).trans (by rw[A0 (dw wr _)];rfl);obtain⟨c,hrun,hat,_⟩:=Gf.lookup_int Tryz.lawStr Tryz.underlying341 Tryz.underlying3 (Tryz.zeroInt _) Ll.out;obtain rfl:c=(cc:Int):=LD (hat.symm.trans HC3.out);clear hat)
       | (at_mapUpdate;refine vk _ rfl _ _ _ 341 rfl 9 3 Tryz.lawStr Tryz.underlying341 _ w.heap.size k _ rfl Gf zX _ _ _ rfl rfl Ll.out _ [] (plainElem_int Tryz.underlying3 (WalkArith.wf_i64 (by omega))) ?_))
      intro w3 zO zM;obtain⟨c2,ahE,aaJ,_⟩:=zO.lookup_int Tryz.lawStr Tryz.underlying341 Tryz.underlying3 (Tryz.zeroInt _) Ll.out;obtain rfl:c2=(cc:Int)+1:=LD (aaJ.symm.trans Lm.out);have Ri:Below wr.heap.size wr w2:=Az.out.trans (hb2.mono Az.out.size);have Ib:Below w.heap.size w w2:=yR.out.trans (hb2.mono yR.out.size);have zy:Hid (Below w.heap.size w w3):=hid (Ib.grown zM Ib.size (λj hj=>by cases hj;exact yF _));have q3:w3.cell? (af wr.heap.size 0)=some (ab at_):=(jd (zM.block _ (LN q2) (by have:=Vv.out;simp;omega))).trans q2;have Lo:Hid (KA w3 w.heap.size (k+1) (ws++ [wd])):=hid ⟨_,zO,HD3.out,Ge.out⟩;clear zO zM Gf hrun aaJ Ri Ib hb2 q2;go_wp2
      go_ret2
      exact⟨by rw[HE.out];rfl,zy.out⟩
     ·have HE:Hid (CK ls []=CK (ls.drop (k+1)) (ws++ [wd])):=hid (by rw[HT2.out,au hz])
      have hc0:cc=0:=by omega
      subst hc0;clear HT2 hz ae6
      go_wp2_with (first
       | (go_at_call 210;refine CG.out.mono ?_;rintro e w2 ⟨rfl,hb2⟩;have Gf:=JB (JB Tg.out Az.out) hb2;have q2:w2.cell? (af wr.heap.size 0)=some (ab at_):=(hb2.cell (by simp)).trans (by rw[A0 (dw wr _)];rfl);obtain⟨c,hrun,hat,_⟩:=Gf.lookup_int Tryz.lawStr Tryz.underlying341 Tryz.underlying3 (Tryz.zeroInt _) Ll.out;obtain rfl:c=(0:Int):=LD (hat.symm.trans HC3.out);clear hat)
       | (at_mapUpdate;refine vk _ rfl _ _ _ 341 rfl 9 3 Tryz.lawStr Tryz.underlying341 _ w.heap.size k _ rfl Gf zX _ _ _ rfl rfl Ll.out _ [] (plainElem_int Tryz.underlying3 (WalkArith.wf_i64 (by omega))) ?_))
      intro w3 zO zM;obtain⟨c2,ahE,aaJ,_⟩:=zO.lookup_int Tryz.lawStr Tryz.underlying341 Tryz.underlying3 (Tryz.zeroInt _) Ll.out;obtain rfl:c2=(1:Int):=LD (aaJ.symm.trans Lm.out);have Ri:Below wr.heap.size wr w2:=Az.out.trans (hb2.mono Az.out.size);have Ib:Below w.heap.size w w2:=yR.out.trans (hb2.mono yR.out.size);have zy:Hid (Below w.heap.size w w3):=hid (Ib.grown zM Ib.size (λj hj=>by cases hj;exact yF _));have q3:w3.cell? (af wr.heap.size 0)=some (ab at_):=(jd (zM.block _ (LN q2) (by have:=Vv.out;simp;omega))).trans q2;have Lo:Hid (KA w3 w.heap.size (k+1) (ws++ [wd])):=hid ⟨_,zO,HD3.out,Ge.out⟩;clear zO zM Gf hrun aaJ Ri Ib hb2 q2;go_wp2
      go_roundw
      case rel=>exact⟨k+1,ws++ [wd],by omega,by go_num,hid (by have:=Au.out;simp;omega),HE,Lo,zy⟩
      case measure=>simp[intOf];omega
    ·have HE:Hid (CK ls []=CK (ls.drop (k+1)) ws):=hid (by rw[HT.out,aq he])
     go_wp2_with (first | (go_at_call 210;refine CG.out.mono ?_;rintro e w2 ⟨rfl,hb2⟩))
     have Dp:Below wr.heap.size wr w2:=Az.out.trans (hb2.mono Az.out.size);have Lo:Hid (KA w2 w.heap.size (k+1) ws):=hid (by
      obtain⟨D',h1,h2⟩:=HM.out.below Dp;exact⟨D',h1.mono (by omega),h2⟩)
     have yV:=hid (yR.out.trans (hb2.mono yR.out.size));clear Dp hb2
     go_roundw
     case rel=>exact⟨k+1,ws,by omega,by go_num,hid (by have:=Au.out;omega),HE,Lo,yV⟩
     case measure=>simp[intOf];omega
   ·have HE:Hid (CK ls []=none):=hid aeY
    go_wp2
    go_ret2
    exact⟨by rw[HE.out];rfl,hbr.out⟩
end
end Go.Proofs.YtjjggdcnpndgjaaGreatDoor
