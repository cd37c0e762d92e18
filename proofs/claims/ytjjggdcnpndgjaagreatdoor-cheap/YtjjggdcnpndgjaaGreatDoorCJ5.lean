import Derived.Test.YtjjggdcnpndgjaaGreatDoorCJ4
import Derived.Laws.AppendOwnNone
import Derived.Maps.Own
import Derived.Maps.OwnOps
import Derived.Maps.Views
set_option linter.unusedSimpArgs false
set_option maxHeartbeats 1000000
set_option maxRecDepth 100000
namespace Go.Proofs.YtjjggdcnpndgjaaGreatDoor
abbrev fy:=@List.append_nil
abbrev kg:=@of_decide_eq_true
abbrev qy:=@List.length_filter_le
abbrev rz:=@List.filter_cons_of_pos
abbrev sj:=@List.filter_cons_of_neg
abbrev td:=@List.take_append_drop
abbrev wm:=@Go.wpList_mapUpdate_own
abbrev yx:=@Go.World.ownsMap_made
abbrev yD:=@Go.wpList_append_own
abbrev y9:=@List.flatten_append
open Go.RowKit
variable {B k n:Nat}{v:Value}{w:World}
def I3 (sh:Nat) (l:List ByteArray):List ByteArray:=if sh=1 then [nth l 1,nth l 2]else if sh=2 then(AE l).flatten else []
theorem rE (l:List ByteArray):(Ge l).1.flatten++(Ge l).2=l.filter λx=> !IL x:=by
 suffices h:∀(l:List ByteArray) (st:List (List ByteArray) × List ByteArray),(l.foldl DO st).1.flatten++(l.foldl DO st).2=st.1.flatten++st.2++l.filter (λx=> !IL x) from by simpa[Ge] using h l ([],[])
 intro l
 induction l with
 |nil=>intro st;simp
 |cons x r ih=>
  intro st;rw[lz,ih];unfold DO
  by_cases hb:IL x=true
  ·rw[ay hb];simp[hb]
  ·rw[aq hb];simp[hb]
theorem PZ (l:List ByteArray):(AE l).flatten=(l.drop 3).filter λx=> !IL x:=by
 rw[<-rE];unfold AE;simp
theorem LU (l:List ByteArray) (k:Nat):((AE l).take k).flatten.length<=l.length:=by
 have h1:(AE l).flatten.length<=l.length:=by
  rw[PZ];exact zV (qy _ _) (by simp)
 have h2:(AE l).flatten=((AE l).take k).flatten++((AE l).drop k).flatten:=by
  rw[<-y9,td]
 rw[h2,lA]at h1;omega
theorem vJ (l:List ByteArray):(Ge l).1.length<=l.length:=by
 suffices h:∀(l:List ByteArray) (st:List (List ByteArray) × List ByteArray),(l.foldl DO st).1.length<=st.1.length+l.length from by simpa[Ge] using h l ([],[])
 intro l
 induction l with
 |nil=>intro st;simp
 |cons x r ih=>
  intro st;have h1:=ih (DO st x);have h2:(DO st x).1.length<=st.1.length+1:=by unfold DO;split <;> simp
  simp only[lz,lC];omega
theorem RQ (l:List ByteArray):(AE l).length<=l.length+1:=by
 unfold AE;have:=vJ (l.drop 3);simp at this ⊢;omega
structure Q7 (w:World) (B:Nat) (v:Value) (rs:List (List ByteArray)) (Ak:List Value):Prop where
 row:w.ownsRow B 39 1 v rs.length Ak
 each:∀(i:Nat) (r:List ByteArray) (p:Value),rs[i]?=some r->Ak[i]?=some p->w.ownsRow B 9 1 p r.length (r.map Value.string)
theorem JZ.rows {Bl:Nat}{done:List (List ByteArray)}{cur:List ByteArray}{Dv:List Value}{pl:Value} (h:JZ w B Bl v done cur Dv pl):Q7 w B v (done++ [cur]) (Dv++ [pl]):=by
 have hl:=h.Eo;refine⟨by simpa using h.row,λi r p hr hp=>?_⟩
 by_cases hi:i<done.length
 ·rw[aL hi]at hr
  rw[aL (by omega)]at hp;exact(h.parts i r p hr hp).1
 ·rw[Bc (by omega)]at hr
  rw[Bc (by omega)]at hp;obtain⟨h1,_⟩:=zM.1 hr;simp at h1;rw[show i - done.length=0 by omega]at hr;rw[show i - Dv.length=0 by omega]at hp;simp at hr hp;subst hr;subst hp;exact LH h.last h.hB
theorem PV (a sh:Nat) (p:Value) (l:List ByteArray) (w:World) (hW:EU w p l) (hl:3<=l.length) (Ct:l.length<=4001):
  Calls Tryz.prog 202 #[.agg #[ab a,ab sh,p]] w λe w'=>∃g cap Ak,e=.returned (ae g (AE l).length cap)/\Q7 w' w.heap.size (ae g (AE l).length cap) (AE l) Ak/\Below w.heap.size w w':=by
 refine(mA a sh p l w hW hl Ct).mono ?_;rintro e w' ⟨v,Bl,Dv,pl,rfl,hR,hb⟩;have h:=hR.rows;obtain⟨g,cap,hv,_⟩:=B4 h.row (by simp);subst hv;exact⟨g,cap,_,rfl,h,hb⟩
theorem Q7.at {w w':World}{B g n cap:Nat}{rs:List (List ByteArray)}{Ak:List Value} (h:Q7 w B (ae g n cap) rs Ak) (hn:rs.length=n) (hb:Below w.heap.size w w') {k:Nat} (hk:k<n):
  ∃r p,rs[k]?=some r/\w'.cell? (af g k)=some p/\w'.ownsRow B 9 1 p r.length (r.map Value.string)/\(∀q,p.ownBlock=some q->q<w.heap.size):=by
 have hr:=h.row;rw[hn]at hr;have hpl:Ak.length=n:=by have:=hr.1;omega
 have hp:Ak[k]?=some (Ak[k]'(by omega)):=gE (by omega);have Co:rs[k]?=some (rs[k]'(by omega)):=gE (by omega);have he:=h.each k _ _ Co hp;refine⟨_,_,Co,?_,AC he (A5.zQ hb []) (by simp),λq hq=>D8 he hq⟩;rw[hb.cell (D8 hr (g:=g) rfl),hr.cellAt k (by omega),hp]
def SK (w:World) (v:Value) (us:List ByteArray):Prop:=∃(ad:Option Addr) (cap:Nat),v=.slice ad us.length cap/\us.length<=cap/\(0<us.length->∃g off,ad=some (af g off)/\DV w g off us)
theorem qI {e g cap:Nat}{xs:List Value} (h:w.ownsRow B e 1 (ae g n cap) n xs):∀j u,xs[j]?=some u->w.cell? (((af g 0):Addr).add j)=some u:=λj u hu=>by
 have hadd:((af g 0):Addr).add j=(af g j):=by unfold Addr.add;split <;> simp_all
 have hj:=(zM.1 hu).1;have:=h.1;rw[hadd,h.cellAt j (by omega),hu]
theorem rM {us:List ByteArray} (h:w.ownsRow B 9 1 v n (us.map Value.string)) (hn:n=us.length):SK w v us:=by
 subst hn
 rcases h.2 with⟨h1,h2⟩ | ⟨g,cap,cur,h1,_,_,hnc,_⟩
 ·exact⟨none,0,by rw[h1,h2],by omega,λh=>by omega⟩
 ·subst h1
  exact⟨_,_,rfl,hnc,λ_=>⟨g,0,rfl,dP h rfl⟩⟩
theorem lX (a:Nat) (p:Value) (l:List ByteArray) (w:World) (hW:EU w p l) (hl:3<=l.length) (Ct:l.length<=4001):
  Calls Tryz.prog 211 #[.agg #[ab a,ab 2,p]] w λe w'=>∃v,e=.returned v/\SK w' v (AE l).flatten/\Below w.heap.size w w':=by
 obtain⟨i0,hi,hz0,hz1,hz2⟩:=iy Tryz.info9;have hW1:EU (w.alloc (.cells #[ab a,ab 2,p] 325)) p l:=hW.below ((ah _ _).alloc (zn _) _);have cR:=PV a 2 p l _ hW1 hl Ct;obtain⟨n,hn⟩:=qE ((AE l).length);have Hi:n<=4002:=by have:=RQ l;omega
 rw[hn]at cR;have HN:Hid ((AE l).length=n):=hid hn;have CR:=hid cR;have zL:Hid (Below w.heap.size w (w.alloc (.cells #[ab a,ab 2,p] 325))):=hid ((ah _ _).alloc (zn _) _);have HLL:Hid (l.length<=4001):=hid Ct;obtain⟨gw,m,mc,ad,cs,rfl,_⟩:=hW;clear cR hn hW1 hl Ct
 go_enter Tryz.func211,Tryz.ntmps211
 go_wp2_with (first | (go_at_call 202;refine CR.out.mono ?_;rintro e w2 ⟨g,cap,Ak,rfl,hR,hb2⟩))
 have Ty:Below w.heap.size w w2:=zL.out.trans (hb2.mono zL.out.size);have zO:=hid Ty;have HR:=hid hR;clear hb2 Ty hR CR zL
 go_loopw [3,18] (λv i wr=>∃(k un:Nat),k<=n/\un<=4001/\i=ab k/\Hid (((AE l).take k).flatten.length=un)/\wr.ownsRow w2.heap.size 9 1 v un ((((AE l).take k).flatten).map Value.string)/\Hid (Below w2.heap.size w2 wr)) (λ_ i _=>n - (intOf i).toNat)
 case atStart=>exact⟨0,0,by omega,by omega,rfl,rfl,jg _ _ _ _,ah _ _⟩
 case round=>
  obtain⟨k,un,hk,hun,rfl,hul,hown,hbr⟩:=hrel;have hsz:=hbr.out.size
  by_cases hlt:k<n
  ·obtain⟨r,q,hr,hq,hrow,hqb⟩:=HR.out.at HN.out hbr.out hlt
   have HT:Hid (((AE l).take (k+1)).flatten=((AE l).take k).flatten++r):=hid (by
    obtain⟨hk',e⟩:=zM.1 hr;rw[iq hk',y9,e];simp)
   have hle:un+r.length<=4001:=by
    have h1:=LU l (k+1);rw[HT.out,lA,hul.out]at h1;have:=HLL.out;omega
   rcases hrow.2 with⟨h1,h2⟩ | ⟨gq,aic,cur,h1,_,_,hnc,_⟩
   ·subst h1
    have Hz:r=[]:=tj h2;subst Hz;clear hqb hrow hr
    go_wp2_with (first
     | (at_builtin;refine wpList_append_own_none rfl _ _ 39 rfl w2.heap.size 9 i0 1 Tryz.underlying39 hi _ _ _ rfl hown rfl ?_))
    go_roundw
    case rel=>exact⟨k+1,un,by omega,hun,by go_num,hid (by rw[HT.out,fy];exact hul.out),by rw[HT.out,fy];exact hown,hbr⟩
    case measure=>simp[intOf];omega
   ·subst h1
    obtain⟨rn,Jw⟩:=qE (r.length);rw[Jw]at hrow hle hnc hq;have hnews:=qI hrow;have HRN:Hid (r.length=rn):=hid Jw;have hlen:(r.map Value.string).length=rn*1:=by simp[Jw]
    clear Jw hqb hrow hr
    go_wp2_with (first
     | (at_builtin;(refine yD _ rfl _ _ 39 rfl w2.heap.size 9 i0 (.string ByteArray.empty) 1 16 Tryz.underlying39 hi hz0 hz1 hz2 rfl (by decide) _ _ _ rfl hown (af gq 0) rn aic (r.map Value.string) rfl hlen hnews ?c2 ?c3 ?c4 ?c5 ?_)))
    case c2=>intro u hu;simp at hu;obtain⟨y,_,rfl⟩:=hu;rfl
    case c3=>unfold maxLen;omega
    case c4=>omega
    case c5=>exact hsz
    intro v' w3 Ad Ae _;have acJ:Hid (Below w2.heap.size w2 w3):=hid (hbr.out.grown Ae hsz (λj hj=>(hown.lt j hj).1));clear Ae hnews;go_wp2
    go_roundw
    case rel=>exact⟨k+1,un+rn,by omega,hle,by go_num,hid (by rw[HT.out,lA,hul.out,HRN.out]),by rw[HT.out,fq,List.map_flatten,List.map_take];exact Ad,acJ⟩
    case measure=>simp[intOf];omega
  ·have HE:Hid ((AE l).take k=AE l):=hid (jk La)
   have HO:=hid (rM hown hul.out.symm);clear hown;go_wp2;go_ret;rw[<-HE.out];exact⟨_,rfl,HO.out,zO.out.trans (hbr.out.mono zO.out.size)⟩
theorem pC (a:Nat) (p:Value) (l:List ByteArray) (w:World) (hW:EU w p l) (hl:3<=l.length) (Ct:l.length<=4001):
  Calls Tryz.prog 211 #[.agg #[ab a,ab 1,p]] w λe w'=>∃v,e=.returned v/\SK w' v [nth l 1,nth l 2]/\Below w.heap.size w w':=by
 obtain⟨g,n,cap,ad,cs,rfl,h2,h3,h4,h5,h6,h7⟩:=hW;have had:=h7 (by omega);subst had;have hb:Below w.heap.size w (w.alloc (.cells #[ab a,ab 1,.slice (some (af g 1)) n cap] 325)):=(ah _ _).alloc (zn _) _;have hcap2:2<=cap:=by omega
 have hn2:2<=n:=by omega
 have hz:¬cap=0:=by omega
 have HU:Hid (SK (w.alloc (.cells #[ab a,ab 1,.slice (some (af g 1)) n cap] 325)) (.slice (some (af g 1)) 2 cap) [nth l 1,nth l 2]):=hid (by
  refine⟨_,_,rfl,hcap2,λ_=>⟨g,1,rfl,lL (ak h5) hb.size,λj hj=>?_⟩⟩;rw[hb.cell (by exact ak h5),A0 h5];have h':j=0\/j=1:=by simp at hj;omega
  rcases h' with rfl |rfl
  ·exact h6 1 (by omega)
  ·exact h6 2 (by omega))
 have HB:=hid hb;clear h5 h6 h7 h2 hb hl Ct
 go_enter Tryz.func211,Tryz.ntmps211
 go_wp2;go_ret;exact⟨_,rfl,HU.out,HB.out⟩
theorem qR (a:Nat) (p:Value) (l:List ByteArray) (w:World) (hW:EU w p l):
  Calls Tryz.prog 211 #[.agg #[ab a,ab 0,p]] w λe w'=>∃v,e=.returned v/\SK w' v []/\Below w.heap.size w w':=by
 obtain⟨g,n,cap,ad,cs,rfl,_⟩:=hW;have HB:Hid (Below w.heap.size w (w.alloc (.cells #[ab a,ab 0,.slice ad n cap] 325))):=hid ((ah _ _).alloc (zn _) _)
 go_enter Tryz.func211,Tryz.ntmps211
 go_wp2;go_ret;exact⟨_,rfl,⟨none,0,rfl,zn _,λh=>by simp at h⟩,HB.out⟩
def cH (o:Option Nat):Value:=match o with |some a=>.tuple #[ab a,.bool true] |none=>.tuple #[ab 0,.bool false]
def EA (rs:List (List ByteArray)):Nat:=rs.foldl (λm r=>max m r.length) 0
abbrev Ln:=Nat × Nat × List ByteArray
def CK:List Ln->Nat->Nat->Nat->Option Nat
 | [],_,_,_=>none
 |x::rest,t,n,r=>
  if 20< (if x.2.1=0 then t+1 else t)\/20< (if x.2.1=2 then n+1 else n)\/60< (if x.2.1=2 then r+(AE x.2.2).length else r)\/8< (if x.2.1=2 then EA (AE x.2.2)else 0)then some x.1
  else CK rest (if x.2.1=0 then t+1 else t) (if x.2.1=2 then n+1 else n) (if x.2.1=2 then r+(AE x.2.2).length else r)
def V0 (x:Ln):Prop:=3<=x.2.2.length/\x.2.2.length<=4001
theorem sW {ls:List Ln}{x:Ln} (hx:ls[k]?=some x) (t n r:Nat):CK (ls.drop k) t n r=
  if 20< (if x.2.1=0 then t+1 else t)\/20< (if x.2.1=2 then n+1 else n)\/60< (if x.2.1=2 then r+(AE x.2.2).length else r)\/8< (if x.2.1=2 then EA (AE x.2.2)else 0)then some x.1
  else CK (ls.drop (k+1)) (if x.2.1=0 then t+1 else t) (if x.2.1=2 then n+1 else n) (if x.2.1=2 then r+(AE x.2.2).length else r):=by
 obtain⟨hk,e⟩:=zM.1 hx;rw[gm hk,e];rfl
theorem kC {rs:List (List ByteArray)}{r:List ByteArray} (hr:rs[k]?=some r):EA (rs.take (k+1))=max (EA (rs.take k)) r.length:=by
 obtain⟨hk,e⟩:=zM.1 hr;rw[iq hk,e];unfold EA;rw[ux];rfl
theorem TR {t r g:Nat}:20<t\/(¬20<t/\20<n)\/(¬20<t/\¬20<n/\60<r)\/(¬20<t/\¬20<n/\¬60<r/\8<g)\/(¬20<t/\¬20<n/\¬60<r/\¬8<g):=by omega
theorem dI (v:Value) (ls:List Ln) (pv:List Value) (B:Nat) (w:World) (hV:Bv w B v ls pv) (hn:ls.length<=4000) (hok:∀x∈ls,V0 x):
  Calls Tryz.prog 168 #[v] w λe w'=>e=.returned (cH (CK ls 0 0 0))/\Below w.heap.size w w':=by
 rcases hV.form with⟨rfl,rfl⟩ | ⟨g,cap,rfl,hnc,hg⟩
 ·clear hV
  go_enter Tryz.func168,Tryz.ntmps168
  go_wp2
  go_loopw [4,5,6,14] (λa b c i wr=>a=ab 0/\b=ab 0/\c=ab 0/\i=ab 0/\wr=w) (λ_ _ _ i _=>0)
  case atStart=>exact⟨rfl,rfl,rfl,rfl,rfl⟩
  case round=>
   obtain⟨rfl,rfl,rfl,rfl,rfl⟩:=hrel;go_wp2
   go_ret2
   exact⟨rfl,ah _ _⟩
 ·obtain⟨n,hN⟩:=qF (ls.length)
  rw[<-hN]at hn hnc hV ⊢;have HN:Hid (n=ls.length):=hid hN;have HV:=hid hV;have Bq:=hid hok;clear hN hV hok
  go_enter Tryz.func168,Tryz.ntmps168
  go_wp2
  go_loopw [4,5,6,14] (λa b c i wr=>∃k t nm ru:Nat,k<=n/\t<=4000/\nm<=4000/\ru<=100/\a=ab t/\b=ab nm/\c=ab ru/\i=ab k/\Hid (CK ls 0 0 0=CK (ls.drop k) t nm ru)/\Hid (Below w.heap.size w wr)) (λ_ _ _ i _=>n - (intOf i).toNat)
  case atStart=>exact⟨0,0,0,0,by omega,by omega,by omega,by omega,rfl,rfl,rfl,rfl,rfl,ah _ _⟩
  case round=>
   obtain⟨k,t,nm,ru,hk,ht,hnm,hru,rfl,rfl,rfl,rfl,hm,hbr⟩:=hrel;have hsz:=hbr.out.size
   by_cases hlt:k<n
   ·obtain⟨x,hx⟩:∃x,ls[k]?=some x:=⟨_,gE La⟩
    have Eg:=Bq.out x (mG hx);have hM:=sW hx t nm ru;obtain⟨p,hp,Dz,k0,k1,k2⟩:=(HV.out.below hbr.out).at hx;obtain⟨at_,sh,l⟩:=x;simp only at k0 k1 k2 hM Dz;have HX:Hid (V0 (at_,sh,l)):=hid Eg;have hgr:g<wr.heap.size:=lL hg hsz;have Ju:=hid Dz;obtain⟨gw,m,mc,ad,cs,rfl,_⟩:=Dz;have zL:Hid (Below w.heap.size w (wr.alloc (.cells #[ab at_,ab sh,.slice ad m mc] 325))):=hid (hbr.out.alloc hsz _);have Cy:Hid (Below wr.heap.size wr (wr.alloc (.cells #[ab at_,ab sh,.slice ad m mc] 325))):=hid ((ah _ _).alloc (zn _) _);clear hp hx Eg
    by_cases h0:sh=0
    ·subst h0
     simp only[xZ,aq (show ¬(0:Nat)=2 by decide)]at hM;have HM:=hid (hm.out.trans hM);clear hM hm
     rcases TR (t:=t+1) (n:=nm) (r:=ru) (g:=0)with h1 | ⟨h1,h2⟩ | ⟨h1,h2,h3⟩ | ⟨h1,h2,h3,h4⟩ | ⟨h1,h2,h3,h4⟩
     ·have HE:Hid (CK ls 0 0 0=some at_):=hid Qv
      have hi1:(20:Int)< (t:Int)+1:=by omega
      clear HM;go_wp2
      go_ret2
      exact⟨by rw[HE.out];rfl,zL.out⟩
     ·have HE:Hid (CK ls 0 0 0=some at_):=hid Qv
      have hi1:¬((20:Int)< (t:Int)+1):=by omega
      have hi2:(20:Int)< (nm:Int):=by omega
      clear HM;go_wp2
      go_ret2
      exact⟨by rw[HE.out];rfl,zL.out⟩
     ·have HE:Hid (CK ls 0 0 0=some at_):=hid Qv
      have hi1:¬((20:Int)< (t:Int)+1):=by omega
      have hi2:¬((20:Int)< (nm:Int)):=by omega
      have Ea:(60:Int)< (ru:Int):=by omega
      clear HM;go_wp2
      go_ret2
      exact⟨by rw[HE.out];rfl,zL.out⟩
     ·omega
     ·have HE:Hid (CK ls 0 0 0=CK (ls.drop (k+1)) (t+1) (nm) (ru)):=hid adR
      have hi1:¬((20:Int)< (t:Int)+1):=by omega
      have hi2:¬((20:Int)< (nm:Int)):=by omega
      have Ea:¬((60:Int)< (ru:Int)):=by omega
      have hi4:¬((8:Int)< (0:Int)):=by omega
      clear HM;go_wp2
      go_roundw
      case rel=>exact⟨k+1,t+1,nm,ru,by omega,by omega,by omega,by omega,by first |rfl |go_num,by first |rfl |go_num,by first |rfl |go_num,by go_num,HE,hid zL.out⟩
      case measure=>simp[intOf];omega
    ·have hs0:¬((sh:Int)=0):=by omega
     by_cases h2:sh=2
     ·subst h2
      obtain⟨W,hW⟩:=qF (wr);subst hW;simp only[xZ,aq (show ¬(2:Nat)=0 by decide)]at hM;have HM0:=hid (hm.out.trans hM);have cR:=PV at_ 2 (.slice ad m mc) l _ (Ju.out.below Cy.out) HX.out.1 HX.out.2;obtain⟨rn,Jw⟩:=qE ((AE l).length);have hrl:rn<=4002:=by have h1:=RQ l;have h2:=HX.out.2;simp only at h2;omega
      rw[Jw]at cR;have CR:=hid cR;have HRN:Hid ((AE l).length=rn):=hid Jw;clear hM hm cR Jw h0 hs0
      go_wp2_with (first | (go_at_call 202;refine CR.out.mono ?_;rintro e w2 ⟨gr,Ia,Ak,rfl,hR,hb2⟩))
      have Ty:Below w.heap.size w w2:=zL.out.trans (hb2.mono zL.out.size);have zO:=hid Ty;have HR:=hid hR;have q0:w2.cell? (af W.heap.size 0)=some (ab at_):=by
       rw[hb2.cell (by simp)];rw[A0 (dz W _)];rfl
      have afF:=hb2.size;clear hb2 Ty hR CR;have hbk:W.heap.size<w2.heap.size:=by have:=afF;simp at this;omega
      have Rb:=hid q0;clear q0 afF
      go_loopw [6,9,31] (λc lg i wi=>∃(q Pe:Nat),q<=rn/\Pe<=4001/\c=ab ((ru:Int)+q)/\lg=ab Pe/\i=ab q/\Hid (EA ((AE l).take q)=Pe)/\Hid (Below w2.heap.size w2 wi)) (λ_ _ i _=>rn - (intOf i).toNat)
      case atStart=>exact⟨0,0,by omega,by omega,by first |rfl |go_num,rfl,rfl,rfl,ah _ _⟩
      case round=>
       obtain⟨q,Pe,hq,hlg,rfl,rfl,rfl,afG,Eh⟩:=hrel
       by_cases My:q<rn
       ·obtain⟨r,pr,hr,Mz,hrow,_⟩:=HR.out.at HRN.out Eh.out My
        have HL2:Hid (EA ((AE l).take (q+1))=max Pe r.length):=hid (by rw[kC hr,afG.out]);have acK:r.length<=4001:=by
         have h1:=LU l (q+1);obtain⟨hk',e⟩:=zM.1 hr;rw[iq hk',y9,e]at h1;simp at h1;have h2:=HX.out.2;simp only at h2;omega
        obtain⟨pa,pc,Vw⟩:=BO hrow;subst Vw;obtain⟨rl,afH⟩:=qE (r.length);rw[afH]at acK Mz HL2;clear hr hrow afH;go_wp2
        go_roundw
        case rel=>exact⟨q+1,max Pe rl,by omega,by omega,by go_num,by first |rfl |go_num,by go_num,HL2,Eh⟩
        case measure=>simp[intOf];omega
       ·have HG:Hid (EA (AE l)=Pe):=hid (by
         have h:=afG.out
         rwa [jk (by have:=HRN.out;omega)]at h)
        have hqr:q=rn:=by omega
        subst hqr;have HM:Hid (CK ls 0 0 0=if 20<t\/20<nm+1\/60<ru+q\/8<Pe then some at_ else CK (ls.drop (k+1)) t (nm+1) (ru+q)):=hid (by
         have h:=HM0.out;rw[HRN.out,HG.out]at h;exact h)
        have Ap:Hid (Below w.heap.size w wr):=hid (zO.out.trans (Eh.out.mono zO.out.size));have q1:wr.cell? (af W.heap.size 0)=some (ab at_):=(Eh.out.cell (by exact hbk)).trans Rb.out;clear HM0
        rcases TR (t:=t) (n:=nm+1) (r:=ru+q) (g:=Pe)with h1 | ⟨h1,h2⟩ | ⟨h1,h2,h3⟩ | ⟨h1,h2,h3,h4⟩ | ⟨h1,h2,h3,h4⟩
        ·have HE:Hid (CK ls 0 0 0=some at_):=hid Qv
         have hi1:(20:Int)< (t:Int):=by omega
         clear HM;go_wp2
         go_ret2
         exact⟨by rw[HE.out];rfl,Ap.out⟩
        ·have HE:Hid (CK ls 0 0 0=some at_):=hid Qv
         have hi1:¬((20:Int)< (t:Int)):=by omega
         have hi2:(20:Int)< (nm:Int)+1:=by omega
         clear HM;go_wp2
         go_ret2
         exact⟨by rw[HE.out];rfl,Ap.out⟩
        ·have HE:Hid (CK ls 0 0 0=some at_):=hid Qv
         have hi1:¬((20:Int)< (t:Int)):=by omega
         have hi2:¬((20:Int)< (nm:Int)+1):=by omega
         have Ea:(60:Int)< (ru:Int)+q:=by omega
         clear HM;go_wp2
         go_ret2
         exact⟨by rw[HE.out];rfl,Ap.out⟩
        ·have HE:Hid (CK ls 0 0 0=some at_):=hid Qv
         have hi1:¬((20:Int)< (t:Int)):=by omega
         have hi2:¬((20:Int)< (nm:Int)+1):=by omega
         have Ea:¬((60:Int)< (ru:Int)+q):=by omega
         have hi4:(8:Int)< (Pe:Int):=by omega
         clear HM;go_wp2
         go_ret2
         exact⟨by rw[HE.out];rfl,Ap.out⟩
        ·have HE:Hid (CK ls 0 0 0=CK (ls.drop (k+1)) (t) (nm+1) (ru+q)):=hid adR
         have hi1:¬((20:Int)< (t:Int)):=by omega
         have hi2:¬((20:Int)< (nm:Int)+1):=by omega
         have Ea:¬((60:Int)< (ru:Int)+q):=by omega
         have hi4:¬((8:Int)< (Pe:Int)):=by omega
         clear HM;go_wp2
         go_roundw
         case rel=>exact⟨k+1,t,nm+1,ru+q,by omega,by omega,by omega,by omega,by first |rfl |go_num,by first |rfl |go_num,by first |rfl |go_num,by go_num,HE,hid Ap.out⟩
         case measure=>simp[intOf];omega
     ·simp only[aq h0,aq h2]at hM
      have HM:=hid (hm.out.trans hM);have hs2:¬((sh:Int)=2):=by omega
      clear hM hm h0 h2
      rcases TR (t:=t) (n:=nm) (r:=ru) (g:=0)with h1 | ⟨h1,h2⟩ | ⟨h1,h2,h3⟩ | ⟨h1,h2,h3,h4⟩ | ⟨h1,h2,h3,h4⟩
      ·have HE:Hid (CK ls 0 0 0=some at_):=hid Qv
       have hi1:(20:Int)< (t:Int):=by omega
       clear HM;go_wp2
       go_ret2
       exact⟨by rw[HE.out];rfl,zL.out⟩
      ·have HE:Hid (CK ls 0 0 0=some at_):=hid Qv
       have hi1:¬((20:Int)< (t:Int)):=by omega
       have hi2:(20:Int)< (nm:Int):=by omega
       clear HM;go_wp2
       go_ret2
       exact⟨by rw[HE.out];rfl,zL.out⟩
      ·have HE:Hid (CK ls 0 0 0=some at_):=hid Qv
       have hi1:¬((20:Int)< (t:Int)):=by omega
       have hi2:¬((20:Int)< (nm:Int)):=by omega
       have Ea:(60:Int)< (ru:Int):=by omega
       clear HM;go_wp2
       go_ret2
       exact⟨by rw[HE.out];rfl,zL.out⟩
      ·omega
      ·have HE:Hid (CK ls 0 0 0=CK (ls.drop (k+1)) (t) (nm) (ru)):=hid adR
       have hi1:¬((20:Int)< (t:Int)):=by omega
       have hi2:¬((20:Int)< (nm:Int)):=by omega
       have Ea:¬((60:Int)< (ru:Int)):=by omega
       have hi4:¬((8:Int)< (0:Int)):=by omega
       clear HM;go_wp2
       go_roundw
       case rel=>exact⟨k+1,t,nm,ru,by omega,by omega,by omega,by omega,by first |rfl |go_num,by first |rfl |go_num,by first |rfl |go_num,by go_num,HE,hid zL.out⟩
       case measure=>simp[intOf];omega
   ·have HE:Hid (CK ls 0 0 0=none):=hid (by rw[hm.out,oc La];rfl)
    go_wp2
    go_ret2
    exact⟨by rw[HE.out];rfl,hbr.out⟩
section
open Go.RowKit Go.WideMaps Go.Maps
theorem Tryz.lawStr:Keyed Tryz.prog 9:=string_keyed Tryz.underlying9
theorem Tryz.zeroInt (w:World):(zeroValue 3).run Tryz.prog w=.ok (ab 0) w:=by kernel_rfl
def EQ (x s:ByteArray):Bool:=decide (x.data.toList=s.data.toList)
def cnt (ws:List ByteArray) (s:ByteArray):Nat:=(ws.filter λx=>EQ x s).length
theorem JL {w':World}{b:Nat}{D:DataW Unit} (h:w.ownsMap Tryz.prog 9 (plainElem Tryz.prog 3) b n D) (hb:Below w.heap.size w w'):w'.ownsMap Tryz.prog 9 (plainElem Tryz.prog 3) b n D:=by
 have hlt:=h.lt;obtain⟨es,clock,h1,h2⟩:=h;exact⟨es,clock,(hb.block b hlt).trans h1,h2⟩
def KJ (w:World) (b n:Nat) (ws:List ByteArray):Prop:=∃D:DataW Unit,w.ownsMap Tryz.prog 9 (plainElem Tryz.prog 3) b n D/\IsMap D/\∀s:ByteArray,D.atKey (.string s.data.toList) (.lit (.int .i64 0))=.lit (.int .i64 (cnt ws s))
theorem KJ.below {w':World}{b:Nat}{ws:List ByteArray} (h:KJ w b n ws) (hb:Below w.heap.size w w'):KJ w' b n ws:=by
 obtain⟨D,hown,h2,h3⟩:=h;exact⟨D,JL hown hb,h2,h3⟩
theorem M9 {p:Addr} (h:w.cell? p=some v):p.block<w.heap.size:=by
 rcases jz p.block w.heap.size with h1 |h1
 ·exact h1
 ·unfold World.cell? at h
  rw[Array.getElem?_eq_none h1]at h;simp at h
theorem LI {a b:Int} (h:(DataW.lit (.int .i64 a):DataW Unit)=.lit (.int .i64 b)):a=b:=by
 injection h with h
 injection h
theorem aG (ws:List ByteArray) (x s:ByteArray):cnt (ws++ [x]) s=cnt ws s+if EQ x s=true then 1 else 0:=by
 unfold cnt;rw[ql,lA]
 by_cases h:EQ x s=true
 ·rw[ay h,rz (by exact h)];rfl
 ·rw[aq h,sj (by exact h)];rfl
theorem oC (ws:List ByteArray) (s:ByteArray):cnt ws s<=ws.length:=qy _ _
theorem VL {D:DataW Unit}{ws:List ByteArray} (hm:IsMap D) (h:∀s:ByteArray,D.atKey (.string s.data.toList) (.lit (.int .i64 0))=.lit (.int .i64 (cnt ws s))) (x:ByteArray):
  ∀s:ByteArray,(D.put (.string x.data.toList) (.lit (.int .i64 ((cnt ws x:Int)+1)))).atKey (.string s.data.toList) (.lit (.int .i64 0))=.lit (.int .i64 (cnt (ws++ [x]) s)):=by
 intro s;rw[aG]
 by_cases e:x.data.toList=s.data.toList
 ·have h2:cnt ws x=cnt ws s:=by unfold cnt EQ;rw[e]
  have h3:EQ x s=true:=iz e;rw[<-e,atKey_put_same hm (by trivial),ay h3,<-h2];rfl
 ·have h3:¬EQ x s=true:=λh=>e (kg h)
  rw[atKey_put_other (λh=>e (by injection h with h;exact h.symm)),h s,aq h3];rfl
def D3:List Ln->List ByteArray->Option Nat
 | [],_=>none
 |x::r,ws=>if(BI x.2.1 x.2.2).toList.isEmpty then D3 r ws else if 0<cnt ws (BI x.2.1 x.2.2)then some x.1 else D3 r (ws++ [BI x.2.1 x.2.2])
theorem oO {ls:List Ln}{x:Ln} (hx:ls[k]?=some x) (ws:List ByteArray):D3 (ls.drop k) ws=
  if(BI x.2.1 x.2.2).toList.isEmpty then D3 (ls.drop (k+1)) ws else if 0<cnt ws (BI x.2.1 x.2.2)then some x.1 else D3 (ls.drop (k+1)) (ws++ [BI x.2.1 x.2.2]):=by
 obtain⟨hk,e⟩:=zM.1 hx;rw[gm hk,e];rfl
theorem YH (v:Value) (ls:List Ln) (pv:List Value) (B:Nat) (w:World) (hV:Bv w B v ls pv) (hn:ls.length<=4000) (hok:∀x∈ls,V0 x) (hsz:∀x∈ls,(BI x.2.1 x.2.2).size<=4000):
  Calls Tryz.prog 167 #[v] w λe w'=>e=.returned (cH (D3 ls []))/\Below w.heap.size w w':=by
 have Rc:= @run_makeMap Tryz.prog
 rcases hV.form with⟨rfl,rfl⟩ | ⟨g,cap,rfl,hnc,hg⟩
 ·clear hV
  have HB:Hid (Below w.heap.size w (w.alloc (.map #[] 0))):=hid ((ah _ _).alloc (zn _) _)
  go_enter Tryz.func167,Tryz.ntmps167
  go_wp2
  go_loopw [11] (λi wr=>i=ab 0/\Hid (Below w.heap.size w wr)) (λi _=>0)
  case atStart=>exact⟨rfl,HB⟩
  case round=>
   obtain⟨rfl,hbr⟩:=hrel;go_wp2
   go_ret2
   exact⟨rfl,hbr.out⟩
 ·obtain⟨n,hN⟩:=qF (ls.length)
  rw[<-hN]at hn hnc hV ⊢;have HN:Hid (n=ls.length):=hid hN;have HV:=hid hV;have Bq:=hid hok;have HSZ:=hid hsz;have HB:Hid (Below w.heap.size w (w.alloc (.map #[] 0))):=hid ((ah _ _).alloc (zn _) _);have HM:Hid (KJ (w.alloc (.map #[] 0)) w.heap.size 0 []):=hid ⟨_,yx _ _ _ _,isMap_empty,λs=>rfl⟩;clear hN hV hok hsz
  go_enter Tryz.func167,Tryz.ntmps167
  go_wp2;clear Rc
  go_loopw [11] (λi wr=>∃(k:Nat) (ws:List ByteArray),k<=n/\i=ab k/\Hid (ws.length<=k)/\Hid (D3 ls []=D3 (ls.drop k) ws)/\Hid (KJ wr w.heap.size k ws)/\Hid (Below w.heap.size w wr)) (λi _=>n - (intOf i).toNat)
  case atStart=>exact⟨0,[],by omega,rfl,hid (by simp),rfl,HM,HB⟩
  case round=>
   clear HM HB;obtain⟨k,ws,hk,rfl,Cs,ht,hm,hbr⟩:=hrel;have hsz:=hbr.out.size
   by_cases hlt:k<n
   ·obtain⟨x,hx⟩:∃x,ls[k]?=some x:=⟨_,gE La⟩
    have Eg:=Bq.out x (mG hx);have hxs:=HSZ.out x (mG hx);have hT:=oO hx ws;obtain⟨p,hp,Dz,k0,k1,k2⟩:=(HV.out.below hbr.out).at hx;obtain⟨at_,sh,l⟩:=x;simp only at k0 k1 k2 hT Dz hxs;have hgr:g<wr.heap.size:=lL hg hsz;have Ju:=hid Dz;obtain⟨gw,m,mc,ad,cs,rfl,_⟩:=Dz;have zL:Hid (Below w.heap.size w (wr.alloc (.cells #[ab at_,ab sh,.slice ad m mc] 325))):=hid (hbr.out.alloc hsz _);have Cy:Hid (Below wr.heap.size wr (wr.alloc (.cells #[ab at_,ab sh,.slice ad m mc] 325))):=hid ((ah _ _).alloc (zn _) _);obtain⟨wd,hwd⟩:=qE (BI sh l);have cG:=QV at_ sh (.slice ad m mc) l _ (Ju.out.below Cy.out) adN Eg.2;rw[hwd]at cG hT hxs;have CG:=hid cG;have HT:=hid (ht.out.trans hT);obtain⟨D,hown,hD,Rf⟩:=hm.out;have hkey:keyOf Tryz.prog 9 (.string wd)=some (.string wd.data.toList):=keyOf_string_mk Tryz.underlying9 Bg;have HC:Hid (D.atKey (.string wd.data.toList) (.lit (.int .i64 0))=.lit (.int .i64 (cnt ws wd))):=hid (Rf wd)
    have Rg:=hid (VL hD Rf wd);have Yv:Hid (IsMap (D.put (.string wd.data.toList) (.lit (.int .i64 ((cnt ws wd:Int)+1))))):=hid (hD.put _ _);have HM:Hid (KJ wr w.heap.size k ws):=hm;have Vq:=hid hown;have Tz:Hid (w.heap.size<=wr.heap.size):=hid hsz;have Na:=hid hkey;clear hp hx Eg ht hT cG hwd Rf hD hown hm hkey;cases he:wd.toList.isEmpty
    ·obtain⟨cc,hcc⟩:=qE (cnt ws wd)
     have afI:cc<=4000:=by have h1:=oC ws wd;have h2:=Cs.out;omega
     have HT2:Hid (D3 ls []=if 0<cc then some at_ else D3 (ls.drop (k+1)) (ws++ [wd])):=hid (by
      rw[HT.out,aq (by rw[he];decide),hcc])
     have HC3:Hid (D.atKey (.string wd.data.toList) (.lit (.int .i64 0))=.lit (.int .i64 cc)):=hid (by rw[HC.out,hcc]);have HD3:Hid (IsMap (D.put (.string wd.data.toList) (.lit (.int .i64 ((cc:Int)+1))))):=hid (by have:=Yv.out;rwa [hcc]at this);have Iy:Hid (∀s:ByteArray,(D.put (.string wd.data.toList) (.lit (.int .i64 ((cc:Int)+1)))).atKey (.string s.data.toList) (.lit (.int .i64 0))=.lit (.int .i64 (cnt (ws++ [wd]) s))):=hid (by have:=Rg.out;rwa [hcc]at this);have Dr:Hid (cnt (ws++ [wd]) wd=cc+1):=hid (by rw[aG,hcc,ay (show EQ wd wd=true from iz rfl)]);have Nb:Hid ((D.put (.string wd.data.toList) (.lit (.int .i64 ((cc:Int)+1)))).atKey (.string wd.data.toList) (.lit (.int .i64 0))=.lit (.int .i64 ((cc:Int)+1))):=hid (by rw[Iy.out wd,Dr.out];rfl);have Yw:Hid (w.heap.size<wr.heap.size):=hid (Vq.out.lt);clear HT HC Yv Rg hcc HM;have hk4:k<4000:=by omega
     by_cases hz:0<cc
     ·have HE:Hid (D3 ls []=some at_):=hid (by rw[HT2.out,ay hz])
      have hz1:(1:Int)< (cc:Int)+1:=by omega
      clear HT2
      go_wp2_with (first
       | (go_at_call 210;refine CG.out.mono ?_;rintro e w2 ⟨rfl,hb2⟩;have Iz:=JL (JL Vq.out Cy.out) hb2;have q2:w2.cell? (af wr.heap.size 0)=some (ab at_):=(hb2.cell (by simp)).trans (by rw[A0 (dz wr _)];rfl);obtain⟨c,hrun,hat,_⟩:=Iz.lookup_int Tryz.lawStr Tryz.underlying341 Tryz.underlying3 (Tryz.zeroInt _) Na.out;obtain rfl:c=(cc:Int):=LI (hat.symm.trans HC3.out);clear hat)
       | (at_mapUpdate;refine wm _ rfl _ _ _ 341 rfl 9 3 Tryz.lawStr Tryz.underlying341 _ w.heap.size k _ rfl Iz Bg _ _ _ rfl rfl Na.out _ [] (plainElem_int Tryz.underlying3 (WalkArith.wf_i64 (by omega))) ?_))
      intro w3 Ad Ae;obtain⟨c2,aid,abo,_⟩:=Ad.lookup_int Tryz.lawStr Tryz.underlying341 Tryz.underlying3 (Tryz.zeroInt _) Na.out;obtain rfl:c2=(cc:Int)+1:=LI (abo.symm.trans Nb.out);have Ty:Below wr.heap.size wr w2:=Cy.out.trans (hb2.mono Cy.out.size);have Ko:Below w.heap.size w w2:=zL.out.trans (hb2.mono zL.out.size);have Ap:Hid (Below w.heap.size w w3):=hid (Ko.grown Ae Ko.size (λj hj=>by cases hj;exact zn _));have q3:w3.cell? (af wr.heap.size 0)=some (ab at_):=(jh (Ae.block _ (M9 q2) (by have:=Yw.out;simp;omega))).trans q2;have Nc:Hid (KJ w3 w.heap.size (k+1) (ws++ [wd])):=hid ⟨_,Ad,HD3.out,Iy.out⟩;clear Ad Ae Iz hrun abo Ty Ko hb2 q2;go_wp2
      go_ret2
      exact⟨by rw[HE.out];rfl,Ap.out⟩
     ·have HE:Hid (D3 ls []=D3 (ls.drop (k+1)) (ws++ [wd])):=hid (by rw[HT2.out,aq hz])
      have hc0:cc=0:=by omega
      subst hc0;clear HT2 hz afI
      go_wp2_with (first
       | (go_at_call 210;refine CG.out.mono ?_;rintro e w2 ⟨rfl,hb2⟩;have Iz:=JL (JL Vq.out Cy.out) hb2;have q2:w2.cell? (af wr.heap.size 0)=some (ab at_):=(hb2.cell (by simp)).trans (by rw[A0 (dz wr _)];rfl);obtain⟨c,hrun,hat,_⟩:=Iz.lookup_int Tryz.lawStr Tryz.underlying341 Tryz.underlying3 (Tryz.zeroInt _) Na.out;obtain rfl:c=(0:Int):=LI (hat.symm.trans HC3.out);clear hat)
       | (at_mapUpdate;refine wm _ rfl _ _ _ 341 rfl 9 3 Tryz.lawStr Tryz.underlying341 _ w.heap.size k _ rfl Iz Bg _ _ _ rfl rfl Na.out _ [] (plainElem_int Tryz.underlying3 (WalkArith.wf_i64 (by omega))) ?_))
      intro w3 Ad Ae;obtain⟨c2,aid,abo,_⟩:=Ad.lookup_int Tryz.lawStr Tryz.underlying341 Tryz.underlying3 (Tryz.zeroInt _) Na.out;obtain rfl:c2=(1:Int):=LI (abo.symm.trans Nb.out);have Ty:Below wr.heap.size wr w2:=Cy.out.trans (hb2.mono Cy.out.size);have Ko:Below w.heap.size w w2:=zL.out.trans (hb2.mono zL.out.size);have Ap:Hid (Below w.heap.size w w3):=hid (Ko.grown Ae Ko.size (λj hj=>by cases hj;exact zn _));have q3:w3.cell? (af wr.heap.size 0)=some (ab at_):=(jh (Ae.block _ (M9 q2) (by have:=Yw.out;simp;omega))).trans q2;have Nc:Hid (KJ w3 w.heap.size (k+1) (ws++ [wd])):=hid ⟨_,Ad,HD3.out,Iy.out⟩;clear Ad Ae Iz hrun abo Ty Ko hb2 q2;go_wp2
      go_roundw
      case rel=>exact⟨k+1,ws++ [wd],by omega,by go_num,hid (by have:=Cs.out;simp;omega),HE,Nc,Ap⟩
      case measure=>simp[intOf];omega
    ·have HE:Hid (D3 ls []=D3 (ls.drop (k+1)) ws):=hid (by rw[HT.out,ay he])
     go_wp2_with (first | (go_at_call 210;refine CG.out.mono ?_;rintro e w2 ⟨rfl,hb2⟩))
     have Fj:Below wr.heap.size wr w2:=Cy.out.trans (hb2.mono Cy.out.size);have Nc:Hid (KJ w2 w.heap.size (k+1) ws):=hid (by
      obtain⟨D',h1,h2⟩:=HM.out.below Fj;exact⟨D',h1.mono (by omega),h2⟩)
     have zO:=hid (zL.out.trans (hb2.mono zL.out.size));clear Fj hb2
     go_roundw
     case rel=>exact⟨k+1,ws,by omega,by go_num,hid (by have:=Cs.out;omega),HE,Nc,zO⟩
     case measure=>simp[intOf];omega
   ·have HE:Hid (D3 ls []=none):=hid afB
    go_wp2
    go_ret2
    exact⟨by rw[HE.out];rfl,hbr.out⟩
end
end Go.Proofs.YtjjggdcnpndgjaaGreatDoor
