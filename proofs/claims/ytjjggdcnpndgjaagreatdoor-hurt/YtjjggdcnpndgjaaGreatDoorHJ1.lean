import Derived.WalkKit
import Derived.WalkSpells
import Derived.WalkLawsBesides
import Derived.Test.YtjjggdcnpndgjaaGreatDoorProg
set_option linter.unusedSimpArgs false
namespace Go.Proofs.YtjjggdcnpndgjaaGreatDoor
abbrev aq:=@if_pos
abbrev au:=@if_neg
abbrev bg:=@Go.World.size_alloc
abbrev bh:=@List.mem_cons
abbrev eo:=@List.mem_cons_self
abbrev ew:=@List.map_append
abbrev fj:=@List.mem_cons_of_mem
abbrev fq:=@decide_eq_false
abbrev gz:=@List.take_succ_eq_append_getElem
abbrev ij:=@decide_eq_true
abbrev jk:=@List.take_of_length_le
abbrev jl:=@Nat.zero_add
abbrev jy:=@List.not_mem_nil
abbrev ld:=@List.foldl_cons
abbrev nh:=@List.drop_eq_nil_of_le
abbrev qu:=@or_false
abbrev ux:=@List.mem_append_right
abbrev vh:=@List.mem_of_mem_take
abbrev wh:=@Int.toNat_of_nonneg
abbrev xZ:=@Int.emod_nonneg
theorem yg {P:Prop} (h:P:=by kernel_rfl):P:=h
theorem yM {P:Prop} (h:P:=by simp;omega):P:=h
theorem zX {P:Prop} (h:P:=by unfold maxLen;omega):P:=h
theorem Fb {P:Prop} (h:P:=by simp[Value.oneCell']):P:=h
theorem Cp {P:Prop} (h:P:=by simpa using e):P:=h
theorem Hw {P:Prop} (h:P:=by rw[bg];omega):P:=h
theorem Hj {P:Prop} (h:P:=by show g<w.heap.size;omega):P:=h
theorem Iz {P:Prop} (h:P:=by have:=HN.out;omega):P:=h
theorem Ka {P:Prop} (h:P:=by rintro⟨_,_,h⟩;exact h):P:=h
theorem Ov {P:Prop} (h:P:=by rw[HM.out,aq (by omega)]):P:=h
theorem Tf {P:Prop} (h:P:=by show w.heap.size<=w.heap.size+1;omega):P:=h
theorem Cx {P:Prop} (h:P:=by exact hg):P:=h
theorem Fp {P:Prop} (h:P:=by rw[hq];simp):P:=h
theorem Ow {P:Prop} (h:P:=by rw[Dl.out.len];omega):P:=h
theorem Ep {P:Prop} (h:P:=by simp[Sl]):P:=h
theorem Vo {P:Prop} (h:P:=by have:=HL.out;have:=hmk.out;omega):P:=h
theorem aeU {P:Prop} (h:P:=by obtain⟨es,clock,h4,h5⟩:=Tg.out;exact⟨es,clock,((Az.out.trans (hb2.mono Az.out.size)).block _ ahy).trans h4,h5⟩):P:=h
theorem Gd {P:Prop} (h:P:=by exact Au):P:=h
theorem Kb {P:Prop} (h:P:=by simpa using h):P:=h
theorem Zn {P:Prop} (h:P:=by show w.heap.size∉ [kb];simp;omega):P:=h
theorem abH {P:Prop} (h:P:=by rw[<-Zo.out,<-Zp.out,Dl.out.len];exact Qy):P:=h
theorem Zq {P:Prop} (h:P:=by show Q.wb<w4.heap.size;omega):P:=h
theorem Lc {P:Prop} (h:P:=by exact yF _):P:=h
theorem Zr {P:Prop} (h:P:=by show Q.wb<W.heap.size;omega):P:=h
theorem acS {P:Prop} (h:P:=by simp only[bh,jy,qu];omega):P:=h
theorem Ld {P:Prop} (h:P:=by rw[e];simp):P:=h
theorem abI {P:Prop} (h:P:=by rw[<-Zo.out];exact LB HRW.out hsz.out):P:=h
theorem Vp {P:Prop} (h:P:=by have:=HL.out;omega):P:=h
theorem Le {P:Prop} (h:P:=by simp[hx]):P:=h
theorem Zs {P:Prop} (h:P:=by rw[<-HL.out];exact hlt):P:=h
theorem abJ {P:Prop} (h:P:=by show w.heap.size<=W.heap.size;omega):P:=h
theorem Zt {P:Prop} (h:P:=by rw[<-H2.out];exact hlt):P:=h
theorem Na {P:Prop} (h:P:=by exact Qz):P:=h
theorem abK {P:Prop} (h:P:=by rw[e];exact eo ..):P:=h
theorem aeV {P:Prop} (h:P:=by rw[CK,au (by rw[Kc,hne];decide),au (by rw[Kc];exact hc)];rfl):P:=h
theorem Zu {P:Prop} (h:P:=by rw[HX.out];exact hx0):P:=h
theorem aaz {P:Prop} (h:P:=by show gN<w.heap.size;omega):P:=h
theorem aeW {P:Prop} (h:P:=by unfold Dm at zO ⊢;rw[ew,lA,Bp.out.len];exact zO):P:=h
theorem aaA {P:Prop} (h:P:=by have:=hI.fc.gr.Aj;omega):P:=h
theorem aeX {P:Prop} (h:P:=by rw[e];exact ux _ (fj _ hq)):P:=h
theorem Ra {P:Prop} (h:P:=by exact h.lt):P:=h
theorem aeY {P:Prop} (h:P:=by rw[ht.out,nh (by have:=HN.out;omega)];rfl):P:=h
theorem Zv {P:Prop} (h:P:=by rw[<-HL.out];omega):P:=h
theorem aeZ {P:Prop} (h:P:=by show Q.wb< (w1.alloc _).heap.size;rw[bg];omega):P:=h
theorem Rb {P:Prop} (h:P:=by exact Hl):P:=h
theorem Rc {P:Prop} (h:P:=by exact hs1):P:=h
theorem acT {P:Prop} (h:P:=by show w.heap.size+3<W6.heap.size;omega):P:=h
theorem acU {P:Prop} (h:P:=by have:=Cq.1;simp only at this;omega):P:=h
theorem Zw {P:Prop} (h:P:=by simpa using hfk):P:=h
theorem abL {P:Prop} (h:P:=by rw[<-Zo.out];exact abM):P:=h
theorem abN {P:Prop} (h:P:=by show gT<w.heap.size;omega):P:=h
theorem abO {P:Prop} (h:P:=by show gq<W.heap.size;omega):P:=h
theorem Rf {P:Prop} (h:P:=by simp[h0]):P:=h
theorem acV {P:Prop} (h:P:=by show w.heap.size<W.heap.size;omega):P:=h
theorem acW {P:Prop} (h:P:=by rw[H.out.gr.Rg,<-HN.out];exact Hx):P:=h
theorem ae0 {P:Prop} (h:P:=by show Q.wb< (W.alloc _).drew.heap.size;rw[Zx];omega):P:=h
theorem Th {P:Prop} (h:P:=by exact hs2):P:=h
theorem abP {P:Prop} (h:P:=by rw[mS.1 hq];exact yF _):P:=h
theorem abQ {P:Prop} (h:P:=by rw[<-HN.out];exact hlt):P:=h
theorem abR {P:Prop} (h:P:=by have:=Bq.out.1;omega):P:=h
theorem acX {P:Prop} (h:P:=by show Q.T.tb<W.heap.size;omega):P:=h
theorem aaB {P:Prop} (h:P:=by simpa using hne):P:=h
theorem acY {P:Prop} (h:P:=by rw[HM.out,au (by omega)]):P:=h
theorem Vq {P:Prop} (h:P:=by exact ogW):P:=h
theorem abS {P:Prop} (h:P:=by simp[Rows.tellsRow]):P:=h
theorem Zy {P:Prop} (h:P:=by rw[h4];simp):P:=h
theorem Zz {P:Prop} (h:P:=by exact h.Ox):P:=h
theorem aaC {P:Prop} (h:P:=by simpa using he):P:=h
theorem aaD {P:Prop} (h:P:=by simpa using hm):P:=h
theorem abT {P:Prop} (h:P:=by have:=zW.n0;omega):P:=h
theorem acZ {P:Prop} (h:P:=by show fb<W.heap.size;omega):P:=h
theorem ac0 {P:Prop} (h:P:=by have:=aaa.out.size;omega):P:=h
theorem ac1 {P:Prop} (h:P:=by have:=ac2.out.size;omega):P:=h
theorem abU {P:Prop} (h:P:=by rw[h.dl];exact hi):P:=h
theorem aaE {P:Prop} (h:P:=by rw[hf];omega):P:=h
theorem aab {P:Prop} (h:P:=by rw[e];rfl):P:=h
theorem abV {P:Prop} (h:P:=by simpa using h.ne):P:=h
theorem aac {P:Prop} (h:P:=by exact hWs):P:=h
theorem aad {P:Prop} (h:P:=by simp at h):P:=h
theorem aae {P:Prop} (h:P:=by exact ogS):P:=h
abbrev ab (n:Int):Value:=.int .i64 n
abbrev ac (b:Nat):Value:=.pointer (some ⟨b,0,none⟩)
abbrev ae (b n k:Nat):Value:=.slice (some ⟨b,0,none⟩) n k
abbrev af (b o:Nat):Addr:=⟨b,o,none⟩
variable {g k:Nat}{hi lo:Int}{l:List ByteArray}{s:ByteArray}{w w':World}
theorem qE {α:Sort _}(x:α):∃z,x=z:=⟨_,rfl⟩
theorem qF {α:Sort _}(x:α):∃z,z=x:=⟨_,rfl⟩
abbrev gE:=@List.getElem?_eq_getElem
abbrev yS:=@List.getElem?_eq_some_iff
abbrev mS:=@List.mem_singleton
abbrev lA:=@List.length_append
abbrev zh:=@List.getD_eq_getElem?_getD
abbrev mG:=@List.mem_of_getElem?
abbrev lL:=@Nat.lt_of_lt_of_le
abbrev zQ:=@List.getElem?_append_right
abbrev aL:=@List.getElem?_append_left
abbrev lC:=@List.length_cons
abbrev lM:=@List.length_map
abbrev Cy:=@IntKind.wrap_i64
abbrev gM:=@List.getElem?_map
abbrev aA:=@List.append_assoc
abbrev yF:=@Nat.le_refl
abbrev y5:=@Nat.le_trans
theorem hmx:Tryz.prog.follows .mixedOrders=true:=by kernel_rfl
open Go.RowKit
def DF (l:List UInt8) (lo hi:Int):Bool:=l.all λc=>decide (lo<=(c.toNat:Int))&&decide ((c.toNat:Int)<=hi)
def J2 (l:List UInt8) (lo hi n:Int):Bool:=decide (1<=l.length)&&(decide ((l.length:Int)<=n)&&DF l lo hi)
theorem XY (s:ByteArray) (k:Nat) (h:k<s.size):s.data.toList.take (k+1)=s.data.toList.take k++ [s[k]]:=by
 rw[gz Kb];rfl
theorem UB (l:List UInt8) (c:UInt8) (lo hi:Int):DF (l++ [c]) lo hi=(DF l lo hi&&(decide (lo<=(c.toNat:Int))&&decide ((c.toNat:Int)<=hi))):=by
 unfold DF;simp
theorem T8 {l:List UInt8} (h:DF (l.take k) lo hi=false):DF l lo hi=false:=by
 unfold DF at*;rw[List.all_eq_false]at*;obtain⟨x,hx,h⟩:=h;exact⟨x,vh hx,h⟩
theorem VS  (hk:k<s.size) (h:(s[k].toNat:Int)<lo\/hi< (s[k].toNat:Int)):DF s.data.toList lo hi=false:=by
 refine T8 (k:=k+1) ?_;rw[XY s k hk,UB]
 rcases h with h |h
 ·rw[fq (p:=lo<=(s[k].toNat:Int)) (by omega)];simp
 ·rw[fq (p:=(s[k].toNat:Int)<=hi) (by omega)];simp
theorem gY  (hk:k<s.size) (h0:DF (s.data.toList.take k) lo hi=true) (h:lo<=(s[k].toNat:Int)/\(s[k].toNat:Int)<=hi):
  DF (s.data.toList.take (k+1)) lo hi=true:=by
 rw[XY s k hk,UB,h0,ij h.1,ij h.2];rfl
theorem iZ  (hk:¬k<s.size) (h0:DF (s.data.toList.take k) lo hi=true):DF s.data.toList lo hi=true:=by
 rwa [jk yM]at h0
def KY (l:List UInt8):Bool:=J2 l 48 57 2&& !(l.head?==some 48)
def C4 (l:List UInt8):Int:=l.foldl (λn c=>10*n+(c.toNat:Int) - 48) 0
def BR (s:ByteArray) (a:Nat):ByteArray × Int:=
 match (s.data.toList.drop a).findIdx? (· ==10)with
 |some j=>(s.extract a (a+j),(a+j+1:Nat))
 |none=>(ByteArray.empty,0)
theorem hid {p:Prop} (h:p):Hid p:=h
def nth (l:List ByteArray) (j:Nat):ByteArray:=l.getD j ByteArray.empty
def DL (w:World) (g off:Nat) (l:List ByteArray):Prop:=g<w.heap.size/\∀j,j<l.length->w.cell? (af g (off+j))=some (.string (nth l j))
theorem DL.below {B off:Nat} (h:DL w g off l) (hb:Below B w w') (hg:g<B):DL w' g off l:=
 ⟨lL h.1 hb.size,λj hj=>(hb.cell Cx).trans (h.2 j hj)⟩
theorem DL.later {off:Nat} (h:DL w g off l) (hb:Below w.heap.size w w'):DL w' g off l:=h.below hb h.1
theorem dC {base t:Nat}{cap n:Nat} (h:w.ownsRow base t 1 (ae g n cap) n (l.map Value.string)) (hn:l.length=n):DL w g 0 l:=by
 refine⟨(h.lt g rfl).2,λj hj=>?_⟩;rw[jl,h.cellAt j (by omega)];unfold nth;simp[gE hj]
theorem AX {base t size:Nat}{v:Value}{n:Nat}{xs:List Value} (h:w.ownsRow base t size v n xs) (hn:0<n):∃g cap,v=ae g n cap/\base<=g/\g<w.heap.size/\n<=cap:=by
 have h0:=h
 rcases h.2 with⟨_,h2⟩ | ⟨g,cap,cur,hv,hg,hh,hnc,_⟩
 ·omega
 ·subst hv
  exact⟨g,cap,rfl,hg,(h0.lt g rfl).2,hnc⟩
def E9 (p:List ByteArray × ByteArray) (b:UInt8):List ByteArray × ByteArray:=if b=32 then(p.1++ [p.2],ByteArray.empty)else(p.1,p.2++⟨#[b]⟩)
def Oy (l:List UInt8):List ByteArray × ByteArray:=l.foldl E9 ([],ByteArray.empty)
def A9 (s:ByteArray):List ByteArray:=(Oy s.data.toList).1++ [(Oy s.data.toList).2]
theorem cU (p:List ByteArray × ByteArray) (b:UInt8):(E9 p b).1.length<=p.1.length+1/\(E9 p b).2.size<=p.2.size+1:=by
 unfold E9;have e1:(⟨#[b]⟩:ByteArray).size=1:=rfl;split
 ·simp
 ·simp[e1]
theorem l6 (l:List UInt8):(Oy l).1.length<=l.length/\(Oy l).2.size<=l.length:=by
 suffices h:∀(l:List UInt8) (p:List ByteArray × ByteArray),(l.foldl E9 p).1.length<=p.1.length+l.length/\(l.foldl E9 p).2.size<=p.2.size+l.length by
  have:=h l ([],ByteArray.empty);simpa[Oy] using this
 intro l
 induction l with
 |nil=>intro p;simp
 |cons b r ih=>
  intro p;have h1:=ih (E9 p b);have h2:=cU p b;simp only[ld,lC];omega
def DS (s:ByteArray):Bool:=J2 s.data.toList 97 122 8
def GM (s:ByteArray):Bool:=J2 s.data.toList 65 90 8
def DH (s:ByteArray):Bool:=KY s.data.toList
def I5 (s:ByteArray):Bool:=s.toList== [124]
def NP (s:ByteArray):Bool:=I5 s||(DS s||GM s)
def D6 (l:List ByteArray):Bool:=decide (l.length=4)&&(DS (nth l 1)&&(DH (nth l 2)&&DH (nth l 3)))
def BQ (l:List ByteArray):Bool:=decide (l.length=4)&&(DS (nth l 1)&&(DS (nth l 2)&&DH (nth l 3)))
def NI (l:List ByteArray):Bool:=decide (3<=l.length)&&(GM (nth l 1)&&((nth l 2).toList== [61]))
def CY (l:List ByteArray):Bool:=NI l&&(l.drop 3).all NP
def AR (l:List ByteArray):Bool:=
 if l.length=1 then(nth l 0).toList.isEmpty
 else if(nth l 0).toList== [116,111,107,101,110]then D6 l
 else if(nth l 0).toList== [115,119,97,112]then BQ l
 else if(nth l 0).toList== [114,117,108,101]then CY l else false
def AA (i:Nat):ByteArray:=⟨#[UInt8.ofNat (97+i)]⟩
def BL (i:Nat):ByteArray:=⟨#[UInt8.ofNat (65+i)]⟩
theorem I1 (i:Nat) (hi:i<6) (w:World):Calls Tryz.prog 31 #[ab i] w λe w'=>e=.returned (.string (AA i))/\w=w':=by
 have h:i=0\/i=1\/i=2\/i=3\/i=4\/i=5:=by omega
 rcases h with rfl |rfl |rfl |rfl |rfl |rfl
 all_goals
  go_enter Tryz.func31,Tryz.ntmps31
  go_wp2;go_ret;exact⟨rfl,rfl⟩
theorem R4 (i:Nat) (hi:i<4) (w:World):Calls Tryz.prog 33 #[ab i] w λe w'=>e=.returned (.string (BL i))/\w=w':=by
 have h:i=0\/i=1\/i=2\/i=3:=by omega
 rcases h with rfl |rfl |rfl |rfl
 all_goals
  go_enter Tryz.func33,Tryz.ntmps33
  go_wp2;go_ret;exact⟨rfl,rfl⟩
theorem U6 (i:Nat) (hi:i<6) (w:World):Calls Tryz.prog 45 #[.string (AA i)] w λe w'=>e=.returned (ab i)/\w=w':=by
 have h:i=0\/i=1\/i=2\/i=3\/i=4\/i=5:=by omega
 rcases h with rfl |rfl |rfl |rfl |rfl |rfl
 all_goals
  go_enter Tryz.func45,Tryz.ntmps45
  go_wp2;go_ret;exact⟨rfl,rfl⟩
def Ja (c:Int):Prop:= -9223372036854775808<=c/\c<=9223372036854775807
theorem Ja.neg {c:Int} (h:Ja c) (h0:c<0):wrap64 (-wrap64 (c+1))= -(c+1):=by
 unfold Ja at h;unfold wrap64;omega
theorem G9 (c:Int) (n:Nat) (hn:0<n) (hc:Ja c) (w:World):Calls Tryz.prog 44 #[ab c,ab n] w λe w'=>(∃r:Nat,r<n/\e=.returned (ab r))/\w=w':=by
 by_cases h0:c<0
 ·have HK:Hid (wrap64 (-wrap64 (c+1))= -(c+1)):=hid (hc.neg h0)
  clear hc
  go_enter Tryz.func44,Tryz.ntmps44
  go_wp2;go_ret;refine⟨⟨((-(c+1)) % n).toNat,?_,?_⟩,rfl⟩
  ·have h1:(-(c+1)) % (n:Int)<n:=Int.emod_lt_of_pos _ (by omega)
   have h2:0<=(-(c+1)) % (n:Int):=xZ _ (by omega);omega
  ·have h2:0<=(-(c+1)) % (n:Int):=xZ _ (by omega)
   rw[wh h2,<-Int.tmod_eq_emod_of_nonneg (by omega),<-HK.out];rfl
 ·clear hc
  go_enter Tryz.func44,Tryz.ntmps44
  go_wp2;go_ret;refine⟨⟨(c % n).toNat,?_,?_⟩,rfl⟩
  ·have h1:c % (n:Int)<n:=Int.emod_lt_of_pos _ (by omega)
   have h2:0<=c % (n:Int):=xZ _ (by omega);omega
  ·have h2:0<=c % (n:Int):=xZ _ (by omega)
   rw[wh h2];rfl
def KB (w:World) (v:Value):Prop:=∃ad n cap,v=.slice ad n cap/\n<=cap/\n<=140737488355328/\(0<n->∃g off,ad=some (af g off)/\g<w.heap.size/\∀j,j<n->∃z,w.cell? (af g (off+j))=some (ab z)/\Ja z)
theorem KB.below {v:Value} (h:KB w v) (hb:Below w.heap.size w w'):KB w' v:=by
 obtain⟨ad,n,cap,h1,h2,h3,h4⟩:=h;refine⟨ad,n,cap,h1,h2,h3,λh0=>?_⟩;obtain⟨g,off,h5,h6,h7⟩:=h4 h0;refine⟨g,off,h5,lL h6 hb.size,λj hj=>?_⟩;obtain⟨z,h8,h9⟩:=h7 j hj;exact⟨z,(hb.cell (by exact h6)).trans h8,h9⟩
theorem JP (v:Value) (i:Nat) (hi:i<=100000) (w:World) (hv:KB w v):Calls Tryz.prog 66 #[v,ab i] w λe w'=>(∃z,e=.returned (ab z)/\Ja z)/\w=w':=by
 obtain⟨ad,n,cap,rfl,hnc,hn,hc⟩:=hv
 by_cases hlt:i<n
 ·obtain⟨g,off,rfl,hg,hcell⟩:=hc (by omega)
  obtain⟨z,hz,hI⟩:=hcell i hlt;have HI:=hid hI;clear hc hcell hI hn
  go_enter Tryz.func66,Tryz.ntmps66
  go_wp2;go_ret;exact⟨⟨z,rfl,HI.out⟩,rfl⟩
 ·clear hc hn
  go_enter Tryz.func66,Tryz.ntmps66
  go_wp2;go_ret;exact⟨⟨0,rfl,by unfold Ja;omega⟩,rfl⟩
end Go.Proofs.YtjjggdcnpndgjaaGreatDoor
