import Derived.WalkKit
import Derived.WalkSpells
import Derived.WalkLawsBesides
import Derived.Test.YtjjggdcnpndgjaaGreatDoorProg
set_option linter.unusedSimpArgs false
namespace Go.Proofs.YtjjggdcnpndgjaaGreatDoor
abbrev aq:=@if_neg
abbrev ay:=@if_pos
abbrev bh:=@Go.World.size_alloc
abbrev bk:=@List.mem_cons
abbrev ew:=@List.mem_cons_self
abbrev fq:=@List.map_append
abbrev gj:=@List.mem_cons_of_mem
abbrev gy:=@decide_eq_false
abbrev iq:=@List.take_succ_eq_append_getElem
abbrev iz:=@decide_eq_true
abbrev jk:=@List.take_of_length_le
abbrev ju:=@Nat.zero_add
abbrev ko:=@List.not_mem_nil
abbrev lz:=@List.foldl_cons
abbrev oc:=@List.drop_eq_nil_of_le
abbrev su:=@or_false
abbrev vo:=@List.mem_append_right
abbrev xh:=@Int.toNat_of_nonneg
abbrev yN:=@List.mem_of_mem_take
abbrev yO:=@Int.emod_nonneg
theorem yM {P:Prop} (h:P:=by kernel_rfl):P:=h
theorem zG {P:Prop} (h:P:=by simp;omega):P:=h
theorem Bg {P:Prop} (h:P:=by unfold maxLen;omega):P:=h
theorem Gl {P:Prop} (h:P:=by simp[Value.oneCell']):P:=h
theorem Ee {P:Prop} (h:P:=by simpa using e):P:=h
theorem Kk {P:Prop} (h:P:=by rw[bh];omega):P:=h
theorem Jt {P:Prop} (h:P:=by show g<w.heap.size;omega):P:=h
theorem La {P:Prop} (h:P:=by have:=HN.out;omega):P:=h
theorem Ef {P:Prop} (h:P:=by exact hg):P:=h
theorem Lv {P:Prop} (h:P:=by rintro⟨_,_,h⟩;exact h):P:=h
theorem Qv {P:Prop} (h:P:=by rw[HM.out,ay (by omega)]):P:=h
theorem Vp {P:Prop} (h:P:=by show w.heap.size<=w.heap.size+1;omega):P:=h
theorem Hh {P:Prop} (h:P:=by rw[hq];simp):P:=h
theorem Qw {P:Prop} (h:P:=by rw[Fe.out.len];omega):P:=h
theorem Gm {P:Prop} (h:P:=by simp[Sl]):P:=h
theorem Yn {P:Prop} (h:P:=by have:=HL.out;have:=hmk.out;omega):P:=h
theorem afx {P:Prop} (h:P:=by obtain⟨es,clock,h4,h5⟩:=Vq.out;exact⟨es,clock,((Cy.out.trans (hb2.mono Cy.out.size)).block _ ah8).trans h4,h5⟩):P:=h
theorem aaA {P:Prop} (h:P:=by have h1:new<m.zJ.length:=z3;omega):P:=h
theorem Iv {P:Prop} (h:P:=by exact Cs):P:=h
theorem Lx {P:Prop} (h:P:=by simpa using h):P:=h
theorem aaB {P:Prop} (h:P:=by show w.heap.size∉ [kb];simp;omega):P:=h
theorem acu {P:Prop} (h:P:=by rw[<-aaC.out,<-HXS.out,Fe.out.len];exact To):P:=h
theorem aaD {P:Prop} (h:P:=by show Q.wb<w4.heap.size;omega):P:=h
theorem Mu {P:Prop} (h:P:=by exact zn _):P:=h
theorem aaE {P:Prop} (h:P:=by show Q.wb<W.heap.size;omega):P:=h
theorem adL {P:Prop} (h:P:=by simp only[bk,ko,su];omega):P:=h
theorem Lb {P:Prop} (h:P:=by exact h5):P:=h
theorem Mv {P:Prop} (h:P:=by rw[e];simp):P:=h
theorem acv {P:Prop} (h:P:=by rw[<-aaC.out];exact LW HRW.out hsz.out):P:=h
theorem Lz {P:Prop} (h:P:=by simp[hx]):P:=h
theorem Yo {P:Prop} (h:P:=by have:=HL.out;omega):P:=h
theorem aaF {P:Prop} (h:P:=by rw[<-HL.out];exact hlt):P:=h
theorem acw {P:Prop} (h:P:=by show w.heap.size<=W.heap.size;omega):P:=h
theorem aaG {P:Prop} (h:P:=by rw[<-H2.out];exact hlt):P:=h
theorem Oz {P:Prop} (h:P:=by exact Tp):P:=h
theorem acy {P:Prop} (h:P:=by rw[e];exact ew ..):P:=h
theorem afy {P:Prop} (h:P:=by rw[D3,aq (by rw[Ma,hne];decide),aq (by rw[Ma];exact hc)];rfl):P:=h
theorem aaH {P:Prop} (h:P:=by rw[HX.out];exact hx0):P:=h
theorem abe {P:Prop} (h:P:=by show gN<w.heap.size;omega):P:=h
theorem afz {P:Prop} (h:P:=by unfold Ff at Ad ⊢;rw[fq,lA,Dj.out.len];exact Ad):P:=h
theorem abf {P:Prop} (h:P:=by have:=hI.fc.gr.Ch;omega):P:=h
theorem afA {P:Prop} (h:P:=by rw[e];exact vo _ (gj _ hq)):P:=h
theorem Tq {P:Prop} (h:P:=by exact h.lt):P:=h
theorem afB {P:Prop} (h:P:=by rw[ht.out,oc (by have:=HN.out;omega)];rfl):P:=h
theorem aaI {P:Prop} (h:P:=by rw[<-HL.out];omega):P:=h
theorem abg {P:Prop} (h:P:=by rw[<-HN.out];exact hlt):P:=h
theorem afC {P:Prop} (h:P:=by show Q.wb< (w1.alloc _).heap.size;rw[bh];omega):P:=h
theorem Tr {P:Prop} (h:P:=by exact Iw):P:=h
theorem Ts {P:Prop} (h:P:=by exact hs1):P:=h
theorem adM {P:Prop} (h:P:=by show w.heap.size+3<W6.heap.size;omega):P:=h
theorem adN {P:Prop} (h:P:=by have:=Eg.1;simp only at this;omega):P:=h
theorem aaJ {P:Prop} (h:P:=by simpa using hfk):P:=h
theorem acz {P:Prop} (h:P:=by rw[<-aaC.out];exact acA):P:=h
theorem acB {P:Prop} (h:P:=by show gT<w.heap.size;omega):P:=h
theorem acC {P:Prop} (h:P:=by show gq<W.heap.size;omega):P:=h
theorem Tt {P:Prop} (h:P:=by simp[h0]):P:=h
theorem adO {P:Prop} (h:P:=by show w.heap.size<W.heap.size;omega):P:=h
theorem adP {P:Prop} (h:P:=by rw[H.out.gr.Tu,<-HN.out];exact Kl):P:=h
theorem aaK {P:Prop} (h:P:=by simpa using hm):P:=h
theorem afD {P:Prop} (h:P:=by show Q.wb< (W.alloc _).drew.heap.size;rw[aaL];omega):P:=h
theorem Vr {P:Prop} (h:P:=by exact hs2):P:=h
theorem acD {P:Prop} (h:P:=by rw[mS.1 hq];exact zn _):P:=h
theorem Vs {P:Prop} (h:P:=by exact h2):P:=h
theorem acE {P:Prop} (h:P:=by have:=Dk.out.1;omega):P:=h
theorem adQ {P:Prop} (h:P:=by show Q.T.tb<W.heap.size;omega):P:=h
theorem abh {P:Prop} (h:P:=by simpa using hne):P:=h
theorem adR {P:Prop} (h:P:=by rw[HM.out,aq (by omega)]):P:=h
theorem Yp {P:Prop} (h:P:=by exact ogW):P:=h
theorem acF {P:Prop} (h:P:=by simp[Rows.tellsRow]):P:=h
theorem aaM {P:Prop} (h:P:=by rw[h4];simp):P:=h
theorem aaN {P:Prop} (h:P:=by exact h.Qx):P:=h
theorem abi {P:Prop} (h:P:=by simpa using he):P:=h
theorem acG {P:Prop} (h:P:=by have:=Bo.n0;omega):P:=h
theorem adS {P:Prop} (h:P:=by show fb<W.heap.size;omega):P:=h
theorem adU {P:Prop} (h:P:=by have:=aaO.out.size;omega):P:=h
theorem adV {P:Prop} (h:P:=by have:=adW.out.size;omega):P:=h
theorem acH {P:Prop} (h:P:=by rw[h.dl];exact hi):P:=h
theorem abj {P:Prop} (h:P:=by rw[hf];omega):P:=h
theorem aaP {P:Prop} (h:P:=by rw[e];rfl):P:=h
theorem acI {P:Prop} (h:P:=by simpa using h.ne):P:=h
theorem aaQ {P:Prop} (h:P:=by exact hWs):P:=h
theorem aaR {P:Prop} (h:P:=by simp at h):P:=h
theorem aaS {P:Prop} (h:P:=by exact ogS):P:=h
abbrev ab (n:Int):Value:=.int .i64 n
abbrev ac (b:Nat):Value:=.pointer (some ⟨b,0,none⟩)
abbrev ae (b n k:Nat):Value:=.slice (some ⟨b,0,none⟩) n k
abbrev af (b o:Nat):Addr:=⟨b,o,none⟩
variable {g k:Nat}{hi lo:Int}{l:List ByteArray}{s:ByteArray}{w w':World}
theorem qE {α:Sort _}(x:α):∃z,x=z:=⟨_,rfl⟩
theorem qF {α:Sort _}(x:α):∃z,z=x:=⟨_,rfl⟩
abbrev gE:=@List.getElem?_eq_getElem
abbrev zM:=@List.getElem?_eq_some_iff
abbrev mS:=@List.mem_singleton
abbrev lA:=@List.length_append
abbrev Af:=@List.getD_eq_getElem?_getD
abbrev mG:=@List.mem_of_getElem?
abbrev lL:=@Nat.lt_of_lt_of_le
abbrev Bc:=@List.getElem?_append_right
abbrev aL:=@List.getElem?_append_left
abbrev lC:=@List.length_cons
abbrev lM:=@List.length_map
abbrev Db:=@IntKind.wrap_i64
abbrev gM:=@List.getElem?_map
abbrev aA:=@List.append_assoc
abbrev zn:=@Nat.le_refl
abbrev zV:=@Nat.le_trans
theorem hmx:Tryz.prog.follows .mixedOrders=true:=by kernel_rfl
open Go.RowKit
def DP (l:List UInt8) (lo hi:Int):Bool:=l.all λc=>decide (lo<=(c.toNat:Int))&&decide ((c.toNat:Int)<=hi)
def JG (l:List UInt8) (lo hi n:Int):Bool:=decide (1<=l.length)&&(decide ((l.length:Int)<=n)&&DP l lo hi)
theorem YC (s:ByteArray) (k:Nat) (h:k<s.size):s.data.toList.take (k+1)=s.data.toList.take k++ [s[k]]:=by
 rw[iq Lx];rfl
theorem VQ (l:List UInt8) (c:UInt8) (lo hi:Int):DP (l++ [c]) lo hi=(DP l lo hi&&(decide (lo<=(c.toNat:Int))&&decide ((c.toNat:Int)<=hi))):=by
 unfold DP;simp
theorem TP {l:List UInt8} (h:DP (l.take k) lo hi=false):DP l lo hi=false:=by
 unfold DP at*;rw[List.all_eq_false]at*;obtain⟨x,hx,h⟩:=h;exact⟨x,yN hx,h⟩
theorem V9  (hk:k<s.size) (h:(s[k].toNat:Int)<lo\/hi< (s[k].toNat:Int)):DP s.data.toList lo hi=false:=by
 refine TP (k:=k+1) ?_;rw[YC s k hk,VQ]
 rcases h with h |h
 ·rw[gy (p:=lo<=(s[k].toNat:Int)) (by omega)];simp
 ·rw[gy (p:=(s[k].toNat:Int)<=hi) (by omega)];simp
theorem kL  (hk:k<s.size) (h0:DP (s.data.toList.take k) lo hi=true) (h:lo<=(s[k].toNat:Int)/\(s[k].toNat:Int)<=hi):
  DP (s.data.toList.take (k+1)) lo hi=true:=by
 rw[YC s k hk,VQ,h0,iz h.1,iz h.2];rfl
theorem j4  (hk:¬k<s.size) (h0:DP (s.data.toList.take k) lo hi=true):DP s.data.toList lo hi=true:=by
 rwa [jk zG]at h0
def LG (l:List UInt8):Bool:=JG l 48 57 2&& !(l.head?==some 48)
def D5 (l:List UInt8):Int:=l.foldl (λn c=>10*n+(c.toNat:Int) - 48) 0
def C3 (s:ByteArray) (a:Nat):ByteArray × Int:=
 match (s.data.toList.drop a).findIdx? (· ==10)with
 |some j=>(s.extract a (a+j),(a+j+1:Nat))
 |none=>(ByteArray.empty,0)
theorem hid {p:Prop} (h:p):Hid p:=h
def nth (l:List ByteArray) (j:Nat):ByteArray:=l.getD j ByteArray.empty
def DV (w:World) (g off:Nat) (l:List ByteArray):Prop:=g<w.heap.size/\∀j,j<l.length->w.cell? (af g (off+j))=some (.string (nth l j))
theorem DV.below {B off:Nat} (h:DV w g off l) (hb:Below B w w') (hg:g<B):DV w' g off l:=
 ⟨lL h.1 hb.size,λj hj=>(hb.cell Ef).trans (h.2 j hj)⟩
theorem DV.later {off:Nat} (h:DV w g off l) (hb:Below w.heap.size w w'):DV w' g off l:=h.below hb h.1
theorem dP {base t:Nat}{cap n:Nat} (h:w.ownsRow base t 1 (ae g n cap) n (l.map Value.string)) (hn:l.length=n):DV w g 0 l:=by
 refine⟨(h.lt g rfl).2,λj hj=>?_⟩;rw[ju,h.cellAt j (by omega)];unfold nth;simp[gE hj]
theorem B4 {base t size:Nat}{v:Value}{n:Nat}{xs:List Value} (h:w.ownsRow base t size v n xs) (hn:0<n):∃g cap,v=ae g n cap/\base<=g/\g<w.heap.size/\n<=cap:=by
 have h0:=h
 rcases h.2 with⟨_,h2⟩ | ⟨g,cap,cur,hv,hg,hh,hnc,_⟩
 ·omega
 ·subst hv
  exact⟨g,cap,rfl,hg,(h0.lt g rfl).2,hnc⟩
def EN (p:List ByteArray × ByteArray) (b:UInt8):List ByteArray × ByteArray:=if b=32 then(p.1++ [p.2],ByteArray.empty)else(p.1,p.2++⟨#[b]⟩)
def Qy (l:List UInt8):List ByteArray × ByteArray:=l.foldl EN ([],ByteArray.empty)
def AF (s:ByteArray):List ByteArray:=(Qy s.data.toList).1++ [(Qy s.data.toList).2]
theorem dL (p:List ByteArray × ByteArray) (b:UInt8):(EN p b).1.length<=p.1.length+1/\(EN p b).2.size<=p.2.size+1:=by
 unfold EN;have e1:(⟨#[b]⟩:ByteArray).size=1:=rfl;split
 ·simp
 ·simp[e1]
theorem mB (l:List UInt8):(Qy l).1.length<=l.length/\(Qy l).2.size<=l.length:=by
 suffices h:∀(l:List UInt8) (p:List ByteArray × ByteArray),(l.foldl EN p).1.length<=p.1.length+l.length/\(l.foldl EN p).2.size<=p.2.size+l.length by
  have:=h l ([],ByteArray.empty);simpa[Qy] using this
 intro l
 induction l with
 |nil=>intro p;simp
 |cons b r ih=>
  intro p;have h1:=ih (EN p b);have h2:=dL p b;simp only[lz,lC];omega
def DZ (s:ByteArray):Bool:=JG s.data.toList 97 122 8
def I1 (s:ByteArray):Bool:=JG s.data.toList 65 90 8
def DS (s:ByteArray):Bool:=LG s.data.toList
def IL (s:ByteArray):Bool:=s.toList== [124]
def NL (s:ByteArray):Bool:=IL s||(DZ s||I1 s)
def DF (l:List ByteArray):Bool:=decide (l.length=4)&&(DZ (nth l 1)&&(DS (nth l 2)&&DS (nth l 3)))
def C0 (l:List ByteArray):Bool:=decide (l.length=4)&&(DZ (nth l 1)&&(DZ (nth l 2)&&DS (nth l 3)))
def O2 (l:List ByteArray):Bool:=decide (3<=l.length)&&(I1 (nth l 1)&&((nth l 2).toList== [61]))
def D7 (l:List ByteArray):Bool:=O2 l&&(l.drop 3).all NL
def AX (l:List ByteArray):Bool:=
 if l.length=1 then(nth l 0).toList.isEmpty
 else if(nth l 0).toList== [116,111,107,101,110]then DF l
 else if(nth l 0).toList== [115,119,97,112]then C0 l
 else if(nth l 0).toList== [114,117,108,101]then D7 l else false
def AB (i:Nat):ByteArray:=⟨#[UInt8.ofNat (97+i)]⟩
def BM (i:Nat):ByteArray:=⟨#[UInt8.ofNat (65+i)]⟩
theorem ID (i:Nat) (hi:i<6) (w:World):Calls Tryz.prog 31 #[ab i] w λe w'=>e=.returned (.string (AB i))/\w=w':=by
 have h:i=0\/i=1\/i=2\/i=3\/i=4\/i=5:=by omega
 rcases h with rfl |rfl |rfl |rfl |rfl |rfl
 all_goals
  go_enter Tryz.func31,Tryz.ntmps31
  go_wp2;go_ret;exact⟨rfl,rfl⟩
theorem RX (i:Nat) (hi:i<4) (w:World):Calls Tryz.prog 33 #[ab i] w λe w'=>e=.returned (.string (BM i))/\w=w':=by
 have h:i=0\/i=1\/i=2\/i=3:=by omega
 rcases h with rfl |rfl |rfl |rfl
 all_goals
  go_enter Tryz.func33,Tryz.ntmps33
  go_wp2;go_ret;exact⟨rfl,rfl⟩
theorem G7 (i:Nat) (hi:i<6) (w:World):Calls Tryz.prog 45 #[.string (AB i)] w λe w'=>e=.returned (ab i)/\w=w':=by
 have h:i=0\/i=1\/i=2\/i=3\/i=4\/i=5:=by omega
 rcases h with rfl |rfl |rfl |rfl |rfl |rfl
 all_goals
  go_enter Tryz.func45,Tryz.ntmps45
  go_wp2;go_ret;exact⟨rfl,rfl⟩
def Tv (c:Int):Prop:= -9223372036854775808<=c/\c<=9223372036854775807
theorem Tv.neg {c:Int} (h:Tv c) (h0:c<0):wrap64 (-wrap64 (c+1))= -(c+1):=by
 unfold Tv at h;unfold wrap64;omega
theorem GZ (c:Int) (n:Nat) (hn:0<n) (hc:Tv c) (w:World):Calls Tryz.prog 44 #[ab c,ab n] w λe w'=>(∃r:Nat,r<n/\e=.returned (ab r))/\w=w':=by
 by_cases h0:c<0
 ·have HK:Hid (wrap64 (-wrap64 (c+1))= -(c+1)):=hid (hc.neg h0)
  clear hc
  go_enter Tryz.func44,Tryz.ntmps44
  go_wp2;go_ret;refine⟨⟨((-(c+1)) % n).toNat,?_,?_⟩,rfl⟩
  ·have h1:(-(c+1)) % (n:Int)<n:=Int.emod_lt_of_pos _ (by omega)
   have h2:0<=(-(c+1)) % (n:Int):=yO _ (by omega);omega
  ·have h2:0<=(-(c+1)) % (n:Int):=yO _ (by omega)
   rw[xh h2,<-Int.tmod_eq_emod_of_nonneg (by omega),<-HK.out];rfl
 ·clear hc
  go_enter Tryz.func44,Tryz.ntmps44
  go_wp2;go_ret;refine⟨⟨(c % n).toNat,?_,?_⟩,rfl⟩
  ·have h1:c % (n:Int)<n:=Int.emod_lt_of_pos _ (by omega)
   have h2:0<=c % (n:Int):=yO _ (by omega);omega
  ·have h2:0<=c % (n:Int):=yO _ (by omega)
   rw[xh h2];rfl
def IQ (w:World) (v:Value):Prop:=∃ad n cap,v=.slice ad n cap/\n<=cap/\n<=140737488355328/\(0<n->∃g off,ad=some (af g off)/\g<w.heap.size/\∀j,j<n->∃z,w.cell? (af g (off+j))=some (ab z)/\Tv z)
theorem IQ.below {v:Value} (h:IQ w v) (hb:Below w.heap.size w w'):IQ w' v:=by
 obtain⟨ad,n,cap,h1,h2,h3,h4⟩:=h;refine⟨ad,n,cap,h1,h2,h3,λh0=>?_⟩;obtain⟨g,off,h5,h6,h7⟩:=h4 h0;refine⟨g,off,h5,lL h6 hb.size,λj hj=>?_⟩;obtain⟨z,h8,h9⟩:=h7 j hj;exact⟨z,(hb.cell (by exact h6)).trans h8,h9⟩
theorem K0 (v:Value) (i:Nat) (hi:i<=100000) (w:World) (hv:IQ w v):Calls Tryz.prog 66 #[v,ab i] w λe w'=>(∃z,e=.returned (ab z)/\Tv z)/\w=w':=by
 obtain⟨ad,n,cap,rfl,hnc,hn,hc⟩:=hv
 by_cases hlt:i<n
 ·obtain⟨g,off,rfl,hg,hcell⟩:=hc (by omega)
  obtain⟨z,hz,hI⟩:=hcell i hlt;have HI:=hid hI;clear hc hcell hI hn
  go_enter Tryz.func66,Tryz.ntmps66
  go_wp2;go_ret;exact⟨⟨z,rfl,HI.out⟩,rfl⟩
 ·clear hc hn
  go_enter Tryz.func66,Tryz.ntmps66
  go_wp2;go_ret;exact⟨⟨0,rfl,by unfold Tv;omega⟩,rfl⟩
end Go.Proofs.YtjjggdcnpndgjaaGreatDoor
