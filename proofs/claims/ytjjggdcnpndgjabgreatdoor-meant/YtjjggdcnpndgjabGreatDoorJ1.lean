import Derived.WalkKit
import Derived.WalkSpells
import Derived.WalkLawsBesides
import Derived.Test.YtjjggdcnpndgjabGreatDoorProg
set_option linter.unusedSimpArgs false
namespace Go.Proofs.YtjjggdcnpndgjabGreatDoor
theorem y1Z {P:Prop} (h:P:=by kernel_rfl):P:=h
theorem y2Z {P:Prop} (h:P:=by simp;omega):P:=h
theorem y3Z {P:Prop} (h:P:=by unfold maxLen;omega):P:=h
theorem y4Z {P:Prop} (h:P:=by simp[Value.oneCell']):P:=h
theorem y5Z {P:Prop} (h:P:=by rw[World.size_alloc];omega):P:=h
theorem y6Z {P:Prop} (h:P:=by show g<w.heap.size;omega):P:=h
theorem y7Z {P:Prop} (h:P:=by simpa using e):P:=h
theorem y8Z {P:Prop} (h:P:=by have:=HN.out;omega):P:=h
theorem y9Z {P:Prop} (h:P:=by rintro⟨_,_,h⟩;exact h):P:=h
theorem y10Z {P:Prop} (h:P:=by rw[HM.out,if_pos (by omega)]):P:=h
theorem y11Z {P:Prop} (h:P:=by show w.heap.size<=w.heap.size+1;omega):P:=h
theorem y12Z {P:Prop} (h:P:=by exact hg):P:=h
theorem y13Z {P:Prop} (h:P:=by rw[hq];simp):P:=h
theorem y14Z {P:Prop} (h:P:=by rw[hRP.out.len];omega):P:=h
theorem y15Z {P:Prop} (h:P:=by simp[Sl]):P:=h
theorem y16Z {P:Prop} (h:P:=by have:=HL.out;have:=hmk.out;omega):P:=h
theorem y17Z {P:Prop} (h:P:=by obtain⟨es,clock,h4,h5⟩:=HOwn.out;exact⟨es,clock,((HA1.out.trans (hb2.mono HA1.out.size)).block _ hwsz).trans h4,h5⟩):P:=h
theorem y18Z {P:Prop} (h:P:=by have h1:new<m.puts.length:=z3;omega):P:=h
theorem y19Z {P:Prop} (h:P:=by exact hwl):P:=h
theorem y20Z {P:Prop} (h:P:=by simpa using h):P:=h
theorem y21Z {P:Prop} (h:P:=by show w.heap.size∉ [kb];simp;omega):P:=h
theorem y22Z {P:Prop} (h:P:=by rw[<-HL13.out,<-HXS.out,hRP.out.len];exact hown4):P:=h
theorem y23Z {P:Prop} (h:P:=by show Q.wb<w4.heap.size;omega):P:=h
theorem y24Z {P:Prop} (h:P:=by exact lR_ _):P:=h
theorem y25Z {P:Prop} (h:P:=by show Q.wb<W.heap.size;omega):P:=h
theorem y26Z {P:Prop} (h:P:=by simp only[List.mem_cons,List.not_mem_nil,or_false];omega):P:=h
theorem y27Z {P:Prop} (h:P:=by rw[e];simp):P:=h
theorem y28Z {P:Prop} (h:P:=by first |exact Below.refl _ _ |exact(Below.refl _ _).drew):P:=h
theorem y29Z {P:Prop} (h:P:=by rw[<-HL13.out];exact LB HRW.out hsz.out):P:=h
theorem y30Z {P:Prop} (h:P:=by have:=HL.out;omega):P:=h
theorem y31Z {P:Prop} (h:P:=by simp[hx]):P:=h
theorem y32Z {P:Prop} (h:P:=by rw[<-HL.out];exact hlt):P:=h
theorem y33Z {P:Prop} (h:P:=by show w.heap.size<=W.heap.size;omega):P:=h
theorem y34Z {P:Prop} (h:P:=by rw[<-H2.out];exact hlt):P:=h
theorem y35Z {P:Prop} (h:P:=by exact ogT):P:=h
theorem y36Z {P:Prop} (h:P:=by rw[e];exact List.mem_cons_self ..):P:=h
theorem y37Z {P:Prop} (h:P:=by rw[CQ,if_neg (by rw[hgv,hne];decide),if_neg (by rw[hgv];exact hc)];rfl):P:=h
theorem y38Z {P:Prop} (h:P:=by rw[HX.out];exact hx0):P:=h
theorem y39Z {P:Prop} (h:P:=by show gN<w.heap.size;omega):P:=h
theorem y40Z {P:Prop} (h:P:=by unfold wds at hown3 ⊢;rw[List.map_append,lA,hPP.out.len];exact hown3):P:=h
theorem y41Z {P:Prop} (h:P:=by have:=hI.fc.gr.leT;omega):P:=h
theorem y42Z {P:Prop} (h:P:=by exact h5):P:=h
theorem y43Z {P:Prop} (h:P:=by rw[e];exact List.mem_append_right _ (List.mem_cons_of_mem _ hq)):P:=h
theorem y44Z {P:Prop} (h:P:=by rw[ht.out,List.drop_eq_nil_of_le (by have:=HN.out;omega)];rfl):P:=h
theorem y45Z {P:Prop} (h:P:=by rw[<-HL.out];omega):P:=h
theorem y46Z {P:Prop} (h:P:=by show Q.wb< (w1.alloc _).heap.size;rw[World.size_alloc];omega):P:=h
theorem y47Z {P:Prop} (h:P:=by exact hgw):P:=h
theorem y48Z {P:Prop} (h:P:=by exact hs1):P:=h
theorem y49Z {P:Prop} (h:P:=by show w.heap.size+3<W6.heap.size;omega):P:=h
theorem y50Z {P:Prop} (h:P:=by have:=hxok.1;simp only at this;omega):P:=h
theorem y51Z {P:Prop} (h:P:=by exact h.lt):P:=h
theorem y52Z {P:Prop} (h:P:=by simpa using hfk):P:=h
theorem y53Z {P:Prop} (h:P:=by rw[<-HL13.out];exact hl13s):P:=h
theorem y54Z {P:Prop} (h:P:=by show gT<w.heap.size;omega):P:=h
theorem y55Z {P:Prop} (h:P:=by show gq<W.heap.size;omega):P:=h
theorem y56Z {P:Prop} (h:P:=by simp[h0]):P:=h
theorem y57Z {P:Prop} (h:P:=by show w.heap.size<W.heap.size;omega):P:=h
theorem y58Z {P:Prop} (h:P:=by rw[H.out.gr.pgl,<-HN.out];exact hiN):P:=h
theorem y59Z {P:Prop} (h:P:=by simpa using hm):P:=h
theorem y60Z {P:Prop} (h:P:=by show Q.wb< (W.alloc _).drew.heap.size;rw[hszA];omega):P:=h
theorem y61Z {P:Prop} (h:P:=by exact hs2):P:=h
theorem y62Z {P:Prop} (h:P:=by rw[mS.1 hq];exact lR_ _):P:=h
theorem y63Z {P:Prop} (h:P:=by rw[<-HN.out];exact hlt):P:=h
theorem y64Z {P:Prop} (h:P:=by have:=HNB.out.1;omega):P:=h
theorem y65Z {P:Prop} (h:P:=by show Q.T.tb<W.heap.size;omega):P:=h
theorem y66Z {P:Prop} (h:P:=by simpa using hne):P:=h
theorem y67Z {P:Prop} (h:P:=by rw[HM.out,if_neg (by omega)]):P:=h
theorem y68Z {P:Prop} (h:P:=by exact ogW):P:=h
theorem y69Z {P:Prop} (h:P:=by simp[Rows.meantRow]):P:=h
theorem y70Z {P:Prop} (h:P:=by rw[h4];simp):P:=h
theorem y71Z {P:Prop} (h:P:=by exact h.giB):P:=h
theorem y72Z {P:Prop} (h:P:=by simpa using he):P:=h
theorem y73Z {P:Prop} (h:P:=by have:=hBd.n0;omega):P:=h
theorem y74Z {P:Prop} (h:P:=by show fb<W.heap.size;omega):P:=h
theorem y75Z {P:Prop} (h:P:=by have:=HBw1.out.size;omega):P:=h
theorem y76Z {P:Prop} (h:P:=by have:=HBw2.out.size;omega):P:=h
theorem y77Z {P:Prop} (h:P:=by rw[h.dl];exact hi):P:=h
theorem y78Z {P:Prop} (h:P:=by rw[hf];omega):P:=h
theorem y79Z {P:Prop} (h:P:=by rw[e];rfl):P:=h
theorem y80Z {P:Prop} (h:P:=by simpa using h.ne):P:=h
theorem y81Z {P:Prop} (h:P:=by exact hWs):P:=h
theorem y82Z {P:Prop} (h:P:=by simp at h):P:=h
theorem y83Z {P:Prop} (h:P:=by exact ogS):P:=h
abbrev ab (n:Int):Value:=.int .i64 n
abbrev ac (b:Nat):Value:=.pointer (some ⟨b,0,none⟩)
abbrev ae (b n k:Nat):Value:=.slice (some ⟨b,0,none⟩) n k
abbrev af (b o:Nat):Addr:=⟨b,o,none⟩
variable {g k:Nat}{hi lo:Int}{l:List ByteArray}{s:ByteArray}{w w':World}
theorem qE {α:Sort _}(x:α):∃z,x=z:=⟨_,rfl⟩
theorem qF {α:Sort _}(x:α):∃z,z=x:=⟨_,rfl⟩
abbrev gE:=@List.getElem?_eq_getElem
abbrev gS_:=@List.getElem?_eq_some_iff
abbrev mS:=@List.mem_singleton
abbrev lA:=@List.length_append
abbrev gD_:=@List.getD_eq_getElem?_getD
abbrev mG:=@List.mem_of_getElem?
abbrev lL:=@Nat.lt_of_lt_of_le
abbrev aR_:=@List.getElem?_append_right
abbrev aL:=@List.getElem?_append_left
abbrev lC:=@List.length_cons
abbrev lM:=@List.length_map
abbrev w64:=@IntKind.wrap_i64
abbrev gM:=@List.getElem?_map
abbrev aA:=@List.append_assoc
abbrev lR_:=@Nat.le_refl
abbrev lT_:=@Nat.le_trans
theorem hmx:Tryz.prog.follows .mixedOrders=true:=by kernel_rfl
open Go.RowKit
def DF (l:List UInt8) (lo hi:Int):Bool:=l.all fun c=>decide (lo<=(c.toNat:Int))&&decide ((c.toNat:Int)<=hi)
def J1 (l:List UInt8) (lo hi n:Int):Bool:=decide (1<=l.length)&&(decide ((l.length:Int)<=n)&&DF l lo hi)
theorem YE (s:ByteArray) (k:Nat) (h:k<s.size):s.data.toList.take (k+1)=s.data.toList.take k++ [s[k]]:=by
 rw[List.take_succ_eq_append_getElem y20Z];rfl
theorem UI (l:List UInt8) (c:UInt8) (lo hi:Int):DF (l++ [c]) lo hi=(DF l lo hi&&(decide (lo<=(c.toNat:Int))&&decide ((c.toNat:Int)<=hi))):=by
 unfold DF;simp
theorem TR {l:List UInt8} (h:DF (l.take k) lo hi=false):DF l lo hi=false:=by
 unfold DF at*;rw[List.all_eq_false]at*;obtain⟨x,hx,h⟩:=h;exact⟨x,List.mem_of_mem_take hx,h⟩
theorem UT  (hk:k<s.size) (h:(s[k].toNat:Int)<lo\/hi< (s[k].toNat:Int)):DF s.data.toList lo hi=false:=by
 refine TR (k:=k+1) ?_;rw[YE s k hk,UI]
 rcases h with h |h
 ·rw[decide_eq_false (p:=lo<=(s[k].toNat:Int)) (by omega)];simp
 ·rw[decide_eq_false (p:=(s[k].toNat:Int)<=hi) (by omega)];simp
theorem gZ  (hk:k<s.size) (h0:DF (s.data.toList.take k) lo hi=true) (h:lo<=(s[k].toNat:Int)/\(s[k].toNat:Int)<=hi):
  DF (s.data.toList.take (k+1)) lo hi=true:=by
 rw[YE s k hk,UI,h0,decide_eq_true h.1,decide_eq_true h.2];rfl
theorem kB  (hk:¬k<s.size) (h0:DF (s.data.toList.take k) lo hi=true):DF s.data.toList lo hi=true:=by
 rwa [List.take_of_length_le y2Z]at h0
def L3 (l:List UInt8):Bool:=J1 l 48 57 2&& !(l.head?==some 48)
def CV (l:List UInt8):Int:=l.foldl (fun n c=>10*n+(c.toNat:Int) - 48) 0
def BT (s:ByteArray) (a:Nat):ByteArray × Int:=
 match (s.data.toList.drop a).findIdx? (· ==10)with
 |some j=>(s.extract a (a+j),(a+j+1:Nat))
 |none=>(ByteArray.empty,0)
theorem hid {p:Prop} (h:p):Hid p:=h
def nth (l:List ByteArray) (j:Nat):ByteArray:=l.getD j ByteArray.empty
def DK (w:World) (g off:Nat) (l:List ByteArray):Prop:=g<w.heap.size/\∀j,j<l.length->w.cell? (af g (off+j))=some (.string (nth l j))
theorem DK.below {B off:Nat} (h:DK w g off l) (hb:Below B w w') (hg:g<B):DK w' g off l:=
 ⟨lL h.1 hb.size,fun j hj=>(hb.cell y12Z).trans (h.2 j hj)⟩
theorem DK.later {off:Nat} (h:DK w g off l) (hb:Below w.heap.size w w'):DK w' g off l:=h.below hb h.1
theorem aK {base t:Nat}{cap n:Nat} (h:w.ownsRow base t 1 (ae g n cap) n (l.map Value.string)) (hn:l.length=n):DK w g 0 l:=by
 refine⟨(h.lt g rfl).2,fun j hj=>?_⟩;rw[Nat.zero_add,h.cellAt j (by omega)];unfold nth;simp[gE hj]
theorem AX {base t size:Nat}{v:Value}{n:Nat}{xs:List Value} (h:w.ownsRow base t size v n xs) (hn:0<n):∃g cap,v=ae g n cap/\base<=g/\g<w.heap.size/\n<=cap:=by
 have h0:=h
 rcases h.2 with⟨_,h2⟩ | ⟨g,cap,cur,hv,hg,hh,hnc,_⟩
 ·omega
 ·subst hv
  exact⟨g,cap,rfl,hg,(h0.lt g rfl).2,hnc⟩
def E9 (p:List ByteArray × ByteArray) (b:UInt8):List ByteArray × ByteArray:=if b=32 then(p.1++ [p.2],ByteArray.empty)else(p.1,p.2++⟨#[b]⟩)
def wst (l:List UInt8):List ByteArray × ByteArray:=l.foldl E9 ([],ByteArray.empty)
def AA (s:ByteArray):List ByteArray:=(wst s.data.toList).1++ [(wst s.data.toList).2]
theorem bH (p:List ByteArray × ByteArray) (b:UInt8):(E9 p b).1.length<=p.1.length+1/\(E9 p b).2.size<=p.2.size+1:=by
 unfold E9;have e1:(⟨#[b]⟩:ByteArray).size=1:=rfl;split
 ·simp
 ·simp[e1]
theorem lX (l:List UInt8):(wst l).1.length<=l.length/\(wst l).2.size<=l.length:=by
 suffices h:∀(l:List UInt8) (p:List ByteArray × ByteArray),(l.foldl E9 p).1.length<=p.1.length+l.length/\(l.foldl E9 p).2.size<=p.2.size+l.length by
  have:=h l ([],ByteArray.empty);simpa[wst] using this
 intro l
 induction l with
 |nil=>intro p;simp
 |cons b r ih=>
  intro p;have h1:=ih (E9 p b);have h2:=bH p b;simp only[List.foldl_cons,lC];omega
def DQ (s:ByteArray):Bool:=J1 s.data.toList 97 122 8
def GO (s:ByteArray):Bool:=J1 s.data.toList 65 90 8
def DI (s:ByteArray):Bool:=L3 s.data.toList
def I0 (s:ByteArray):Bool:=s.toList== [124]
def NH (s:ByteArray):Bool:=I0 s||(DQ s||GO s)
def D5 (l:List ByteArray):Bool:=decide (l.length=4)&&(DQ (nth l 1)&&(DI (nth l 2)&&DI (nth l 3)))
def BS (l:List ByteArray):Bool:=decide (l.length=4)&&(DQ (nth l 1)&&(DQ (nth l 2)&&DI (nth l 3)))
def NU (l:List ByteArray):Bool:=decide (3<=l.length)&&(GO (nth l 1)&&((nth l 2).toList== [61]))
def CY (l:List ByteArray):Bool:=NU l&&(l.drop 3).all NH
def AR (l:List ByteArray):Bool:=
 if l.length=1 then(nth l 0).toList.isEmpty
 else if(nth l 0).toList== [116,111,107,101,110]then D5 l
 else if(nth l 0).toList== [115,119,97,112]then BS l
 else if(nth l 0).toList== [114,117,108,101]then CY l else false
def A7 (i:Nat):ByteArray:=⟨#[UInt8.ofNat (97+i)]⟩
def BO (i:Nat):ByteArray:=⟨#[UInt8.ofNat (65+i)]⟩
theorem GD (i:Nat) (hi:i<6) (w:World):Calls Tryz.prog 10 #[ab i] w fun e w'=>e=.returned (.string (A7 i))/\w=w':=by
 have h:i=0\/i=1\/i=2\/i=3\/i=4\/i=5:=by omega
 rcases h with rfl |rfl |rfl |rfl |rfl |rfl
 all_goals
  go_enter Tryz.func10,Tryz.ntmps10
  go_wp2;go_ret;exact⟨rfl,rfl⟩
theorem QP (i:Nat) (hi:i<4) (w:World):Calls Tryz.prog 14 #[ab i] w fun e w'=>e=.returned (.string (BO i))/\w=w':=by
 have h:i=0\/i=1\/i=2\/i=3:=by omega
 rcases h with rfl |rfl |rfl |rfl
 all_goals
  go_enter Tryz.func14,Tryz.ntmps14
  go_wp2;go_ret;exact⟨rfl,rfl⟩
theorem JJ (i:Nat) (hi:i<6) (w:World):Calls Tryz.prog 20 #[.string (A7 i)] w fun e w'=>e=.returned (ab i)/\w=w':=by
 have h:i=0\/i=1\/i=2\/i=3\/i=4\/i=5:=by omega
 rcases h with rfl |rfl |rfl |rfl |rfl |rfl
 all_goals
  go_enter Tryz.func20,Tryz.ntmps20
  go_wp2;go_ret;exact⟨rfl,rfl⟩
def I64 (c:Int):Prop:= -9223372036854775808<=c/\c<=9223372036854775807
theorem I64.neg {c:Int} (h:I64 c) (h0:c<0):wrap64 (-wrap64 (c+1))= -(c+1):=by
 unfold I64 at h;unfold wrap64;omega
theorem I3 (c:Int) (n:Nat) (hn:0<n) (hc:I64 c) (w:World):Calls Tryz.prog 12 #[ab c,ab n] w fun e w'=>(∃r:Nat,r<n/\e=.returned (ab r))/\w=w':=by
 by_cases h0:c<0
 ·have HK:Hid (wrap64 (-wrap64 (c+1))= -(c+1)):=hid (hc.neg h0)
  clear hc
  go_enter Tryz.func12,Tryz.ntmps12
  go_wp2;go_ret;refine⟨⟨((-(c+1)) % n).toNat,?_,?_⟩,rfl⟩
  ·have h1:(-(c+1)) % (n:Int)<n:=Int.emod_lt_of_pos _ (by omega)
   have h2:0<=(-(c+1)) % (n:Int):=Int.emod_nonneg _ (by omega);omega
  ·have h2:0<=(-(c+1)) % (n:Int):=Int.emod_nonneg _ (by omega)
   rw[Int.toNat_of_nonneg h2,<-Int.tmod_eq_emod_of_nonneg (by omega),<-HK.out];rfl
 ·clear hc
  go_enter Tryz.func12,Tryz.ntmps12
  go_wp2;go_ret;refine⟨⟨(c % n).toNat,?_,?_⟩,rfl⟩
  ·have h1:c % (n:Int)<n:=Int.emod_lt_of_pos _ (by omega)
   have h2:0<=c % (n:Int):=Int.emod_nonneg _ (by omega);omega
  ·have h2:0<=c % (n:Int):=Int.emod_nonneg _ (by omega)
   rw[Int.toNat_of_nonneg h2];rfl
def KT (w:World) (v:Value):Prop:=∃ad n cap,v=.slice ad n cap/\n<=cap/\n<=140737488355328/\(0<n->∃g off,ad=some (af g off)/\g<w.heap.size/\∀j,j<n->∃z,w.cell? (af g (off+j))=some (ab z)/\I64 z)
theorem KT.below {v:Value} (h:KT w v) (hb:Below w.heap.size w w'):KT w' v:=by
 obtain⟨ad,n,cap,h1,h2,h3,h4⟩:=h;refine⟨ad,n,cap,h1,h2,h3,fun h0=>?_⟩;obtain⟨g,off,h5,h6,h7⟩:=h4 h0;refine⟨g,off,h5,lL h6 hb.size,fun j hj=>?_⟩;obtain⟨z,h8,h9⟩:=h7 j hj;exact⟨z,(hb.cell (by exact h6)).trans h8,h9⟩
theorem KY (v:Value) (i:Nat) (hi:i<=100000) (w:World) (hv:KT w v):Calls Tryz.prog 13 #[v,ab i] w fun e w'=>(∃z,e=.returned (ab z)/\I64 z)/\w=w':=by
 obtain⟨ad,n,cap,rfl,hnc,hn,hc⟩:=hv
 by_cases hlt:i<n
 ·obtain⟨g,off,rfl,hg,hcell⟩:=hc (by omega)
  obtain⟨z,hz,hI⟩:=hcell i hlt;have HI:=hid hI;clear hc hcell hI hn
  go_enter Tryz.func13,Tryz.ntmps13
  go_wp2;go_ret;exact⟨⟨z,rfl,HI.out⟩,rfl⟩
 ·clear hc hn
  go_enter Tryz.func13,Tryz.ntmps13
  go_wp2;go_ret;exact⟨⟨0,rfl,by unfold I64;omega⟩,rfl⟩
end Go.Proofs.YtjjggdcnpndgjabGreatDoor
