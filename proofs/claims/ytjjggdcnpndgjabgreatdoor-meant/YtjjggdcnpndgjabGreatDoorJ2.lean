import Derived.Lib.AtoiAllCases
import Derived.Lib.AtoiTie
import Derived.Test.YtjjggdcnpndgjabGreatDoorJ1
import Derived.Test.YtjjggdcnpndgjabGreatDoorShelf
import Derived.Deep.RegionHeld3
import Derived.Deep.AppendLies
import Derived.OneCell
import Derived.Deep.RegionWith
set_option linter.unusedSimpArgs false
set_option maxHeartbeats 1000000
set_option maxRecDepth 100000
namespace Go.Proofs.YtjjggdcnpndgjabGreatDoor
open Go.RowKit
variable {B b e g i j n sz t:Nat}{S:List Nat}{a w w':World}{cs:Array Value}{fr:Nat × Nat}{l:List ByteArray}{v:Value}{xs:List Value}
section
open Go.Lib
theorem bK:∀(l:List UInt8) (acc:Nat),DF l 48 57=true->parseUint10 acc l=.range\/∃u,parseUint10 acc l=.ok u/\acc*10 ^l.length<=u:=by
 intro l
 induction l with
 |nil=>intro acc _;exact .inr ⟨acc,rfl,by simp⟩
 |cons c r ih=>
  intro acc hd;unfold DF at hd;simp only[List.all_cons,Bool.and_eq_true,decide_eq_true_eq]at hd;simp only[parseUint10];rw[if_pos ⟨by omega,by omega⟩]
  by_cases h1:1844674407370955162<=acc
  ·rw[if_pos h1];exact .inl rfl
  ·rw[if_neg h1]
   by_cases h2:18446744073709551616<=acc*10+(c.toNat - 48)
   ·rw[if_pos h2];exact .inl rfl
   ·rw[if_neg h2]
    rcases ih (acc*10+(c.toNat - 48)) (by unfold DF;exact hd.2)with h | ⟨u,h,hu⟩
    ·exact .inl h
    ·refine .inr ⟨u,h,lT_ ?_ hu⟩
     rw[lC,Nat.pow_succ,Nat.mul_comm (10 ^r.length) 10,<-Nat.mul_assoc];exact Nat.mul_le_mul_right _ (by omega)
theorem nK (l:List UInt8) (hd:DF l 48 57=true) (hne:l≠ []) (h0:l.head?≠some 48):
  (atoiAll l=.range/\L3 l=false)\/∃v,atoiAll l=.ok v/\L3 l=decide (v<=99)/\(L3 l=true->v=CV l):=by
 cases l with
 |nil=>exact absurd rfl hne
 |cons c r=>
  have hc:48<=c.toNat/\c.toNat<=57:=by
   unfold DF at hd;simp only[List.all_cons,Bool.and_eq_true,decide_eq_true_eq]at hd;omega
  have hr:DF r 48 57=true:=by
   unfold DF at hd ⊢;simp only[List.all_cons,Bool.and_eq_true]at hd;exact hd.2
  have hc0:¬c.toNat=48:=fun e=>h0 (by
   rw[List.head?_cons,Option.some.injEq,<-UInt8.toNat_inj];exact e)
  have hcost:L3 (c::r)=decide (r.length<=1):=by
   unfold L3 J1;rw[hd];have:((c::r).head?==some 48)=false:=by
    rw[beq_eq_false_iff_ne];exact h0
   rw[this];simp only[lC,Bool.and_true,Bool.not_false];rw[decide_eq_true (p:=1<=r.length+1) (by omega),Bool.true_and]
   by_cases h:r.length<=1
   ·rw[decide_eq_true h,decide_eq_true (by omega)]
   ·rw[decide_eq_false h,decide_eq_false (by omega)]
  have hmag:parseMag (c::r)=parseUint10 (c.toNat - 48) r:=by
   unfold parseMag;rw[if_neg (by simp)];simp only[parseUint10];rw[if_pos hc,if_neg (by omega),if_neg (by omega)]
   congr 1
   omega
  rw[atoiAll_plain c r (by omega) (by omega),hmag,hcost]
  match r,hr with
  | [],_=>
   right;simp only[parseUint10,signless];rw[if_neg (by omega)];exact⟨_,rfl,by rw[decide_eq_true (by simp),decide_eq_true (by omega)],fun _=>by simp[CV];omega⟩
  | [d],hr=>
   right;have hd':48<=d.toNat/\d.toNat<=57:=by
    unfold DF at hr;simp only[List.all_cons,Bool.and_eq_true,decide_eq_true_eq]at hr;omega
   simp only[parseUint10];rw[if_pos hd',if_neg (by omega),if_neg (by omega)];simp only[signless];rw[if_neg (by omega)];exact⟨_,rfl,by rw[decide_eq_true (by simp),decide_eq_true (by omega)],fun _=>by simp[CV];omega⟩
  |d::e::q,hr=>
   rcases bK (d::e::q) (c.toNat - 48) hr with h | ⟨u,h,hu⟩
   ·left
    rw[h];exact⟨rfl,by rw[decide_eq_false (by simp)]⟩
   ·rw[h]
    simp only[signless];have h5:100<=u:=by
     refine lT_ ?_ hu;have h6:10 ^2<=10 ^(d::e::q).length:=Nat.pow_le_pow_right (by omega) (by simp)
     calc 100=1*10 ^2:=by decide
      _<=(c.toNat - 48)*10 ^(d::e::q).length:=Nat.mul_le_mul (by omega) h6
    by_cases h7:9223372036854775808<=u
    ·rw[if_pos h7]
     exact .inl ⟨rfl,by rw[decide_eq_false (by simp)]⟩
    ·rw[if_neg h7]
     exact .inr ⟨_,rfl,by rw[decide_eq_false (by simp),decide_eq_false (by omega)],fun h=>by simp at h⟩
end
theorem BW {a b:Bool} (h:a=b):Ending.returned (.bool b)=.returned (.bool a):=by rw[h]
theorem L7 (s:ByteArray) (lo hi:Int) (w:World) (hs:s.size<=9223372036854775807):
  Calls Tryz.prog 122 #[.string s,.int .u8 lo,.int .u8 hi] w fun e w'=>e=.returned (.bool (DF s.data.toList lo hi&& !s.toList.isEmpty))/\w=w':=by
 go_enter Tryz.func122,Tryz.ntmps122
 go_wp2
 go_loop [10] (fun i=>∃k:Nat,k<=s.size/\i=ab k/\Hid (DF (s.data.toList.take k) lo hi=true)) (fun i=>s.size - (intOf i).toNat)
 case atStart=>exact⟨0,Nat.zero_le _,rfl,by show _=_;simp[DF]⟩
 case round=>
  obtain⟨k,hk,rfl,hall⟩:=hrel
  by_cases hlt:k<s.size
  ·go_wp2
   ·go_ret
    exact⟨BW (by rw[UT hlt (by assumption)];rfl),rfl⟩
   ·go_round
    case rel=>exact⟨k+1,by omega,by go_num,gZ hlt hall.out (by assumption)⟩
    case measure=>simp[intOf];omega
   ·go_ret
    exact⟨BW (by rw[UT hlt (.inl (by assumption))];rfl),rfl⟩
  ·go_wp2
   go_ret;exact⟨BW (by rw[kB hlt hall.out];rfl),rfl⟩
structure DS (w:World):Prop where
 size:9<=w.heap.size
 max:∃m,w.cell? (af 2 0)=some (ab m)
 rng:∃te pe,w.cell? (af 4 0)=some (.iface te pe)
 shapes:∃t fr,w.heap[1]?=some (.cells #[.string ⟨#[116,111,107,101,110]⟩,ab 1,ab 3,ab 3,.string ⟨#[115,119,97,112]⟩,ab 1,ab 1,ab 3,.string ⟨#[114,117,108,101]⟩,ab 2,ab 4,ab 5] t fr)
theorem DS.below  (h:DS w)  (hb:Below B w w') (hB:9<=B):DS w' where
 size:=lT_ h.size hb.size
 max:=by obtain⟨m,hm⟩:=h.max;exact⟨m,(hb.cell (show 2<B by omega)).trans hm⟩
 rng:=by obtain⟨te,pe,hm⟩:=h.rng;exact⟨te,pe,(hb.cell (show 4<B by omega)).trans hm⟩
 shapes:=by obtain⟨t,fr,hm⟩:=h.shapes;exact⟨t,fr,(hb.block 1 (by omega)).trans hm⟩
theorem qI {s:ByteArray} (h:(DF s.data.toList 48 57&& !s.toList.isEmpty)=false):DI s=false:=by
 have hlen:s.data.toList.length=s.size:=by simp
 have e1:s.toList=s.data.toList:=ByteArray.toList_eq s;unfold DI L3 J1;rw[e1]at h;cases ha:DF s.data.toList 48 57
 ·simp
 ·rw[ha]at h
  have:s.data.toList=[]:=by simpa using h
  rw[this];rfl
theorem NK (s:ByteArray) (w:World) (hG:DS w) (hs:s.size<=4000):
  Calls Tryz.prog 98 #[.string s] w fun e w'=>(∃n,e=.returned (.tuple #[ab n,.bool (DI s)])/\(DI s=true->n=CV s.data.toList))/\Below w.heap.size w w':=by
 have HG:Hid (DS w):=hid hG;clear hG;cases h1:(DF s.data.toList 48 57&& !s.toList.isEmpty)
 ·rw[qI h1]
  go_enter Tryz.func98,Tryz.ntmps98
  go_wp2_with (go_at_call 122;refine(L7 _ _ _ _ (by omega)).mono ?_;rintro e w' ⟨rfl,rfl⟩;rw[h1])
  go_ret2
  exact⟨⟨_,rfl,fun h=>by cases h⟩,Below.refl _ _⟩
 ·have hpos:0<s.size:=by
   rcases Nat.eq_zero_or_pos s.size with h |h
   ·exfalso
    have:s.data.toList=[]:=List.eq_nil_of_length_eq_zero y20Z;rw[ByteArray.toList_eq s,this]at h1;simp at h1
   ·exact h
  have hall:DF s.data.toList 48 57=true:=by simp only[Bool.and_eq_true]at h1;exact h1.1
  have hhd:s.data.toList.head?=some s[0]:=by
   rw[List.head?_eq_getElem?,gE (by simpa using hpos)];rfl
  cases h2:((s[0].toNat:Int)==48)
  ·have hne:s.data.toList.head?≠some 48:=by
    rw[hhd];intro e;injection e with e
    rw[e]at h2;exact absurd h2 (by decide)
   have hnil:s.data.toList≠ []:=by
    intro e;rw[e]at hhd;cases hhd
   rcases nK s.data.toList hall hnil hne with⟨ha,hc⟩ | ⟨v,ha,hc,hval⟩
   ·obtain⟨te,pe,hv⟩:=HG.out.rng
    have hn:DI s=false:=hc;rw[hn];have cA:=fun W hW=>Tryz.strconv_Atoi_range s (by omega) ha (.iface te pe) W hW (.inr ⟨te,pe,rfl⟩)
    have CA:=hid cA;clear cA ha hc hn hall hhd hne hnil
    go_enter Tryz.func98,Tryz.ntmps98
    go_wp2_with (first
     | (go_at_call 122;refine(L7 _ _ _ _ (by omega)).mono ?_;rintro e w' ⟨rfl,rfl⟩;rw[h1])
     | (go_at_call 123;refine(CA.out _ hv).mono ?_;rintro e w1 ⟨N,rfl,_,_,hb⟩))
    go_ret2
    exact⟨⟨_,rfl,fun h=>by cases h⟩,hb⟩
   ·have hn:DI s=decide (v<=99):=hc
    have HVal:Hid (decide (v<=99)=true->v=CV s.data.toList):=hid (fun h=>hval (hc.trans h));rw[hn];have cA:=fun W=>Tryz.strconv_Atoi_ok s (by omega) v ha W
    have CA:=hid cA;have hvb:=Lib.atoiAll_bounds ha;clear cA ha hc hn hall hhd hne hnil hval
    go_enter Tryz.func98,Tryz.ntmps98
    go_wp2_with (first
     | (go_at_call 122;refine(L7 _ _ _ _ (by omega)).mono ?_;rintro e w' ⟨rfl,rfl⟩;rw[h1])
     | (go_at_call 123;refine(CA.out _).mono ?_;rintro e w1 ⟨rfl,hb⟩))
    go_ret2
    refine⟨⟨_,rfl,HVal.out⟩,?_⟩
    rcases hb with hb | ⟨t,hb⟩
    ·rw[hb];exact Below.refl _ _
    ·rw[hb];exact Lib.bytesWorld_below _ _ _
  ·have hn:DI s=false:=by
    unfold DI L3;have:(s.data.toList.head?==some 48)=true:=by
     rw[hhd,beq_iff_eq,Option.some.injEq,<-UInt8.toNat_inj];rw[beq_iff_eq]at h2;show s[0].toNat=48;omega
    rw[this];simp
   rw[hn];clear hhd hn
   go_enter Tryz.func98,Tryz.ntmps98
   go_wp2_with (go_at_call 122;refine(L7 _ _ _ _ (by omega)).mono ?_;rintro e w' ⟨rfl,rfl⟩;rw[h1])
   go_ret2
   exact⟨⟨_,rfl,fun h=>by cases h⟩,Below.refl _ _⟩
section
structure A1 (w w':World) (S:List Nat):Prop where
 os:w'.os=w.os
 tape:w'.tape=w.tape
 output:w'.output=w.output
 size:w.heap.size<=w'.heap.size
 block:∀k,k<w.heap.size->k∉S->w'.heap[k]?=w.heap[k]?
theorem A1.refl (w:World) (S:List Nat):A1 w w S:=⟨rfl,rfl,rfl,lR_ _,fun _ _ _=>rfl⟩
theorem A1.trans {b c:World} (h:A1 a b S) (k:A1 b c S):A1 a c S:=
 ⟨k.os.trans h.os,k.tape.trans h.tape,k.output.trans h.output,lT_ h.size k.size,fun i hi hn=>(k.block i (lL hi h.size) hn).trans (h.block i hi hn)⟩
theorem A1.mono {T:List Nat} (h:A1 w w' S) (hs:∀k,k∈S->k∈T):A1 w w' T:=⟨h.os,h.tape,h.output,h.size,fun k hk hn=>h.block k hk fun hm=>hn (hs k hm)⟩
theorem A1.drew  (h:A1 a w S):A1 a w.drew S:=⟨h.os,h.tape,h.output,h.size,h.block⟩
theorem A1.alloc  (h:A1 a w S) (o:Obj):A1 a (w.alloc o) S:=
 h.trans ⟨rfl,rfl,rfl,by simp,fun k hk _=>Below.heap_alloc _ _ _ hk⟩
theorem A1.setCell  (h:A1 a w S) {p:Addr} (hp:p.block∈S) (u:Value):A1 a (w.setCell p u) S:=
 h.trans ⟨rfl,rfl,rfl,by simp[World.setCell],fun k _ hn=>Below.heap_setCell _ _ _ _ (fun e=>hn (e▸hp))⟩
theorem A1.grown {row:Option Nat} (h:A1 a w S) (hg:w.grownBy w' row) (hr:∀k,row=some k->k∈S\/a.heap.size<=k):A1 a w' S:=
 ⟨hg.os.trans h.os,hg.tape.trans h.tape,hg.output.trans h.output,lT_ h.size hg.size,fun k hk hn=>by
  rw[hg.block k (lL hk h.size) (fun e=>by rcases hr k e.symm with h1 |h1;exact hn h1;omega)];exact h.block k hk hn⟩
theorem A1.below  (h:A1 w w' S) (hB:B<=w.heap.size) (hs:∀k,k∈S->B<=k):Below B w w':=
 ⟨h.os,h.tape,h.output,h.size,fun k hk=>h.block k (by omega) (fun hm=>by have:=hs k hm;omega)⟩
theorem A1.of_below  (h:Below w.heap.size w w') (S:List Nat):A1 w w' S:=⟨h.os,h.tape,h.output,h.size,fun k hk _=>h.block k hk⟩
theorem A1.cell  (h:A1 w w' S) {p:Addr} (hp:p.block<w.heap.size) (hn:p.block∉S):w'.cell? p=w.cell? p:=World.cell?_of_block (w:=w) (h.block p.block hp hn)
section
variable {w w':World}{S:List Nat}{B e sz n:Nat}{v:Value}{xs:List Value}
theorem BJ (h:w.ownsRow B e sz v n xs)  (hg:v.ownBlock=some g):∃c,w.heap[g]?=some (.cells c e (0,0)):=by
 rcases h.2 with⟨rfl,_⟩ | ⟨g',cap,cur,rfl,_,hh,_⟩
 ·simp[Value.ownBlock]at hg
 ·simp[Value.ownBlock]at hg;subst hg;exact⟨cur,hh⟩
theorem CK (h:w.ownsRow B e sz v n xs)  (hg:v.ownBlock=some g):g<w.heap.size:=(h.lt g hg).2
theorem A8 (h:w.ownsRow B e sz v n xs) (hk:A1 w w' S) (hn:∀g,v.ownBlock=some g->g∉S):w'.ownsRow B e sz v n xs:=by
 obtain⟨h1,h2⟩:=h;refine⟨h1,?_⟩
 rcases h2 with h2 | ⟨g,cap,cur,hv,hg,hh,r⟩
 ·exact .inl h2
 ·subst hv
  exact .inr ⟨g,cap,cur,rfl,hg,by rw[hk.block g (lt_of_block hh) (hn g rfl)];exact hh,r⟩
theorem J3 {B' e' sz' n':Nat}{v':Value}{xs':List Value} (h:w.ownsRow B e sz v n xs) (h':w.ownsRow B' e' sz' v' n' xs') (hne:e≠e')  (hg:v.ownBlock=some g):v'.ownBlock≠some g:=by
 intro hg';obtain⟨c,hc⟩:=BJ h hg;obtain⟨c',hc'⟩:=BJ h' hg';rw[hc]at hc';injection hc' with hc'
 injection hc' with _ he
 exact hne he
theorem A6 (h:w.ownsRow B e sz v n xs)  (hb:w.heap[b]?=some (.cells cs t fr)) (hne:e≠t):v.ownBlock≠some b:=by
 intro hg;obtain⟨c,hc⟩:=BJ h hg;rw[hc]at hb;injection hb with hb
 injection hb with _ he
 exact hne he
theorem A5  (hb:w.heap[b]?=some (.cells cs t fr)) (u:Value):(w.setCell (af b j) u).heap[b]?=some (.cells (cs.setIfInBounds j u) t fr):=by
 have hlt:=lt_of_block hb;have h':w.heap[b]=.cells cs t fr:=by simpa[Array.getElem?_eq_getElem hlt] using hb
 show(w.heap.modify b _)[b]?=_;rw[Array.getElem?_eq_getElem (by simpa using hlt),Array.getElem_modify_self,h'];rfl
theorem A0  (hb:w.heap[b]?=some (.cells cs t fr)):w.cell? (af b j)=cs[j]?:=by simp[World.cell?,hb]
theorem A3  (hb:w.heap[b]?=some (.cells cs t (0,0))):w.frozen? (af b j)=false:=by simp[World.frozen?,hb]
end
end
theorem Mz6 {P:Prop} (h:P:=by
  rw[ByteArray.toList_eq,hlen];cases h:s.data.toList with
  |nil=>rw[h]at hlen;rw[decide_eq_false (p:=1<=s.size) (by simp at hlen;omega)];simp
  |cons a r=>rw[h]at hlen;rw[decide_eq_true (p:=1<=s.size) (by simp at hlen;omega)];simp):P:=h
theorem eQ (s:ByteArray):DQ s=(decide ((s.size:Int)<=8)&&(DF s.data.toList 97 122&& !s.toList.isEmpty)):=by
 have hlen:s.data.toList.length=s.size:=by simp
 unfold DQ J1;exact Mz6
theorem ZR (s:ByteArray):GO s=(decide ((s.size:Int)<=8)&&(DF s.data.toList 65 90&& !s.toList.isEmpty)):=by
 have hlen:s.data.toList.length=s.size:=by simp
 unfold GO J1;exact Mz6
theorem XP (s:ByteArray) (w:World) (hs:s.size<=4000):
  Calls Tryz.prog 132 #[ab 1,.string s] w fun e w'=>e=.returned (.bool (DQ s))/\w=w':=by
 by_cases h8:s.size<=8
 ·rw[eQ,decide_eq_true (by omega),Bool.true_and]
  go_enter Tryz.func132,Tryz.ntmps132
  go_wp2_with (go_at_call 122;refine(L7 _ _ _ _ (by omega)).mono ?_;rintro e w' ⟨rfl,rfl⟩)
  go_ret;exact⟨rfl,rfl⟩
 ·rw[eQ,decide_eq_false (by omega),Bool.false_and]
  go_enter Tryz.func132,Tryz.ntmps132
  go_wp2;go_ret;exact⟨rfl,rfl⟩
theorem YR (s:ByteArray) (w:World) (hs:s.size<=4000):
  Calls Tryz.prog 132 #[ab 2,.string s] w fun e w'=>e=.returned (.bool (GO s))/\w=w':=by
 by_cases h8:s.size<=8
 ·rw[ZR,decide_eq_true (by omega),Bool.true_and]
  go_enter Tryz.func132,Tryz.ntmps132
  go_wp2_with (go_at_call 122;refine(L7 _ _ _ _ (by omega)).mono ?_;rintro e w' ⟨rfl,rfl⟩)
  go_ret;exact⟨rfl,rfl⟩
 ·rw[ZR,decide_eq_false (by omega),Bool.false_and]
  go_enter Tryz.func132,Tryz.ntmps132
  go_wp2;go_ret;exact⟨rfl,rfl⟩
theorem gW (s:ByteArray) (w:World) (hG:DS w) (hs:s.size<=4000):
  Calls Tryz.prog 132 #[ab 3,.string s] w fun e w'=>e=.returned (.bool (DI s))/\Below w.heap.size w w':=by
 have HG:Hid (DS w):=hid hG;clear hG
 go_enter Tryz.func132,Tryz.ntmps132
 go_wp2_with (go_at_call 98;refine(NK _ _ HG.out hs).mono ?_;rintro e w1 ⟨⟨n,rfl,_⟩,hb⟩)
 go_ret;exact⟨rfl,hb⟩
theorem jA (s:ByteArray) (w:World):
  Calls Tryz.prog 132 #[ab 4,.string s] w fun e w'=>e=.returned (.bool (s.toList== [61]))/\w=w':=by
 go_enter Tryz.func132,Tryz.ntmps132
 go_wp2;go_ret;exact⟨rfl,rfl⟩
def EU (l:List ByteArray) (j:Nat):Bool:=(l.drop j).all NH
theorem p7 {p:ByteArray->Bool} (hj:j<l.length):(l.drop j).all p=(p (nth l j)&&(l.drop (j+1)).all p):=by
 rw[List.drop_eq_getElem_cons hj,List.all_cons];unfold nth;rw[gD_,gE hj];rfl
theorem ZM (l:List ByteArray) (ad:Option Addr) (g j n cap:Nat) (w:World) (hl:l.length=j+n) (hn:l.length<=4001) (hs:∀i,(nth l i).size<=4000) (hc:DK w g 0 l) (had:0<n->ad=some (af g j)):
  Calls Tryz.prog 131 #[.slice ad n cap] w fun e w'=>e=.returned (.bool (EU l j))/\w=w':=by
 have HC:Hid (DK w g 0 l):=hid hc;have HL:Hid (l.length=j+n):=hid hl;have hn2:n<=4001:=by omega
 rcases Nat.eq_zero_or_pos n with h0 |h0
 ·have HE:Hid (EU l j=true):=hid (by unfold EU;rw[List.drop_eq_nil_of_le (by omega)];rfl)
  subst h0;clear hc hl had
  go_enter Tryz.func131,Tryz.ntmps131
  go_wp2;refine wp_loop_rounds 1 ?_;rw[rounds_succ];go_wp2;go_ret;exact⟨BW HE.out,rfl⟩
 ·have e:=had h0
  subst e;clear hc hl had
  go_enter Tryz.func131,Tryz.ntmps131
  go_wp2
  go_loop [7] (fun i=>∃k:Nat,k<=n/\i=ab k/\Hid (EU l j=EU l (j+k))) (fun i=>n - (intOf i).toNat)
  case atStart=>exact⟨0,Nat.zero_le _,rfl,rfl⟩
  case round=>
   obtain⟨k,hk,rfl,hall⟩:=hrel
   by_cases hlt:k<n
   ·have ck:w.cell? (af g (j+k))=some (.string (nth l (j+k))):=by simpa using HC.out.2 (j+k) y30Z
    have hsk:=hs (j+k);have HP:Hid (EU l j=(NH (nth l (j+k))&&EU l (j+k+1))):=hid (by rw[hall.out];unfold EU;exact p7 y30Z);obtain⟨x,hx⟩:=qF (nth l (j+k));rw[<-hx]at ck hsk HP;clear hx hall hs;cases hp:(x.toList== [124]) <;> cases hp2:DQ x <;> cases hp3:GO x
    all_goals
     go_wp2_with (first | (go_at_call_of 132 (Value.int .i64 1);refine(XP _ _ hsk).mono ?_;rintro e w' ⟨rfl,rfl⟩;rw[hp2]) | (go_at_call_of 132 (Value.int .i64 2);refine(YR _ _ hsk).mono ?_;rintro e w' ⟨rfl,rfl⟩;rw[hp3]))
    ·go_ret
     exact⟨BW (by rw[HP.out];unfold NH I0;rw[hp,hp2,hp3];rfl),rfl⟩
    all_goals
     go_round
     case rel=>exact⟨k+1,by omega,by go_num,by rw[HP.out];unfold NH I0;rw[hp,hp2,hp3];rfl⟩
     case measure=>simp[intOf];omega
   ·have HE:Hid (EU l j=true):=hid (by rw[hall.out];unfold EU;rw[List.drop_eq_nil_of_le y30Z];rfl)
    go_wp2;go_ret;exact⟨BW HE.out,rfl⟩
section
structure Gr where
 toks:List (ByteArray × Int × Int)
 swps:List (ByteArray × ByteArray × Int)
 names:List ByteArray
 rules:List (ByteArray × List ByteArray)
section
variable {w:World}{B gb:Nat}{G:Gr}{vT vS vN vR:Value}{pv:List Value}
end
theorem Mz5 {P:Prop} (h:P:=by
  intro l
  induction l with
  |nil=>intro i a j h;simp at h
  |cons x r ih=>
   intro i a j h hj;rw[List.flatMap_cons]
   match i with
   |0=>
    simp at h;subst h;rw[aL y78Z]
    congr 1;omega
   |i+1=>
    simp at h;rw[aR_ y78Z,hf];rw[<-ih i a j h hj]
    congr 1;omega):P:=h
theorem wN {α:Type} (f:α->List Value) (hf:∀a,(f a).length=3):∀(l:List α) (i:Nat) (a:α) (j:Nat),l[i]?=some a->j<3->(l.flatMap f)[i*3+j]?=(f a)[j]?:=by
 exact Mz5
theorem RZ {α:Type} (f:α->List Value) (hf:∀a,(f a).length=2):∀(l:List α) (i:Nat) (a:α) (j:Nat),l[i]?=some a->j<2->(l.flatMap f)[i*2+j]?=(f a)[j]?:=by
 exact Mz5
def D2 (l:List (ByteArray × Int × Int)) (w:ByteArray):Bool:=l.any fun t=>t.1.toList==w.toList
def C4 (l:List ByteArray) (w:ByteArray):Bool:=l.any fun t=>t.toList==w.toList
def pB (G:Gr) (x:ByteArray):Bool:= !I0 x&&(!D2 G.toks x&& !C4 G.names x)
def FK (G:Gr) (l:List ByteArray):Bool:=
 if(nth l 0).toList== [115,119,97,112]then(!D2 G.toks (nth l 1)||(!D2 G.toks (nth l 2)||((nth l 1).toList==(nth l 2).toList)))
 else if(nth l 0).toList== [114,117,108,101]then(l.drop 3).any (pB G)else false
theorem ET {p:Nat->Prop}{k:Nat} (h:∀j,j<k->p j) (hk:p k):∀j,j<k+1->p j:=by
 intro j hj
 by_cases e:j=k
 ·subst e;exact hk
 ·exact h j (by omega)
end
def EF (k:Int) (s:ByteArray):Bool:=if k=1 then DQ s else if k=2 then GO s else if k=3 then DI s else s.toList== [61]
theorem F8 (k:Int) (s:ByteArray) (w:World) (hk:k=1\/k=2\/k=3\/k=4) (hG:DS w) (hs:s.size<=4000):
  Calls Tryz.prog 132 #[ab k,.string s] w fun e w'=>e=.returned (.bool (EF k s))/\Below w.heap.size w w':=by
 rcases hk with rfl |rfl |rfl |rfl
 ·exact(XP s w hs).mono fun e w' h=>⟨h.1,by rw[<-h.2];exact Below.refl _ _⟩
 ·exact(YR s w hs).mono fun e w' h=>⟨h.1,by rw[<-h.2];exact Below.refl _ _⟩
 ·exact gW s w hG hs
 ·exact(jA s w).mono fun e w' h=>⟨h.1,by rw[<-h.2];exact Below.refl _ _⟩
theorem TM  (hi:i<3) (h:EF (if i=0 then 1 else 3) (nth l (1+i))=false):D5 l=false:=by
 have h':i=0\/i=1\/i=2:=by omega
 unfold D5
 rcases h' with rfl |rfl |rfl
 ·have h2:DQ (nth l 1)=false:=h
  rw[h2];simp
 ·have h2:DI (nth l 2)=false:=h
  rw[h2];simp
 ·have h2:DI (nth l 3)=false:=h
  rw[h2];simp
theorem sI  (h:∀i,i<3->EF (if i=0 then 1 else 3) (nth l (1+i))=true):D5 l=decide (l.length=4):=by
 unfold D5;have h1:DQ (nth l 1)=true:=h 0 (by omega);have h2:DI (nth l 2)=true:=h 1 (by omega);have h3:DI (nth l 3)=true:=h 2 (by omega);rw[h1,h2,h3];simp
theorem Mz1 {P:Prop} (h:P:=by
  go_wp2_with (go_at_call 132;refine(F8 _ _ _ (by omega) HGr.out hsk).mono ?_;rintro e w1 ⟨rfl,hb⟩;rw[hkb])
  go_ret;exact⟨BW HF.out,hbr.out.trans (hb.mono hbr.out.size)⟩):P:=h
theorem Mz2 {P:Prop} (h:P:=by
  go_wp2_with (go_at_call 132;refine(F8 _ _ _ (by omega) HGr.out hsk).mono ?_;rintro e w1 ⟨rfl,hb⟩;rw[hkb])
  go_roundw
  case rel=>exact⟨0+1,m - 1,cap' - 1,_,by omega,by omega,by omega,by omega,by go_num,rfl,hid (by have:=hmk.out;omega),hid (fun h=>by rw[if_neg (by omega)]),HP,hid (hbr.out.trans (hb.mono hbr.out.size))⟩
  case measure=>simp[intOf]):P:=h
theorem Mz3 {P:Prop} (h:P:=by
  go_wp2_with (go_at_call 132;refine(F8 _ _ _ (by omega) HGr.out hsk).mono ?_;rintro e w1 ⟨rfl,hb⟩;rw[hkb])
  go_roundw
  case rel=>exact⟨1+1,m - 1,cap' - 1,_,by omega,by omega,by omega,by omega,by go_num,rfl,hid (by have:=hmk.out;omega),hid (fun h=>by rw[if_neg (by omega)]),HP,hid (hbr.out.trans (hb.mono hbr.out.size))⟩
  case measure=>simp[intOf]):P:=h
theorem Mz4 {P:Prop} (h:P:=by
  go_wp2_with (go_at_call 132;refine(F8 _ _ _ (by omega) HGr.out hsk).mono ?_;rintro e w1 ⟨rfl,hb⟩;rw[hkb])
  go_roundw
  case rel=>exact⟨2+1,m - 1,cap' - 1,_,by omega,by omega,by omega,by omega,by go_num,rfl,hid (by have:=hmk.out;omega),hid (fun h=>by rw[if_neg (by omega)]),HP,hid (hbr.out.trans (hb.mono hbr.out.size))⟩
  case measure=>simp[intOf]):P:=h
theorem pH (l:List ByteArray) (ad:Option Addr) (g n cap:Nat) (x:ByteArray) (w:World) (hG:DS w) (hl:l.length=1+n) (hn:n<=4000) (hnc:n<=cap) (hcap:cap<=9223372036854775807) (hs:∀i,(nth l i).size<=4000) (hc:DK w g 0 l) (had:0<n->ad=some (af g 1)):
  Calls Tryz.prog 119 #[.agg #[.string x,ab 1,ab 3,ab 3],.slice ad n cap] w fun e w'=>e=.returned (.bool (D5 l))/\Below w.heap.size w w':=by
 go_enter Tryz.func119,Tryz.ntmps119
 go_wp2;have i0:∀w,(Instr.index 220 (.agg #[ab 1,ab 3,ab 3]) (ab 0)).run Tryz.prog w=.ok (ab 1) w:=fun _=>by kernel_rfl
 have i1:∀w,(Instr.index 220 (.agg #[ab 1,ab 3,ab 3]) (ab 1)).run Tryz.prog w=.ok (ab 3) w:=fun _=>by kernel_rfl
 have i2:∀w,(Instr.index 220 (.agg #[ab 1,ab 3,ab 3]) (ab 2)).run Tryz.prog w=.ok (ab 3) w:=fun _=>by kernel_rfl
 have hb0:Below w.heap.size w (w.alloc (.cells #[.string x,ab 1,ab 3,ab 3] 222)):=(Below.refl _ _).alloc (lR_ _) _;have HB0:=hid hb0;have HC:Hid (DK w g 0 l):=hid hc;have HG:Hid (DS w):=hid hG;have HL:Hid (l.length=1+n):=hid hl;clear hc hG hl hb0
 go_loopw [1,9] (fun v c wr=>∃(k m cap':Nat) (ad':Option Addr),k<=3/\m<=cap'/\m<=4000/\cap'<=9223372036854775807/\c=ab k/\v=.slice ad' m cap'/\Hid (m+k=n)/\Hid (0<m->ad'=some (af g (1+k)))/\
   Hid (∀i,i<k->EF (if i=0 then 1 else 3) (nth l (1+i))=true)/\Hid (Below w.heap.size w wr)) (fun _ c _=>3 - (intOf c).toNat)
 case atStart=>exact⟨0,n,cap,ad,by omega,by omega,by omega,by omega,rfl,rfl,rfl,had,fun i h=>by omega,HB0⟩
 case round=>
  clear had HB0;obtain⟨k,m,cap',ad',hk3,hmc,hm4,hc6,rfl,rfl,hmk,had,hpre,hbr⟩:=hrel;have hGr:=HG.out.below hbr.out HG.out.size;have HGr:Hid (DS wr):=hid hGr;have HCr:Hid (DK wr g 0 l):=hid (HC.out.later hbr.out);clear hGr
  by_cases hk:k=3
  ·subst hk
   have HF:Hid (D5 l=decide (l.length=4)):=hid (sI hpre.out);go_wp2;go_ret;refine⟨BW ?_,hbr.out⟩;rw[HF.out,Bool.eq_iff_iff];simp only[decide_eq_true_eq,beq_iff_eq];have:=HL.out;have:=hmk.out;omega
  ·by_cases hm:m=0
   ·have hf:D5 l=false:=by
     unfold D5;rw[decide_eq_false y16Z];rfl
    have HF:Hid (D5 l=false):=hid hf;clear hf;have hk':k=0\/k=1\/k=2:=by omega
    subst hm;clear hk
    rcases hk' with rfl |rfl |rfl
    all_goals
     go_wp2;go_ret;exact⟨BW HF.out,hbr.out⟩
   ·have had2:=had.out (by omega)
    have hk':k=0\/k=1\/k=2:=by omega
    have ck:wr.cell? (af g (1+k))=some (.string (nth l (1+k))):=by simpa using HCr.out.2 (1+k) y16Z
    have hsk:=hs (1+k);subst had2;clear hk hs
    rcases hk' with rfl |rfl |rfl
    ·cases hkb:EF 1 (nth l (1+0))
     ·have HF:Hid (D5 l=false):=hid (TM (i:=0) (by omega) hkb)
      exact Mz1
     ·have HP:Hid (∀i,i<0+1->EF (if i=0 then 1 else 3) (nth l (1+i))=true):=hid (ET hpre.out hkb)
      exact Mz2
    ·cases hkb:EF 3 (nth l (1+1))
     ·have HF:Hid (D5 l=false):=hid (TM (i:=1) (by omega) hkb)
      exact Mz1
     ·have HP:Hid (∀i,i<1+1->EF (if i=0 then 1 else 3) (nth l (1+i))=true):=hid (ET hpre.out hkb)
      exact Mz3
    ·cases hkb:EF 3 (nth l (1+2))
     ·have HF:Hid (D5 l=false):=hid (TM (i:=2) (by omega) hkb)
      exact Mz1
     ·have HP:Hid (∀i,i<2+1->EF (if i=0 then 1 else 3) (nth l (1+i))=true):=hid (ET hpre.out hkb)
      exact Mz4
theorem TY  (hi:i<3) (h:EF (if i=2 then 3 else 1) (nth l (1+i))=false):BS l=false:=by
 have h':i=0\/i=1\/i=2:=by omega
 unfold BS
 rcases h' with rfl |rfl |rfl
 ·have h2:DQ (nth l 1)=false:=h
  rw[h2];simp
 ·have h2:DQ (nth l 2)=false:=h
  rw[h2];simp
 ·have h2:DI (nth l 3)=false:=h
  rw[h2];simp
theorem uL  (h:∀i,i<3->EF (if i=2 then 3 else 1) (nth l (1+i))=true):BS l=decide (l.length=4):=by
 unfold BS;have h1:DQ (nth l 1)=true:=h 0 (by omega);have h2:DQ (nth l 2)=true:=h 1 (by omega);have h3:DI (nth l 3)=true:=h 2 (by omega);rw[h1,h2,h3];simp
theorem nH (l:List ByteArray) (ad:Option Addr) (g n cap:Nat) (x:ByteArray) (w:World) (hG:DS w) (hl:l.length=1+n) (hn:n<=4000) (hnc:n<=cap) (hcap:cap<=9223372036854775807) (hs:∀i,(nth l i).size<=4000) (hc:DK w g 0 l) (had:0<n->ad=some (af g 1)):
  Calls Tryz.prog 119 #[.agg #[.string x,ab 1,ab 1,ab 3],.slice ad n cap] w fun e w'=>e=.returned (.bool (BS l))/\Below w.heap.size w w':=by
 go_enter Tryz.func119,Tryz.ntmps119
 go_wp2;have i0:∀w,(Instr.index 220 (.agg #[ab 1,ab 1,ab 3]) (ab 0)).run Tryz.prog w=.ok (ab 1) w:=fun _=>by kernel_rfl
 have i1:∀w,(Instr.index 220 (.agg #[ab 1,ab 1,ab 3]) (ab 1)).run Tryz.prog w=.ok (ab 1) w:=fun _=>by kernel_rfl
 have i2:∀w,(Instr.index 220 (.agg #[ab 1,ab 1,ab 3]) (ab 2)).run Tryz.prog w=.ok (ab 3) w:=fun _=>by kernel_rfl
 have hb0:Below w.heap.size w (w.alloc (.cells #[.string x,ab 1,ab 1,ab 3] 222)):=(Below.refl _ _).alloc (lR_ _) _;have HB0:=hid hb0;have HC:Hid (DK w g 0 l):=hid hc;have HG:Hid (DS w):=hid hG;have HL:Hid (l.length=1+n):=hid hl;clear hc hG hl hb0
 go_loopw [1,9] (fun v c wr=>∃(k m cap':Nat) (ad':Option Addr),k<=3/\m<=cap'/\m<=4000/\cap'<=9223372036854775807/\c=ab k/\v=.slice ad' m cap'/\Hid (m+k=n)/\Hid (0<m->ad'=some (af g (1+k)))/\
   Hid (∀i,i<k->EF (if i=2 then 3 else 1) (nth l (1+i))=true)/\Hid (Below w.heap.size w wr)) (fun _ c _=>3 - (intOf c).toNat)
 case atStart=>exact⟨0,n,cap,ad,by omega,by omega,by omega,by omega,rfl,rfl,rfl,had,fun i h=>by omega,HB0⟩
 case round=>
  clear had HB0;obtain⟨k,m,cap',ad',hk3,hmc,hm4,hc6,rfl,rfl,hmk,had,hpre,hbr⟩:=hrel;have hGr:=HG.out.below hbr.out HG.out.size;have HGr:Hid (DS wr):=hid hGr;have HCr:Hid (DK wr g 0 l):=hid (HC.out.later hbr.out);clear hGr
  by_cases hk:k=3
  ·subst hk
   have HF:Hid (BS l=decide (l.length=4)):=hid (uL hpre.out);go_wp2;go_ret;refine⟨BW ?_,hbr.out⟩;rw[HF.out,Bool.eq_iff_iff];simp only[decide_eq_true_eq,beq_iff_eq];have:=HL.out;have:=hmk.out;omega
  ·by_cases hm:m=0
   ·have hf:BS l=false:=by
     unfold BS;rw[decide_eq_false y16Z];rfl
    have HF:Hid (BS l=false):=hid hf;clear hf;have hk':k=0\/k=1\/k=2:=by omega
    subst hm;clear hk
    rcases hk' with rfl |rfl |rfl
    all_goals
     go_wp2;go_ret;exact⟨BW HF.out,hbr.out⟩
   ·have had2:=had.out (by omega)
    have hk':k=0\/k=1\/k=2:=by omega
    have ck:wr.cell? (af g (1+k))=some (.string (nth l (1+k))):=by simpa using HCr.out.2 (1+k) y16Z
    have hsk:=hs (1+k);subst had2;clear hk hs
    rcases hk' with rfl |rfl |rfl
    ·cases hkb:EF 1 (nth l (1+0))
     ·have HF:Hid (BS l=false):=hid (TY (i:=0) (by omega) hkb)
      exact Mz1
     ·have HP:Hid (∀i,i<0+1->EF (if i=2 then 3 else 1) (nth l (1+i))=true):=hid (ET hpre.out hkb)
      exact Mz2
    ·cases hkb:EF 1 (nth l (1+1))
     ·have HF:Hid (BS l=false):=hid (TY (i:=1) (by omega) hkb)
      exact Mz1
     ·have HP:Hid (∀i,i<1+1->EF (if i=2 then 3 else 1) (nth l (1+i))=true):=hid (ET hpre.out hkb)
      exact Mz3
    ·cases hkb:EF 3 (nth l (1+2))
     ·have HF:Hid (BS l=false):=hid (TY (i:=2) (by omega) hkb)
      exact Mz1
     ·have HP:Hid (∀i,i<2+1->EF (if i=2 then 3 else 1) (nth l (1+i))=true):=hid (ET hpre.out hkb)
      exact Mz4
theorem YO  (hi:i<2) (h:EF (if i=0 then 2 else 4) (nth l (1+i))=false):CY l=false:=by
 have h':i=0\/i=1:=by omega
 unfold CY NU
 rcases h' with rfl |rfl
 ·have h2:GO (nth l 1)=false:=h
  rw[h2];simp
 ·have h2:((nth l 2).toList== [61])=false:=h
  rw[h2];simp
theorem qJ  (hl:3<=l.length) (h:∀i,i<2->EF (if i=0 then 2 else 4) (nth l (1+i))=true):CY l=EU l 3:=by
 unfold CY NU EU;have h1:GO (nth l 1)=true:=h 0 (by omega);have h2:((nth l 2).toList== [61])=true:=h 1 (by omega);rw[h1,h2,decide_eq_true hl];simp
theorem mP (l:List ByteArray) (ad:Option Addr) (g n cap:Nat) (x:ByteArray) (w:World) (hG:DS w) (hl:l.length=1+n) (hn:n<=4000) (hnc:n<=cap) (hcap:cap<=9223372036854775807) (hs:∀i,(nth l i).size<=4000) (hc:DK w g 0 l) (had:0<n->ad=some (af g 1)):
  Calls Tryz.prog 119 #[.agg #[.string x,ab 2,ab 4,ab 5],.slice ad n cap] w fun e w'=>e=.returned (.bool (CY l))/\Below w.heap.size w w':=by
 go_enter Tryz.func119,Tryz.ntmps119
 go_wp2;have i0:∀w,(Instr.index 220 (.agg #[ab 2,ab 4,ab 5]) (ab 0)).run Tryz.prog w=.ok (ab 2) w:=fun _=>by kernel_rfl
 have i1:∀w,(Instr.index 220 (.agg #[ab 2,ab 4,ab 5]) (ab 1)).run Tryz.prog w=.ok (ab 4) w:=fun _=>by kernel_rfl
 have i2:∀w,(Instr.index 220 (.agg #[ab 2,ab 4,ab 5]) (ab 2)).run Tryz.prog w=.ok (ab 5) w:=fun _=>by kernel_rfl
 have hb0:Below w.heap.size w (w.alloc (.cells #[.string x,ab 2,ab 4,ab 5] 222)):=(Below.refl _ _).alloc (lR_ _) _;have HB0:=hid hb0;have HC:Hid (DK w g 0 l):=hid hc;have HG:Hid (DS w):=hid hG;have HL:Hid (l.length=1+n):=hid hl;clear hc hG hl hb0
 go_loopw [1,9] (fun v c wr=>∃(k m cap':Nat) (ad':Option Addr),k<=2/\m<=cap'/\m<=4000/\cap'<=9223372036854775807/\c=ab k/\v=.slice ad' m cap'/\Hid (m+k=n)/\Hid (0<m->ad'=some (af g (1+k)))/\
   Hid (∀i,i<k->EF (if i=0 then 2 else 4) (nth l (1+i))=true)/\Hid (Below w.heap.size w wr)) (fun _ c _=>3 - (intOf c).toNat)
 case atStart=>exact⟨0,n,cap,ad,by omega,by omega,by omega,by omega,rfl,rfl,rfl,had,fun i h=>by omega,HB0⟩
 case round=>
  clear had HB0;obtain⟨k,m,cap',ad',hk3,hmc,hm4,hc6,rfl,rfl,hmk,had,hpre,hbr⟩:=hrel;have hGr:=HG.out.below hbr.out HG.out.size;have HGr:Hid (DS wr):=hid hGr;have HCr:Hid (DK wr g 0 l):=hid (HC.out.later hbr.out);clear hGr
  by_cases hk:k=2
  ·subst hk
   have HF:Hid (CY l=EU l 3):=hid (qJ y16Z hpre.out);have hsl:=hs;have hll:l.length<=4001:=by have:=HL.out;omega
   have hlm:l.length=3+m:=by have:=HL.out;have:=hmk.out;omega
   have HLM:Hid (l.length=3+m):=hid hlm;clear hlm hs
   go_wp2_with (go_at_call 131;refine(ZM l _ g 3 m cap' _ HLM.out hll hsl HCr.out had.out).mono ?_;rintro e w1 ⟨rfl,rfl⟩)
   go_ret;exact⟨BW HF.out,hbr.out⟩
  ·by_cases hm:m=0
   ·have hf:CY l=false:=by
     unfold CY NU;rw[decide_eq_false y16Z];rfl
    have HF:Hid (CY l=false):=hid hf;clear hf;have hk':k=0\/k=1:=by omega
    subst hm;clear hk
    rcases hk' with rfl |rfl
    all_goals
     go_wp2;go_ret;exact⟨BW HF.out,hbr.out⟩
   ·have had2:=had.out (by omega)
    have hk':k=0\/k=1:=by omega
    have ck:wr.cell? (af g (1+k))=some (.string (nth l (1+k))):=by simpa using HCr.out.2 (1+k) y16Z
    have hsk:=hs (1+k);subst had2;clear hk hs
    rcases hk' with rfl |rfl
    ·cases hkb:EF 2 (nth l (1+0))
     ·have HF:Hid (CY l=false):=hid (YO (i:=0) (by omega) hkb)
      exact Mz1
     ·have HP:Hid (∀i,i<0+1->EF (if i=0 then 2 else 4) (nth l (1+i))=true):=hid (ET hpre.out hkb)
      exact Mz2
    ·cases hkb:EF 4 (nth l (1+1))
     ·have HF:Hid (CY l=false):=hid (YO (i:=1) (by omega) hkb)
      exact Mz1
     ·have HP:Hid (∀i,i<1+1->EF (if i=0 then 2 else 4) (nth l (1+i))=true):=hid (ET hpre.out hkb)
      exact Mz3
section
section
variable {w w1:World}{B gb:Nat}{G:Gr}{vT vS vN vR:Value}{pv:List Value}{S:List Nat}
theorem BE {k:Nat} (h:k∈v.ownBlock.toList):v.ownBlock=some k:=by
 cases hv:v.ownBlock with
 |none=>rw[hv]at h;simp at h
 |some g=>rw[hv]at h;simp at h;rw[h]
theorem J7 {u:Value} (h:w.ownsRow B e sz v n xs) (hk:A1 w w1 S) (hn:∀g,v.ownBlock=some g->g∉S) (hgb:∀g,v.ownBlock=some g->gb≠g):
  (w1.setCell (af gb j) u).ownsRow B e sz v n xs:=
 ownsRow_setCell_other (A8 h hk hn) (fun hg=>hgb gb hg rfl) u
theorem C2 {u:Value} (h:w1.ownsRow B e sz v n xs) (hb:w1.heap[gb]?=some (.cells cs t fr)) (hne:e≠t):
  (w1.setCell (af gb j) u).ownsRow B e sz v n xs:=
 ownsRow_setCell_other h (A6 h hb hne) u
def RB (G:Gr) (bad:Bool):Int:=if 20<G.toks.length\/20<G.names.length\/60<G.rules.length then 4 else if bad then 4 else 0
theorem KV  (h:w.ownsRow B e sz v n xs):∀k,k∈v.ownBlock.toList->B<=k:=fun k hk=>(h.lt k (BE hk)).1
end
theorem BI  (h:w.ownsRow B e sz v n xs):∃a c,v=.slice a n c:=by
 rcases h.2 with⟨rfl,rfl⟩ | ⟨g,cap,cur,rfl,_⟩
 ·exact⟨_,_,rfl⟩
 ·exact⟨_,_,rfl⟩
end
section
section
variable {w w1:World}{B gb rb g:Nat}{G:Gr}{l:List ByteArray}{nm:ByteArray}{R:List (ByteArray × List ByteArray)}{cur:List ByteArray}{vT vS vN vR:Value}{pv:List Value}{vP:Value}
end
def RY (nm:ByteArray) (st:List (ByteArray × List ByteArray) × List ByteArray × Bool) (x:ByteArray):List (ByteArray × List ByteArray) × List ByteArray × Bool:=
 if I0 x then(st.1++ [(nm,st.2.1)],[],st.2.2)else(st.1,st.2.1++ [x],st.2.2||decide (8<st.2.1.length+1))
def rst (R:List (ByteArray × List ByteArray)) (nm:ByteArray) (l:List ByteArray):List (ByteArray × List ByteArray) × List ByteArray × Bool:=l.foldl (RY nm) (R,[],false)
end
end Go.Proofs.YtjjggdcnpndgjabGreatDoor
