import Derived.Lib.AtoiAllCases
import Derived.Lib.AtoiTie
import Derived.Test.YtjjggdcnpndgjaaGreatDoorJ1
import Derived.Test.YtjjggdcnpndgjaaGreatDoorShelf
import Derived.Deep.RegionHeld3
import Derived.Deep.AppendLies
import Derived.OneCell
import Derived.Deep.RegionWith
set_option linter.unusedSimpArgs false
set_option maxHeartbeats 1000000
set_option maxRecDepth 100000
namespace Go.Proofs.YtjjggdcnpndgjaaGreatDoor
open Go.RowKit
variable {B b e g i j n sz t:Nat}{S:List Nat}{a w w':World}{cs:Array Value}{fr:Nat × Nat}{l:List ByteArray}{v:Value}{xs:List Value}
section
open Go.Lib
theorem cH:∀(l:List UInt8) (acc:Nat),DK l 48 57=true->parseUint10 acc l=.range\/∃u,parseUint10 acc l=.ok u/\acc*10 ^l.length<=u:=by
 intro l
 induction l with
 |nil=>intro acc _;exact .inr ⟨acc,rfl,by simp⟩
 |cons c r ih=>
  intro acc hd;unfold DK at hd;simp only[List.all_cons,Bool.and_eq_true,decide_eq_true_eq]at hd;simp only[parseUint10];rw[if_pos ⟨by omega,by omega⟩]
  by_cases h1:1844674407370955162<=acc
  ·rw[if_pos h1];exact .inl rfl
  ·rw[if_neg h1]
   by_cases h2:18446744073709551616<=acc*10+(c.toNat - 48)
   ·rw[if_pos h2];exact .inl rfl
   ·rw[if_neg h2]
    rcases ih (acc*10+(c.toNat - 48)) (by unfold DK;exact hd.2)with h | ⟨u,h,hu⟩
    ·exact .inl h
    ·refine .inr ⟨u,h,lT_ ?_ hu⟩
     rw[lC,Nat.pow_succ,Nat.mul_comm (10 ^r.length) 10,<-Nat.mul_assoc];exact Nat.mul_le_mul_right _ (by omega)
theorem o9 (l:List UInt8) (hd:DK l 48 57=true) (hne:l≠ []) (h0:l.head?≠some 48):
  (atoiAll l=.range/\L4 l=false)\/∃v,atoiAll l=.ok v/\L4 l=decide (v<=99)/\(L4 l=true->v=CZ l):=by
 cases l with
 |nil=>exact absurd rfl hne
 |cons c r=>
  have hc:48<=c.toNat/\c.toNat<=57:=by
   unfold DK at hd;simp only[List.all_cons,Bool.and_eq_true,decide_eq_true_eq]at hd;omega
  have hr:DK r 48 57=true:=by
   unfold DK at hd ⊢;simp only[List.all_cons,Bool.and_eq_true]at hd;exact hd.2
  have hc0:¬c.toNat=48:=fun e=>h0 (by
   rw[List.head?_cons,Option.some.injEq,<-UInt8.toNat_inj];exact e)
  have hcost:L4 (c::r)=decide (r.length<=1):=by
   unfold L4 J6;rw[hd];have:((c::r).head?==some 48)=false:=by
    rw[beq_eq_false_iff_ne];exact h0
   rw[this];simp only[lC,Bool.and_true,Bool.not_false];rw[decide_eq_true (p:=1<=r.length+1) (by omega),Bool.true_and]
   by_cases h:r.length<=1
   ·rw[decide_eq_true h,decide_eq_true (by omega)]
   ·rw[decide_eq_false h,decide_eq_false (by omega)]
  have hmag:parseMag (c::r)=parseUint10 (c.toNat - 48) r:=by
   unfold parseMag;rw[if_neg (by simp)];simp only[parseUint10];rw[if_pos hc,if_neg (by omega),if_neg (by omega)]
   congr 1
   omega
  rw[atoiAll_plain c r (by omega) (by omega),hmag,hcost]
  match r,hr with
  | [],_=>
   right;simp only[parseUint10,signless];rw[if_neg (by omega)];exact⟨_,rfl,by rw[decide_eq_true (by simp),decide_eq_true (by omega)],fun _=>by simp[CZ];omega⟩
  | [d],hr=>
   right;have hd':48<=d.toNat/\d.toNat<=57:=by
    unfold DK at hr;simp only[List.all_cons,Bool.and_eq_true,decide_eq_true_eq]at hr;omega
   simp only[parseUint10];rw[if_pos hd',if_neg (by omega),if_neg (by omega)];simp only[signless];rw[if_neg (by omega)];exact⟨_,rfl,by rw[decide_eq_true (by simp),decide_eq_true (by omega)],fun _=>by simp[CZ];omega⟩
  |d::e::q,hr=>
   rcases cH (d::e::q) (c.toNat - 48) hr with h | ⟨u,h,hu⟩
   ·left
    rw[h];exact⟨rfl,by rw[decide_eq_false (by simp)]⟩
   ·rw[h]
    simp only[signless];have h5:100<=u:=by
     refine lT_ ?_ hu;have h6:10 ^2<=10 ^(d::e::q).length:=Nat.pow_le_pow_right (by omega) (by simp)
     calc 100=1*10 ^2:=by decide
      _<=(c.toNat - 48)*10 ^(d::e::q).length:=Nat.mul_le_mul (by omega) h6
    by_cases h7:9223372036854775808<=u
    ·rw[if_pos h7]
     exact .inl ⟨rfl,by rw[decide_eq_false (by simp)]⟩
    ·rw[if_neg h7]
     exact .inr ⟨_,rfl,by rw[decide_eq_false (by simp),decide_eq_false (by omega)],fun h=>by simp at h⟩
end
theorem C0 {a b:Bool} (h:a=b):Ending.returned (.bool b)=.returned (.bool a):=by rw[h]
theorem LN (s:ByteArray) (lo hi:Int) (w:World) (hs:s.size<=9223372036854775807):
  Calls Tryz.prog 225 #[.string s,.int .u8 lo,.int .u8 hi] w fun e w'=>e=.returned (.bool (DK s.data.toList lo hi&& !s.toList.isEmpty))/\w=w':=by
 go_enter Tryz.func225,Tryz.ntmps225
 go_wp2
 go_loop [10] (fun i=>∃k:Nat,k<=s.size/\i=ab k/\Hid (DK (s.data.toList.take k) lo hi=true)) (fun i=>s.size - (intOf i).toNat)
 case atStart=>exact⟨0,Nat.zero_le _,rfl,by show _=_;simp[DK]⟩
 case round=>
  obtain⟨k,hk,rfl,hall⟩:=hrel
  by_cases hlt:k<s.size
  ·go_wp2
   ·go_ret
    exact⟨C0 (by rw[UQ hlt (by assumption)];rfl),rfl⟩
   ·go_round
    case rel=>exact⟨k+1,by omega,by go_num,kC hlt hall.out (by assumption)⟩
    case measure=>simp[intOf];omega
   ·go_ret
    exact⟨C0 (by rw[UQ hlt (.inl (by assumption))];rfl),rfl⟩
  ·go_wp2
   go_ret;exact⟨C0 (by rw[jZ hlt hall.out];rfl),rfl⟩
structure DM (w:World):Prop where
 size:9<=w.heap.size
 max:∃m,w.cell? (af 2 0)=some (ab m)
 rng:∃te pe,w.cell? (af 4 0)=some (.iface te pe)
 shapes:∃t fr,w.heap[0]?=some (.cells #[.string ⟨#[116,111,107,101,110]⟩,ab 1,ab 3,ab 3,.string ⟨#[115,119,97,112]⟩,ab 1,ab 1,ab 3,.string ⟨#[114,117,108,101]⟩,ab 2,ab 4,ab 5] t fr)
theorem DM.below  (h:DM w)  (hb:Below B w w') (hB:9<=B):DM w' where
 size:=lT_ h.size hb.size
 max:=by obtain⟨m,hm⟩:=h.max;exact⟨m,(hb.cell (show 2<B by omega)).trans hm⟩
 rng:=by obtain⟨te,pe,hm⟩:=h.rng;exact⟨te,pe,(hb.cell (show 4<B by omega)).trans hm⟩
 shapes:=by obtain⟨t,fr,hm⟩:=h.shapes;exact⟨t,fr,(hb.block 0 (by omega)).trans hm⟩
theorem rP {s:ByteArray} (h:(DK s.data.toList 48 57&& !s.toList.isEmpty)=false):DL s=false:=by
 have hlen:s.data.toList.length=s.size:=by simp
 have e1:s.toList=s.data.toList:=ByteArray.toList_eq s;unfold DL L4 J6;rw[e1]at h;cases ha:DK s.data.toList 48 57
 ·simp
 ·rw[ha]at h
  have:s.data.toList=[]:=by simpa using h
  rw[this];rfl
theorem NX (s:ByteArray) (w:World) (hG:DM w) (hs:s.size<=4000):
  Calls Tryz.prog 200 #[.string s] w fun e w'=>(∃n,e=.returned (.tuple #[ab n,.bool (DL s)])/\(DL s=true->n=CZ s.data.toList))/\Below w.heap.size w w':=by
 have HG:Hid (DM w):=hid hG;clear hG;cases h1:(DK s.data.toList 48 57&& !s.toList.isEmpty)
 ·rw[rP h1]
  go_enter Tryz.func200,Tryz.ntmps200
  go_wp2_with (go_at_call 225;refine(LN _ _ _ _ (by omega)).mono ?_;rintro e w' ⟨rfl,rfl⟩;rw[h1])
  go_ret2
  exact⟨⟨_,rfl,fun h=>by cases h⟩,Below.refl _ _⟩
 ·have hpos:0<s.size:=by
   rcases Nat.eq_zero_or_pos s.size with h |h
   ·exfalso
    have:s.data.toList=[]:=List.eq_nil_of_length_eq_zero y20Z;rw[ByteArray.toList_eq s,this]at h1;simp at h1
   ·exact h
  have hall:DK s.data.toList 48 57=true:=by simp only[Bool.and_eq_true]at h1;exact h1.1
  have hhd:s.data.toList.head?=some s[0]:=by
   rw[List.head?_eq_getElem?,gE (by simpa using hpos)];rfl
  cases h2:((s[0].toNat:Int)==48)
  ·have hne:s.data.toList.head?≠some 48:=by
    rw[hhd];intro e;injection e with e
    rw[e]at h2;exact absurd h2 (by decide)
   have hnil:s.data.toList≠ []:=by
    intro e;rw[e]at hhd;cases hhd
   rcases o9 s.data.toList hall hnil hne with⟨ha,hc⟩ | ⟨v,ha,hc,hval⟩
   ·obtain⟨te,pe,hv⟩:=HG.out.rng
    have hn:DL s=false:=hc;rw[hn];have cA:=fun W hW=>Tryz.strconv_Atoi_range s (by omega) ha (.iface te pe) W hW (.inr ⟨te,pe,rfl⟩)
    have CA:=hid cA;clear cA ha hc hn hall hhd hne hnil
    go_enter Tryz.func200,Tryz.ntmps200
    go_wp2_with (first
     | (go_at_call 225;refine(LN _ _ _ _ (by omega)).mono ?_;rintro e w' ⟨rfl,rfl⟩;rw[h1])
     | (go_at_call 226;refine(CA.out _ hv).mono ?_;rintro e w1 ⟨N,rfl,_,_,hb⟩))
    go_ret2
    exact⟨⟨_,rfl,fun h=>by cases h⟩,hb⟩
   ·have hn:DL s=decide (v<=99):=hc
    have HVal:Hid (decide (v<=99)=true->v=CZ s.data.toList):=hid (fun h=>hval (hc.trans h));rw[hn];have cA:=fun W=>Tryz.strconv_Atoi_ok s (by omega) v ha W
    have CA:=hid cA;have hvb:=Lib.atoiAll_bounds ha;clear cA ha hc hn hall hhd hne hnil hval
    go_enter Tryz.func200,Tryz.ntmps200
    go_wp2_with (first
     | (go_at_call 225;refine(LN _ _ _ _ (by omega)).mono ?_;rintro e w' ⟨rfl,rfl⟩;rw[h1])
     | (go_at_call 226;refine(CA.out _).mono ?_;rintro e w1 ⟨rfl,hb⟩))
    go_ret2
    refine⟨⟨_,rfl,HVal.out⟩,?_⟩
    rcases hb with hb | ⟨t,hb⟩
    ·rw[hb];exact Below.refl _ _
    ·rw[hb];exact Lib.bytesWorld_below _ _ _
  ·have hn:DL s=false:=by
    unfold DL L4;have:(s.data.toList.head?==some 48)=true:=by
     rw[hhd,beq_iff_eq,Option.some.injEq,<-UInt8.toNat_inj];rw[beq_iff_eq]at h2;show s[0].toNat=48;omega
    rw[this];simp
   rw[hn];clear hhd hn
   go_enter Tryz.func200,Tryz.ntmps200
   go_wp2_with (go_at_call 225;refine(LN _ _ _ _ (by omega)).mono ?_;rintro e w' ⟨rfl,rfl⟩;rw[h1])
   go_ret2
   exact⟨⟨_,rfl,fun h=>by cases h⟩,Below.refl _ _⟩
section
structure A1 (w w':World) (S:List Nat):Prop where
 os:w'.os=w.os
 tape:w'.tape=w.tape
 output:w'.output=w.output
 size:w.heap.size<=w'.heap.size
 block:∀k,k<w.heap.size->k∉S->w'.heap[k]?=w.heap[k]?
theorem A1.refl (w:World) (S:List Nat):A1 w w S:=⟨rfl,rfl,rfl,lR_ _,fun _ _ _=>rfl⟩
theorem A1.trans {b c:World} (h:A1 a b S) (k:A1 b c S):A1 a c S:=
 ⟨k.os.trans h.os,k.tape.trans h.tape,k.output.trans h.output,lT_ h.size k.size,fun i hi hn=>(k.block i (lL hi h.size) hn).trans (h.block i hi hn)⟩
theorem A1.mono {T:List Nat} (h:A1 w w' S) (hs:∀k,k∈S->k∈T):A1 w w' T:=⟨h.os,h.tape,h.output,h.size,fun k hk hn=>h.block k hk fun hm=>hn (hs k hm)⟩
theorem A1.drew  (h:A1 a w S):A1 a w.drew S:=⟨h.os,h.tape,h.output,h.size,h.block⟩
theorem A1.alloc  (h:A1 a w S) (o:Obj):A1 a (w.alloc o) S:=
 h.trans ⟨rfl,rfl,rfl,by simp,fun k hk _=>Below.heap_alloc _ _ _ hk⟩
theorem A1.setCell  (h:A1 a w S) {p:Addr} (hp:p.block∈S) (u:Value):A1 a (w.setCell p u) S:=
 h.trans ⟨rfl,rfl,rfl,by simp[World.setCell],fun k _ hn=>Below.heap_setCell _ _ _ _ (fun e=>hn (e▸hp))⟩
theorem A1.grown {row:Option Nat} (h:A1 a w S) (hg:w.grownBy w' row) (hr:∀k,row=some k->k∈S\/a.heap.size<=k):A1 a w' S:=
 ⟨hg.os.trans h.os,hg.tape.trans h.tape,hg.output.trans h.output,lT_ h.size hg.size,fun k hk hn=>by
  rw[hg.block k (lL hk h.size) (fun e=>by rcases hr k e.symm with h1 |h1;exact hn h1;omega)];exact h.block k hk hn⟩
theorem A1.below  (h:A1 w w' S) (hB:B<=w.heap.size) (hs:∀k,k∈S->B<=k):Below B w w':=
 ⟨h.os,h.tape,h.output,h.size,fun k hk=>h.block k (by omega) (fun hm=>by have:=hs k hm;omega)⟩
theorem A1.of_below  (h:Below w.heap.size w w') (S:List Nat):A1 w w' S:=⟨h.os,h.tape,h.output,h.size,fun k hk _=>h.block k hk⟩
theorem A1.cell  (h:A1 w w' S) {p:Addr} (hp:p.block<w.heap.size) (hn:p.block∉S):w'.cell? p=w.cell? p:=World.cell?_of_block (w:=w) (h.block p.block hp hn)
section
variable {w w':World}{S:List Nat}{B e sz n:Nat}{v:Value}{xs:List Value}
theorem BJ (h:w.ownsRow B e sz v n xs)  (hg:v.ownBlock=some g):∃c,w.heap[g]?=some (.cells c e (0,0)):=by
 rcases h.2 with⟨rfl,_⟩ | ⟨g',cap,cur,rfl,_,hh,_⟩
 ·simp[Value.ownBlock]at hg
 ·simp[Value.ownBlock]at hg;subst hg;exact⟨cur,hh⟩
theorem CY (h:w.ownsRow B e sz v n xs)  (hg:v.ownBlock=some g):g<w.heap.size:=(h.lt g hg).2
theorem A7 (h:w.ownsRow B e sz v n xs) (hk:A1 w w' S) (hn:∀g,v.ownBlock=some g->g∉S):w'.ownsRow B e sz v n xs:=by
 obtain⟨h1,h2⟩:=h;refine⟨h1,?_⟩
 rcases h2 with h2 | ⟨g,cap,cur,hv,hg,hh,r⟩
 ·exact .inl h2
 ·subst hv
  exact .inr ⟨g,cap,cur,rfl,hg,by rw[hk.block g (lt_of_block hh) (hn g rfl)];exact hh,r⟩
theorem GH {B' e' sz' n':Nat}{v':Value}{xs':List Value} (h:w.ownsRow B e sz v n xs) (h':w.ownsRow B' e' sz' v' n' xs') (hne:e≠e')  (hg:v.ownBlock=some g):v'.ownBlock≠some g:=by
 intro hg';obtain⟨c,hc⟩:=BJ h hg;obtain⟨c',hc'⟩:=BJ h' hg';rw[hc]at hc';injection hc' with hc'
 injection hc' with _ he
 exact hne he
theorem A6 (h:w.ownsRow B e sz v n xs)  (hb:w.heap[b]?=some (.cells cs t fr)) (hne:e≠t):v.ownBlock≠some b:=by
 intro hg;obtain⟨c,hc⟩:=BJ h hg;rw[hc]at hb;injection hb with hb
 injection hb with _ he
 exact hne he
theorem A5  (hb:w.heap[b]?=some (.cells cs t fr)) (u:Value):(w.setCell (af b j) u).heap[b]?=some (.cells (cs.setIfInBounds j u) t fr):=by
 have hlt:=lt_of_block hb;have h':w.heap[b]=.cells cs t fr:=by simpa[Array.getElem?_eq_getElem hlt] using hb
 show(w.heap.modify b _)[b]?=_;rw[Array.getElem?_eq_getElem (by simpa using hlt),Array.getElem_modify_self,h'];rfl
theorem A0  (hb:w.heap[b]?=some (.cells cs t fr)):w.cell? (af b j)=cs[j]?:=by simp[World.cell?,hb]
theorem A3  (hb:w.heap[b]?=some (.cells cs t (0,0))):w.frozen? (af b j)=false:=by simp[World.frozen?,hb]
end
end
theorem Mz6 {P:Prop} (h:P:=by
  rw[ByteArray.toList_eq,hlen];cases h:s.data.toList with
  |nil=>rw[h]at hlen;rw[decide_eq_false (p:=1<=s.size) (by simp at hlen;omega)];simp
  |cons a r=>rw[h]at hlen;rw[decide_eq_true (p:=1<=s.size) (by simp at hlen;omega)];simp):P:=h
theorem fG (s:ByteArray):DW s=(decide ((s.size:Int)<=8)&&(DK s.data.toList 97 122&& !s.toList.isEmpty)):=by
 have hlen:s.data.toList.length=s.size:=by simp
 unfold DW J6;exact Mz6
theorem bB (s:ByteArray):GO s=(decide ((s.size:Int)<=8)&&(DK s.data.toList 65 90&& !s.toList.isEmpty)):=by
 have hlen:s.data.toList.length=s.size:=by simp
 unfold GO J6;exact Mz6
theorem YE (s:ByteArray) (w:World) (hs:s.size<=4000):
  Calls Tryz.prog 231 #[ab 1,.string s] w fun e w'=>e=.returned (.bool (DW s))/\w=w':=by
 by_cases h8:s.size<=8
 ·rw[fG,decide_eq_true (by omega),Bool.true_and]
  go_enter Tryz.func231,Tryz.ntmps231
  go_wp2_with (go_at_call 225;refine(LN _ _ _ _ (by omega)).mono ?_;rintro e w' ⟨rfl,rfl⟩)
  go_ret;exact⟨rfl,rfl⟩
 ·rw[fG,decide_eq_false (by omega),Bool.false_and]
  go_enter Tryz.func231,Tryz.ntmps231
  go_wp2;go_ret;exact⟨rfl,rfl⟩
theorem XO (s:ByteArray) (w:World) (hs:s.size<=4000):
  Calls Tryz.prog 231 #[ab 2,.string s] w fun e w'=>e=.returned (.bool (GO s))/\w=w':=by
 by_cases h8:s.size<=8
 ·rw[bB,decide_eq_true (by omega),Bool.true_and]
  go_enter Tryz.func231,Tryz.ntmps231
  go_wp2_with (go_at_call 225;refine(LN _ _ _ _ (by omega)).mono ?_;rintro e w' ⟨rfl,rfl⟩)
  go_ret;exact⟨rfl,rfl⟩
 ·rw[bB,decide_eq_false (by omega),Bool.false_and]
  go_enter Tryz.func231,Tryz.ntmps231
  go_wp2;go_ret;exact⟨rfl,rfl⟩
theorem jL (s:ByteArray) (w:World) (hG:DM w) (hs:s.size<=4000):
  Calls Tryz.prog 231 #[ab 3,.string s] w fun e w'=>e=.returned (.bool (DL s))/\Below w.heap.size w w':=by
 have HG:Hid (DM w):=hid hG;clear hG
 go_enter Tryz.func231,Tryz.ntmps231
 go_wp2_with (go_at_call 200;refine(NX _ _ HG.out hs).mono ?_;rintro e w1 ⟨⟨n,rfl,_⟩,hb⟩)
 go_ret;exact⟨rfl,hb⟩
theorem j5 (s:ByteArray) (w:World):
  Calls Tryz.prog 231 #[ab 4,.string s] w fun e w'=>e=.returned (.bool (s.toList== [61]))/\w=w':=by
 go_enter Tryz.func231,Tryz.ntmps231
 go_wp2;go_ret;exact⟨rfl,rfl⟩
def F3 (l:List ByteArray) (j:Nat):Bool:=(l.drop j).all NE
theorem pT {p:ByteArray->Bool} (hj:j<l.length):(l.drop j).all p=(p (nth l j)&&(l.drop (j+1)).all p):=by
 rw[List.drop_eq_getElem_cons hj,List.all_cons];unfold nth;rw[gD_,gE hj];rfl
theorem cK (l:List ByteArray) (ad:Option Addr) (g j n cap:Nat) (w:World) (hl:l.length=j+n) (hn:l.length<=4001) (hs:∀i,(nth l i).size<=4000) (hc:DP w g 0 l) (had:0<n->ad=some (af g j)):
  Calls Tryz.prog 230 #[.slice ad n cap] w fun e w'=>e=.returned (.bool (F3 l j))/\w=w':=by
 have HC:Hid (DP w g 0 l):=hid hc;have HL:Hid (l.length=j+n):=hid hl;have hn2:n<=4001:=by omega
 rcases Nat.eq_zero_or_pos n with h0 |h0
 ·have HE:Hid (F3 l j=true):=hid (by unfold F3;rw[List.drop_eq_nil_of_le (by omega)];rfl)
  subst h0;clear hc hl had
  go_enter Tryz.func230,Tryz.ntmps230
  go_wp2;refine wp_loop_rounds 1 ?_;rw[rounds_succ];go_wp2;go_ret;exact⟨C0 HE.out,rfl⟩
 ·have e:=had h0
  subst e;clear hc hl had
  go_enter Tryz.func230,Tryz.ntmps230
  go_wp2
  go_loop [7] (fun i=>∃k:Nat,k<=n/\i=ab k/\Hid (F3 l j=F3 l (j+k))) (fun i=>n - (intOf i).toNat)
  case atStart=>exact⟨0,Nat.zero_le _,rfl,rfl⟩
  case round=>
   obtain⟨k,hk,rfl,hall⟩:=hrel
   by_cases hlt:k<n
   ·have ck:w.cell? (af g (j+k))=some (.string (nth l (j+k))):=by simpa using HC.out.2 (j+k) y28Z
    have hsk:=hs (j+k);have HP:Hid (F3 l j=(NE (nth l (j+k))&&F3 l (j+k+1))):=hid (by rw[hall.out];unfold F3;exact pT y28Z);obtain⟨x,hx⟩:=qF (nth l (j+k));rw[<-hx]at ck hsk HP;clear hx hall hs;cases hp:(x.toList== [124]) <;> cases hp2:DW x <;> cases hp3:GO x
    all_goals
     go_wp2_with (first | (go_at_call_of 231 (Value.int .i64 1);refine(YE _ _ hsk).mono ?_;rintro e w' ⟨rfl,rfl⟩;rw[hp2]) | (go_at_call_of 231 (Value.int .i64 2);refine(XO _ _ hsk).mono ?_;rintro e w' ⟨rfl,rfl⟩;rw[hp3]))
    ·go_ret
     exact⟨C0 (by rw[HP.out];unfold NE I8;rw[hp,hp2,hp3];rfl),rfl⟩
    all_goals
     go_round
     case rel=>exact⟨k+1,by omega,by go_num,by rw[HP.out];unfold NE I8;rw[hp,hp2,hp3];rfl⟩
     case measure=>simp[intOf];omega
   ·have HE:Hid (F3 l j=true):=hid (by rw[hall.out];unfold F3;rw[List.drop_eq_nil_of_le y28Z];rfl)
    go_wp2;go_ret;exact⟨C0 HE.out,rfl⟩
section
structure Gr where
 toks:List (ByteArray × Int × Int)
 swps:List (ByteArray × ByteArray × Int)
 names:List ByteArray
 rules:List (ByteArray × List ByteArray)
section
variable {w:World}{B gb:Nat}{G:Gr}{vT vS vN vR:Value}{pv:List Value}
end
theorem Mz5 {P:Prop} (h:P:=by
  intro l
  induction l with
  |nil=>intro i a j h;simp at h
  |cons x r ih=>
   intro i a j h hj;rw[List.flatMap_cons]
   match i with
   |0=>
    simp at h;subst h;rw[aL y75Z]
    congr 1;omega
   |i+1=>
    simp at h;rw[aR_ y75Z,hf];rw[<-ih i a j h hj]
    congr 1;omega):P:=h
theorem wN {α:Type} (f:α->List Value) (hf:∀a,(f a).length=3):∀(l:List α) (i:Nat) (a:α) (j:Nat),l[i]?=some a->j<3->(l.flatMap f)[i*3+j]?=(f a)[j]?:=by
 exact Mz5
theorem S9 {α:Type} (f:α->List Value) (hf:∀a,(f a).length=2):∀(l:List α) (i:Nat) (a:α) (j:Nat),l[i]?=some a->j<2->(l.flatMap f)[i*2+j]?=(f a)[j]?:=by
 exact Mz5
def D6 (l:List (ByteArray × Int × Int)) (w:ByteArray):Bool:=l.any fun t=>t.1.toList==w.toList
def CQ (l:List ByteArray) (w:ByteArray):Bool:=l.any fun t=>t.toList==w.toList
def qO (G:Gr) (x:ByteArray):Bool:= !I8 x&&(!D6 G.toks x&& !CQ G.names x)
def FO (G:Gr) (l:List ByteArray):Bool:=
 if(nth l 0).toList== [115,119,97,112]then(!D6 G.toks (nth l 1)||(!D6 G.toks (nth l 2)||((nth l 1).toList==(nth l 2).toList)))
 else if(nth l 0).toList== [114,117,108,101]then(l.drop 3).any (qO G)else false
theorem F4 {p:Nat->Prop}{k:Nat} (h:∀j,j<k->p j) (hk:p k):∀j,j<k+1->p j:=by
 intro j hj
 by_cases e:j=k
 ·subst e;exact hk
 ·exact h j (by omega)
end
def EH (k:Int) (s:ByteArray):Bool:=if k=1 then DW s else if k=2 then GO s else if k=3 then DL s else s.toList== [61]
theorem FE (k:Int) (s:ByteArray) (w:World) (hk:k=1\/k=2\/k=3\/k=4) (hG:DM w) (hs:s.size<=4000):
  Calls Tryz.prog 231 #[ab k,.string s] w fun e w'=>e=.returned (.bool (EH k s))/\Below w.heap.size w w':=by
 rcases hk with rfl |rfl |rfl |rfl
 ·exact(YE s w hs).mono fun e w' h=>⟨h.1,by rw[<-h.2];exact Below.refl _ _⟩
 ·exact(XO s w hs).mono fun e w' h=>⟨h.1,by rw[<-h.2];exact Below.refl _ _⟩
 ·exact jL s w hG hs
 ·exact(j5 s w).mono fun e w' h=>⟨h.1,by rw[<-h.2];exact Below.refl _ _⟩
theorem TU  (hi:i<3) (h:EH (if i=0 then 1 else 3) (nth l (1+i))=false):D9 l=false:=by
 have h':i=0\/i=1\/i=2:=by omega
 unfold D9
 rcases h' with rfl |rfl |rfl
 ·have h2:DW (nth l 1)=false:=h
  rw[h2];simp
 ·have h2:DL (nth l 2)=false:=h
  rw[h2];simp
 ·have h2:DL (nth l 3)=false:=h
  rw[h2];simp
theorem uO  (h:∀i,i<3->EH (if i=0 then 1 else 3) (nth l (1+i))=true):D9 l=decide (l.length=4):=by
 unfold D9;have h1:DW (nth l 1)=true:=h 0 (by omega);have h2:DL (nth l 2)=true:=h 1 (by omega);have h3:DL (nth l 3)=true:=h 2 (by omega);rw[h1,h2,h3];simp
theorem Mz1 {P:Prop} (h:P:=by
  go_wp2_with (go_at_call 231;refine(FE _ _ _ (by omega) HGr.out hsk).mono ?_;rintro e w1 ⟨rfl,hb⟩;rw[hkb])
  go_ret;exact⟨C0 HF.out,hbr.out.trans (hb.mono hbr.out.size)⟩):P:=h
theorem Mz2 {P:Prop} (h:P:=by
  go_wp2_with (go_at_call 231;refine(FE _ _ _ (by omega) HGr.out hsk).mono ?_;rintro e w1 ⟨rfl,hb⟩;rw[hkb])
  go_roundw
  case rel=>exact⟨0+1,m - 1,cap' - 1,_,by omega,by omega,by omega,by omega,by go_num,rfl,hid (by have:=hmk.out;omega),hid (fun h=>by rw[if_neg (by omega)]),HP,hid (hbr.out.trans (hb.mono hbr.out.size))⟩
  case measure=>simp[intOf]):P:=h
theorem Mz3 {P:Prop} (h:P:=by
  go_wp2_with (go_at_call 231;refine(FE _ _ _ (by omega) HGr.out hsk).mono ?_;rintro e w1 ⟨rfl,hb⟩;rw[hkb])
  go_roundw
  case rel=>exact⟨1+1,m - 1,cap' - 1,_,by omega,by omega,by omega,by omega,by go_num,rfl,hid (by have:=hmk.out;omega),hid (fun h=>by rw[if_neg (by omega)]),HP,hid (hbr.out.trans (hb.mono hbr.out.size))⟩
  case measure=>simp[intOf]):P:=h
theorem Mz4 {P:Prop} (h:P:=by
  go_wp2_with (go_at_call 231;refine(FE _ _ _ (by omega) HGr.out hsk).mono ?_;rintro e w1 ⟨rfl,hb⟩;rw[hkb])
  go_roundw
  case rel=>exact⟨2+1,m - 1,cap' - 1,_,by omega,by omega,by omega,by omega,by go_num,rfl,hid (by have:=hmk.out;omega),hid (fun h=>by rw[if_neg (by omega)]),HP,hid (hbr.out.trans (hb.mono hbr.out.size))⟩
  case measure=>simp[intOf]):P:=h
theorem rS (l:List ByteArray) (ad:Option Addr) (g n cap:Nat) (x:ByteArray) (w:World) (hG:DM w) (hl:l.length=1+n) (hn:n<=4000) (hnc:n<=cap) (hcap:cap<=9223372036854775807) (hs:∀i,(nth l i).size<=4000) (hc:DP w g 0 l) (had:0<n->ad=some (af g 1)):
  Calls Tryz.prog 209 #[.agg #[.string x,ab 1,ab 3,ab 3],.slice ad n cap] w fun e w'=>e=.returned (.bool (D9 l))/\Below w.heap.size w w':=by
 go_enter Tryz.func209,Tryz.ntmps209
 go_wp2;have i0:∀w,(Instr.index 337 (.agg #[ab 1,ab 3,ab 3]) (ab 0)).run Tryz.prog w=.ok (ab 1) w:=fun _=>by kernel_rfl
 have i1:∀w,(Instr.index 337 (.agg #[ab 1,ab 3,ab 3]) (ab 1)).run Tryz.prog w=.ok (ab 3) w:=fun _=>by kernel_rfl
 have i2:∀w,(Instr.index 337 (.agg #[ab 1,ab 3,ab 3]) (ab 2)).run Tryz.prog w=.ok (ab 3) w:=fun _=>by kernel_rfl
 have hb0:Below w.heap.size w (w.alloc (.cells #[.string x,ab 1,ab 3,ab 3] 339)):=(Below.refl _ _).alloc (lR_ _) _;have HB0:=hid hb0;have HC:Hid (DP w g 0 l):=hid hc;have HG:Hid (DM w):=hid hG;have HL:Hid (l.length=1+n):=hid hl;clear hc hG hl hb0
 go_loopw [1,9] (fun v c wr=>∃(k m cap':Nat) (ad':Option Addr),k<=3/\m<=cap'/\m<=4000/\cap'<=9223372036854775807/\c=ab k/\v=.slice ad' m cap'/\Hid (m+k=n)/\Hid (0<m->ad'=some (af g (1+k)))/\
   Hid (∀i,i<k->EH (if i=0 then 1 else 3) (nth l (1+i))=true)/\Hid (Below w.heap.size w wr)) (fun _ c _=>3 - (intOf c).toNat)
 case atStart=>exact⟨0,n,cap,ad,by omega,by omega,by omega,by omega,rfl,rfl,rfl,had,fun i h=>by omega,HB0⟩
 case round=>
  clear had HB0;obtain⟨k,m,cap',ad',hk3,hmc,hm4,hc6,rfl,rfl,hmk,had,hpre,hbr⟩:=hrel;have hGr:=HG.out.below hbr.out HG.out.size;have HGr:Hid (DM wr):=hid hGr;have HCr:Hid (DP wr g 0 l):=hid (HC.out.later hbr.out);clear hGr
  by_cases hk:k=3
  ·subst hk
   have HF:Hid (D9 l=decide (l.length=4)):=hid (uO hpre.out);go_wp2;go_ret;refine⟨C0 ?_,hbr.out⟩;rw[HF.out,Bool.eq_iff_iff];simp only[decide_eq_true_eq,beq_iff_eq];have:=HL.out;have:=hmk.out;omega
  ·by_cases hm:m=0
   ·have hf:D9 l=false:=by
     unfold D9;rw[decide_eq_false y16Z];rfl
    have HF:Hid (D9 l=false):=hid hf;clear hf;have hk':k=0\/k=1\/k=2:=by omega
    subst hm;clear hk
    rcases hk' with rfl |rfl |rfl
    all_goals
     go_wp2;go_ret;exact⟨C0 HF.out,hbr.out⟩
   ·have had2:=had.out (by omega)
    have hk':k=0\/k=1\/k=2:=by omega
    have ck:wr.cell? (af g (1+k))=some (.string (nth l (1+k))):=by simpa using HCr.out.2 (1+k) y16Z
    have hsk:=hs (1+k);subst had2;clear hk hs
    rcases hk' with rfl |rfl |rfl
    ·cases hkb:EH 1 (nth l (1+0))
     ·have HF:Hid (D9 l=false):=hid (TU (i:=0) (by omega) hkb)
      exact Mz1
     ·have HP:Hid (∀i,i<0+1->EH (if i=0 then 1 else 3) (nth l (1+i))=true):=hid (F4 hpre.out hkb)
      exact Mz2
    ·cases hkb:EH 3 (nth l (1+1))
     ·have HF:Hid (D9 l=false):=hid (TU (i:=1) (by omega) hkb)
      exact Mz1
     ·have HP:Hid (∀i,i<1+1->EH (if i=0 then 1 else 3) (nth l (1+i))=true):=hid (F4 hpre.out hkb)
      exact Mz3
    ·cases hkb:EH 3 (nth l (1+2))
     ·have HF:Hid (D9 l=false):=hid (TU (i:=2) (by omega) hkb)
      exact Mz1
     ·have HP:Hid (∀i,i<2+1->EH (if i=0 then 1 else 3) (nth l (1+i))=true):=hid (F4 hpre.out hkb)
      exact Mz4
theorem U3  (hi:i<3) (h:EH (if i=2 then 3 else 1) (nth l (1+i))=false):BT l=false:=by
 have h':i=0\/i=1\/i=2:=by omega
 unfold BT
 rcases h' with rfl |rfl |rfl
 ·have h2:DW (nth l 1)=false:=h
  rw[h2];simp
 ·have h2:DW (nth l 2)=false:=h
  rw[h2];simp
 ·have h2:DL (nth l 3)=false:=h
  rw[h2];simp
theorem tF  (h:∀i,i<3->EH (if i=2 then 3 else 1) (nth l (1+i))=true):BT l=decide (l.length=4):=by
 unfold BT;have h1:DW (nth l 1)=true:=h 0 (by omega);have h2:DW (nth l 2)=true:=h 1 (by omega);have h3:DL (nth l 3)=true:=h 2 (by omega);rw[h1,h2,h3];simp
theorem mR (l:List ByteArray) (ad:Option Addr) (g n cap:Nat) (x:ByteArray) (w:World) (hG:DM w) (hl:l.length=1+n) (hn:n<=4000) (hnc:n<=cap) (hcap:cap<=9223372036854775807) (hs:∀i,(nth l i).size<=4000) (hc:DP w g 0 l) (had:0<n->ad=some (af g 1)):
  Calls Tryz.prog 209 #[.agg #[.string x,ab 1,ab 1,ab 3],.slice ad n cap] w fun e w'=>e=.returned (.bool (BT l))/\Below w.heap.size w w':=by
 go_enter Tryz.func209,Tryz.ntmps209
 go_wp2;have i0:∀w,(Instr.index 337 (.agg #[ab 1,ab 1,ab 3]) (ab 0)).run Tryz.prog w=.ok (ab 1) w:=fun _=>by kernel_rfl
 have i1:∀w,(Instr.index 337 (.agg #[ab 1,ab 1,ab 3]) (ab 1)).run Tryz.prog w=.ok (ab 1) w:=fun _=>by kernel_rfl
 have i2:∀w,(Instr.index 337 (.agg #[ab 1,ab 1,ab 3]) (ab 2)).run Tryz.prog w=.ok (ab 3) w:=fun _=>by kernel_rfl
 have hb0:Below w.heap.size w (w.alloc (.cells #[.string x,ab 1,ab 1,ab 3] 339)):=(Below.refl _ _).alloc (lR_ _) _;have HB0:=hid hb0;have HC:Hid (DP w g 0 l):=hid hc;have HG:Hid (DM w):=hid hG;have HL:Hid (l.length=1+n):=hid hl;clear hc hG hl hb0
 go_loopw [1,9] (fun v c wr=>∃(k m cap':Nat) (ad':Option Addr),k<=3/\m<=cap'/\m<=4000/\cap'<=9223372036854775807/\c=ab k/\v=.slice ad' m cap'/\Hid (m+k=n)/\Hid (0<m->ad'=some (af g (1+k)))/\
   Hid (∀i,i<k->EH (if i=2 then 3 else 1) (nth l (1+i))=true)/\Hid (Below w.heap.size w wr)) (fun _ c _=>3 - (intOf c).toNat)
 case atStart=>exact⟨0,n,cap,ad,by omega,by omega,by omega,by omega,rfl,rfl,rfl,had,fun i h=>by omega,HB0⟩
 case round=>
  clear had HB0;obtain⟨k,m,cap',ad',hk3,hmc,hm4,hc6,rfl,rfl,hmk,had,hpre,hbr⟩:=hrel;have hGr:=HG.out.below hbr.out HG.out.size;have HGr:Hid (DM wr):=hid hGr;have HCr:Hid (DP wr g 0 l):=hid (HC.out.later hbr.out);clear hGr
  by_cases hk:k=3
  ·subst hk
   have HF:Hid (BT l=decide (l.length=4)):=hid (tF hpre.out);go_wp2;go_ret;refine⟨C0 ?_,hbr.out⟩;rw[HF.out,Bool.eq_iff_iff];simp only[decide_eq_true_eq,beq_iff_eq];have:=HL.out;have:=hmk.out;omega
  ·by_cases hm:m=0
   ·have hf:BT l=false:=by
     unfold BT;rw[decide_eq_false y16Z];rfl
    have HF:Hid (BT l=false):=hid hf;clear hf;have hk':k=0\/k=1\/k=2:=by omega
    subst hm;clear hk
    rcases hk' with rfl |rfl |rfl
    all_goals
     go_wp2;go_ret;exact⟨C0 HF.out,hbr.out⟩
   ·have had2:=had.out (by omega)
    have hk':k=0\/k=1\/k=2:=by omega
    have ck:wr.cell? (af g (1+k))=some (.string (nth l (1+k))):=by simpa using HCr.out.2 (1+k) y16Z
    have hsk:=hs (1+k);subst had2;clear hk hs
    rcases hk' with rfl |rfl |rfl
    ·cases hkb:EH 1 (nth l (1+0))
     ·have HF:Hid (BT l=false):=hid (U3 (i:=0) (by omega) hkb)
      exact Mz1
     ·have HP:Hid (∀i,i<0+1->EH (if i=2 then 3 else 1) (nth l (1+i))=true):=hid (F4 hpre.out hkb)
      exact Mz2
    ·cases hkb:EH 1 (nth l (1+1))
     ·have HF:Hid (BT l=false):=hid (U3 (i:=1) (by omega) hkb)
      exact Mz1
     ·have HP:Hid (∀i,i<1+1->EH (if i=2 then 3 else 1) (nth l (1+i))=true):=hid (F4 hpre.out hkb)
      exact Mz3
    ·cases hkb:EH 3 (nth l (1+2))
     ·have HF:Hid (BT l=false):=hid (U3 (i:=2) (by omega) hkb)
      exact Mz1
     ·have HP:Hid (∀i,i<2+1->EH (if i=2 then 3 else 1) (nth l (1+i))=true):=hid (F4 hpre.out hkb)
      exact Mz4
theorem XU  (hi:i<2) (h:EH (if i=0 then 2 else 4) (nth l (1+i))=false):D2 l=false:=by
 have h':i=0\/i=1:=by omega
 unfold D2 NI
 rcases h' with rfl |rfl
 ·have h2:GO (nth l 1)=false:=h
  rw[h2];simp
 ·have h2:((nth l 2).toList== [61])=false:=h
  rw[h2];simp
theorem pJ  (hl:3<=l.length) (h:∀i,i<2->EH (if i=0 then 2 else 4) (nth l (1+i))=true):D2 l=F3 l 3:=by
 unfold D2 NI F3;have h1:GO (nth l 1)=true:=h 0 (by omega);have h2:((nth l 2).toList== [61])=true:=h 1 (by omega);rw[h1,h2,decide_eq_true hl];simp
theorem kS (l:List ByteArray) (ad:Option Addr) (g n cap:Nat) (x:ByteArray) (w:World) (hG:DM w) (hl:l.length=1+n) (hn:n<=4000) (hnc:n<=cap) (hcap:cap<=9223372036854775807) (hs:∀i,(nth l i).size<=4000) (hc:DP w g 0 l) (had:0<n->ad=some (af g 1)):
  Calls Tryz.prog 209 #[.agg #[.string x,ab 2,ab 4,ab 5],.slice ad n cap] w fun e w'=>e=.returned (.bool (D2 l))/\Below w.heap.size w w':=by
 go_enter Tryz.func209,Tryz.ntmps209
 go_wp2;have i0:∀w,(Instr.index 337 (.agg #[ab 2,ab 4,ab 5]) (ab 0)).run Tryz.prog w=.ok (ab 2) w:=fun _=>by kernel_rfl
 have i1:∀w,(Instr.index 337 (.agg #[ab 2,ab 4,ab 5]) (ab 1)).run Tryz.prog w=.ok (ab 4) w:=fun _=>by kernel_rfl
 have i2:∀w,(Instr.index 337 (.agg #[ab 2,ab 4,ab 5]) (ab 2)).run Tryz.prog w=.ok (ab 5) w:=fun _=>by kernel_rfl
 have hb0:Below w.heap.size w (w.alloc (.cells #[.string x,ab 2,ab 4,ab 5] 339)):=(Below.refl _ _).alloc (lR_ _) _;have HB0:=hid hb0;have HC:Hid (DP w g 0 l):=hid hc;have HG:Hid (DM w):=hid hG;have HL:Hid (l.length=1+n):=hid hl;clear hc hG hl hb0
 go_loopw [1,9] (fun v c wr=>∃(k m cap':Nat) (ad':Option Addr),k<=2/\m<=cap'/\m<=4000/\cap'<=9223372036854775807/\c=ab k/\v=.slice ad' m cap'/\Hid (m+k=n)/\Hid (0<m->ad'=some (af g (1+k)))/\
   Hid (∀i,i<k->EH (if i=0 then 2 else 4) (nth l (1+i))=true)/\Hid (Below w.heap.size w wr)) (fun _ c _=>3 - (intOf c).toNat)
 case atStart=>exact⟨0,n,cap,ad,by omega,by omega,by omega,by omega,rfl,rfl,rfl,had,fun i h=>by omega,HB0⟩
 case round=>
  clear had HB0;obtain⟨k,m,cap',ad',hk3,hmc,hm4,hc6,rfl,rfl,hmk,had,hpre,hbr⟩:=hrel;have hGr:=HG.out.below hbr.out HG.out.size;have HGr:Hid (DM wr):=hid hGr;have HCr:Hid (DP wr g 0 l):=hid (HC.out.later hbr.out);clear hGr
  by_cases hk:k=2
  ·subst hk
   have HF:Hid (D2 l=F3 l 3):=hid (pJ y16Z hpre.out);have hsl:=hs;have hll:l.length<=4001:=by have:=HL.out;omega
   have hlm:l.length=3+m:=by have:=HL.out;have:=hmk.out;omega
   have HLM:Hid (l.length=3+m):=hid hlm;clear hlm hs
   go_wp2_with (go_at_call 230;refine(cK l _ g 3 m cap' _ HLM.out hll hsl HCr.out had.out).mono ?_;rintro e w1 ⟨rfl,rfl⟩)
   go_ret;exact⟨C0 HF.out,hbr.out⟩
  ·by_cases hm:m=0
   ·have hf:D2 l=false:=by
     unfold D2 NI;rw[decide_eq_false y16Z];rfl
    have HF:Hid (D2 l=false):=hid hf;clear hf;have hk':k=0\/k=1:=by omega
    subst hm;clear hk
    rcases hk' with rfl |rfl
    all_goals
     go_wp2;go_ret;exact⟨C0 HF.out,hbr.out⟩
   ·have had2:=had.out (by omega)
    have hk':k=0\/k=1:=by omega
    have ck:wr.cell? (af g (1+k))=some (.string (nth l (1+k))):=by simpa using HCr.out.2 (1+k) y16Z
    have hsk:=hs (1+k);subst had2;clear hk hs
    rcases hk' with rfl |rfl
    ·cases hkb:EH 2 (nth l (1+0))
     ·have HF:Hid (D2 l=false):=hid (XU (i:=0) (by omega) hkb)
      exact Mz1
     ·have HP:Hid (∀i,i<0+1->EH (if i=0 then 2 else 4) (nth l (1+i))=true):=hid (F4 hpre.out hkb)
      exact Mz2
    ·cases hkb:EH 4 (nth l (1+1))
     ·have HF:Hid (D2 l=false):=hid (XU (i:=1) (by omega) hkb)
      exact Mz1
     ·have HP:Hid (∀i,i<1+1->EH (if i=0 then 2 else 4) (nth l (1+i))=true):=hid (F4 hpre.out hkb)
      exact Mz3
section
section
variable {w w1:World}{B gb:Nat}{G:Gr}{vT vS vN vR:Value}{pv:List Value}{S:List Nat}
theorem BG {k:Nat} (h:k∈v.ownBlock.toList):v.ownBlock=some k:=by
 cases hv:v.ownBlock with
 |none=>rw[hv]at h;simp at h
 |some g=>rw[hv]at h;simp at h;rw[h]
theorem JJ {u:Value} (h:w.ownsRow B e sz v n xs) (hk:A1 w w1 S) (hn:∀g,v.ownBlock=some g->g∉S) (hgb:∀g,v.ownBlock=some g->gb≠g):
  (w1.setCell (af gb j) u).ownsRow B e sz v n xs:=
 ownsRow_setCell_other (A7 h hk hn) (fun hg=>hgb gb hg rfl) u
theorem C4 {u:Value} (h:w1.ownsRow B e sz v n xs) (hb:w1.heap[gb]?=some (.cells cs t fr)) (hne:e≠t):
  (w1.setCell (af gb j) u).ownsRow B e sz v n xs:=
 ownsRow_setCell_other h (A6 h hb hne) u
def QR (G:Gr) (bad:Bool):Int:=if 20<G.toks.length\/20<G.names.length\/60<G.rules.length then 4 else if bad then 4 else 0
theorem L7  (h:w.ownsRow B e sz v n xs):∀k,k∈v.ownBlock.toList->B<=k:=fun k hk=>(h.lt k (BG hk)).1
end
theorem BQ  (h:w.ownsRow B e sz v n xs):∃a c,v=.slice a n c:=by
 rcases h.2 with⟨rfl,rfl⟩ | ⟨g,cap,cur,rfl,_⟩
 ·exact⟨_,_,rfl⟩
 ·exact⟨_,_,rfl⟩
end
section
section
variable {w w1:World}{B gb rb g:Nat}{G:Gr}{l:List ByteArray}{nm:ByteArray}{R:List (ByteArray × List ByteArray)}{cur:List ByteArray}{vT vS vN vR:Value}{pv:List Value}{vP:Value}
end
def S6 (nm:ByteArray) (st:List (ByteArray × List ByteArray) × List ByteArray × Bool) (x:ByteArray):List (ByteArray × List ByteArray) × List ByteArray × Bool:=
 if I8 x then(st.1++ [(nm,st.2.1)],[],st.2.2)else(st.1,st.2.1++ [x],st.2.2||decide (8<st.2.1.length+1))
def rst (R:List (ByteArray × List ByteArray)) (nm:ByteArray) (l:List ByteArray):List (ByteArray × List ByteArray) × List ByteArray × Bool:=l.foldl (S6 nm) (R,[],false)
end
end Go.Proofs.YtjjggdcnpndgjaaGreatDoor
