import Derived.Lib.AtoiAllCases
import Derived.Lib.AtoiTie
import Derived.Test.YtjjggdcnpndgjaaGreatDoorHJ1
import Derived.Test.YtjjggdcnpndgjaaGreatDoorShelf
import Derived.Deep.RegionHeld3
import Derived.Deep.AppendLies
import Derived.OneCell
import Derived.Deep.RegionWith
set_option linter.unusedSimpArgs false
set_option maxHeartbeats 1000000
set_option maxRecDepth 100000
namespace Go.Proofs.YtjjggdcnpndgjaaGreatDoor
abbrev ah:=@Go.RowKit.Below.refl
abbrev ak:=@Go.lt_of_block
abbrev bu:=@Nat.zero_le
abbrev dm:=@Go.RowKit.Below.heap_alloc
abbrev fu:=@Bool.and_eq_true
abbrev gm:=@List.drop_eq_getElem_cons
abbrev gy:=@List.flatMap_cons
abbrev ia:=@decide_eq_true_eq
abbrev iy:=@Go.RowKit.Below.heap_setCell
abbrev jd:=@Go.World.cell?_of_block
abbrev jf:=@Go.ByteArray.toList_eq
abbrev jt:=@Array.getElem?_eq_getElem
abbrev jz:=@beq_eq_false_iff_ne
abbrev lq:=@beq_iff_eq
abbrev og:=@Bool.eq_iff_iff
abbrev oh:=@Nat.mul_le_mul_right
abbrev ox:=@Nat.pow_le_pow_right
abbrev qy:=@List.eq_nil_of_length_eq_zero
abbrev sj:=@Option.some.injEq
abbrev ue:=@Go.ownsRow_setCell_other
abbrev wz:=@List.all_cons
abbrev xL:=@Nat.eq_zero_or_pos
abbrev xU:=@Bool.true_and
abbrev ya:=@UInt8.toNat_inj
open Go.RowKit
variable {B b e g i j n sz t:Nat}{S:List Nat}{a w w':World}{cs:Array Value}{fr:Nat × Nat}{l:List ByteArray}{v:Value}{xs:List Value}
section
open Go.Lib
theorem aK:∀(l:List UInt8) (acc:Nat),DF l 48 57=true->parseUint10 acc l=.range\/∃u,parseUint10 acc l=.ok u/\acc*10 ^l.length<=u:=by
 intro l
 induction l with
 |nil=>intro acc _;exact .inr ⟨acc,rfl,by simp⟩
 |cons c r ih=>
  intro acc hd;unfold DF at hd;simp only[wz,fu,ia]at hd;simp only[parseUint10];rw[aq ⟨by omega,by omega⟩]
  by_cases h1:1844674407370955162<=acc
  ·rw[aq h1];exact .inl rfl
  ·rw[au h1]
   by_cases h2:18446744073709551616<=acc*10+(c.toNat - 48)
   ·rw[aq h2];exact .inl rfl
   ·rw[au h2]
    rcases ih (acc*10+(c.toNat - 48)) (by unfold DF;exact hd.2)with h | ⟨u,h,hu⟩
    ·exact .inl h
    ·refine .inr ⟨u,h,y5 ?_ hu⟩
     rw[lC,Nat.pow_succ,Nat.mul_comm (10 ^r.length) 10,<-Nat.mul_assoc];exact oh _ (by omega)
theorem mU (l:List UInt8) (hd:DF l 48 57=true) (hne:l≠ []) (h0:l.head?≠some 48):
  (atoiAll l=.range/\KY l=false)\/∃v,atoiAll l=.ok v/\KY l=decide (v<=99)/\(KY l=true->v=C4 l):=by
 cases l with
 |nil=>exact absurd rfl hne
 |cons c r=>
  have hc:48<=c.toNat/\c.toNat<=57:=by
   unfold DF at hd;simp only[wz,fu,ia]at hd;omega
  have hr:DF r 48 57=true:=by
   unfold DF at hd ⊢;simp only[wz,fu]at hd;exact hd.2
  have hc0:¬c.toNat=48:=λe=>h0 (by
   rw[List.head?_cons,sj,<-ya];exact e)
  have aaF:KY (c::r)=decide (r.length<=1):=by
   unfold KY J2;rw[hd];have:((c::r).head?==some 48)=false:=by
    rw[jz];exact h0
   rw[this];simp only[lC,Bool.and_true,Bool.not_false];rw[ij (p:=1<=r.length+1) (by omega),xU]
   by_cases h:r.length<=1
   ·rw[ij h,ij (by omega)]
   ·rw[fq h,fq (by omega)]
  have ahz:parseMag (c::r)=parseUint10 (c.toNat - 48) r:=by
   unfold parseMag;rw[au (by simp)];simp only[parseUint10];rw[aq hc,au (by omega),au (by omega)]
   congr 1
   omega
  rw[atoiAll_plain c r (by omega) (by omega),ahz,aaF]
  match r,hr with
  | [],_=>
   right;simp only[parseUint10,signless];rw[au (by omega)];exact⟨_,rfl,by rw[ij (by simp),ij (by omega)],λ_=>by simp[C4];omega⟩
  | [d],hr=>
   right;have hd':48<=d.toNat/\d.toNat<=57:=by
    unfold DF at hr;simp only[wz,fu,ia]at hr;omega
   simp only[parseUint10];rw[aq hd',au (by omega),au (by omega)];simp only[signless];rw[au (by omega)];exact⟨_,rfl,by rw[ij (by simp),ij (by omega)],λ_=>by simp[C4];omega⟩
  |d::e::q,hr=>
   rcases aK (d::e::q) (c.toNat - 48) hr with h | ⟨u,h,hu⟩
   ·left
    rw[h];exact⟨rfl,by rw[fq (by simp)]⟩
   ·rw[h]
    simp only[signless];have h5:100<=u:=by
     refine y5 ?_ hu;have h6:10 ^2<=10 ^(d::e::q).length:=ox (by omega) (by simp)
     calc 100=1*10 ^2:=by decide
      _<=(c.toNat - 48)*10 ^(d::e::q).length:=Nat.mul_le_mul (by omega) h6
    by_cases h7:9223372036854775808<=u
    ·rw[aq h7]
     exact .inl ⟨rfl,by rw[fq (by simp)]⟩
    ·rw[au h7]
     exact .inr ⟨_,rfl,by rw[fq (by simp),fq (by omega)],λh=>by simp at h⟩
end
theorem BV {a b:Bool} (h:a=b):Ending.returned (.bool b)=.returned (.bool a):=by rw[h]
theorem L3 (s:ByteArray) (lo hi:Int) (w:World) (hs:s.size<=9223372036854775807):
  Calls Tryz.prog 225 #[.string s,.int .u8 lo,.int .u8 hi] w λe w'=>e=.returned (.bool (DF s.data.toList lo hi&& !s.toList.isEmpty))/\w=w':=by
 go_enter Tryz.func225,Tryz.ntmps225
 go_wp2
 go_loop [10] (λi=>∃k:Nat,k<=s.size/\i=ab k/\Hid (DF (s.data.toList.take k) lo hi=true)) (λi=>s.size - (intOf i).toNat)
 case atStart=>exact⟨0,bu _,rfl,by show _=_;simp[DF]⟩
 case round=>
  obtain⟨k,hk,rfl,hall⟩:=hrel
  by_cases hlt:k<s.size
  ·go_wp2
   ·go_ret
    exact⟨BV (by rw[VS hlt (by assumption)];rfl),rfl⟩
   ·go_round
    case rel=>exact⟨k+1,by omega,by go_num,gY hlt hall.out (by assumption)⟩
    case measure=>simp[intOf];omega
   ·go_ret
    exact⟨BV (by rw[VS hlt (.inl (by assumption))];rfl),rfl⟩
  ·go_wp2
   go_ret;exact⟨BV (by rw[iZ hlt hall.out];rfl),rfl⟩
structure DT (w:World):Prop where
 size:9<=w.heap.size
 max:∃m,w.cell? (af 2 0)=some (ab m)
 rng:∃te pe,w.cell? (af 4 0)=some (.iface te pe)
 shapes:∃t fr,w.heap[0]?=some (.cells #[.string ⟨#[116,111,107,101,110]⟩,ab 1,ab 3,ab 3,.string ⟨#[115,119,97,112]⟩,ab 1,ab 1,ab 3,.string ⟨#[114,117,108,101]⟩,ab 2,ab 4,ab 5] t fr)
theorem DT.below  (h:DT w)  (hb:Below B w w') (hB:9<=B):DT w' where
 size:=y5 h.size hb.size
 max:=by obtain⟨m,hm⟩:=h.max;exact⟨m,(hb.cell (show 2<B by omega)).trans hm⟩
 rng:=by obtain⟨te,pe,hm⟩:=h.rng;exact⟨te,pe,(hb.cell (show 4<B by omega)).trans hm⟩
 shapes:=by obtain⟨t,fr,hm⟩:=h.shapes;exact⟨t,fr,(hb.block 0 (by omega)).trans hm⟩
theorem sO {s:ByteArray} (h:(DF s.data.toList 48 57&& !s.toList.isEmpty)=false):DH s=false:=by
 have hlen:s.data.toList.length=s.size:=by simp
 have e1:s.toList=s.data.toList:=jf s;unfold DH KY J2;rw[e1]at h;cases ha:DF s.data.toList 48 57
 ·simp
 ·rw[ha]at h
  have:s.data.toList=[]:=by simpa using h
  rw[this];rfl
theorem N8 (s:ByteArray) (w:World) (hG:DT w) (hs:s.size<=4000):
  Calls Tryz.prog 200 #[.string s] w λe w'=>(∃n,e=.returned (.tuple #[ab n,.bool (DH s)])/\(DH s=true->n=C4 s.data.toList))/\Below w.heap.size w w':=by
 have HG:Hid (DT w):=hid hG;clear hG;cases h1:(DF s.data.toList 48 57&& !s.toList.isEmpty)
 ·rw[sO h1]
  go_enter Tryz.func200,Tryz.ntmps200
  go_wp2_with (go_at_call 225;refine(L3 _ _ _ _ (by omega)).mono ?_;rintro e w' ⟨rfl,rfl⟩;rw[h1])
  go_ret2
  exact⟨⟨_,rfl,λh=>by cases h⟩,ah _ _⟩
 ·have hpos:0<s.size:=by
   rcases xL s.size with h |h
   ·exfalso
    have:s.data.toList=[]:=qy Kb;rw[jf s,this]at h1;simp at h1
   ·exact h
  have hall:DF s.data.toList 48 57=true:=by simp only[fu]at h1;exact h1.1
  have Vr:s.data.toList.head?=some s[0]:=by
   rw[List.head?_eq_getElem?,gE (by simpa using hpos)];rfl
  cases h2:((s[0].toNat:Int)==48)
  ·have hne:s.data.toList.head?≠some 48:=by
    rw[Vr];intro e;injection e with e
    rw[e]at h2;exact absurd h2 (by decide)
   have hnil:s.data.toList≠ []:=by
    intro e;rw[e]at Vr;cases Vr
   rcases mU s.data.toList hall hnil hne with⟨ha,hc⟩ | ⟨v,ha,hc,hval⟩
   ·obtain⟨te,pe,hv⟩:=HG.out.rng
    have hn:DH s=false:=hc;rw[hn];have cA:=λW hW=>Tryz.strconv_Atoi_range s (by omega) ha (.iface te pe) W hW (.inr ⟨te,pe,rfl⟩)
    have CA:=hid cA;clear cA ha hc hn hall Vr hne hnil
    go_enter Tryz.func200,Tryz.ntmps200
    go_wp2_with (first
     | (go_at_call 225;refine(L3 _ _ _ _ (by omega)).mono ?_;rintro e w' ⟨rfl,rfl⟩;rw[h1])
     | (go_at_call 226;refine(CA.out _ hv).mono ?_;rintro e w1 ⟨N,rfl,_,_,hb⟩))
    go_ret2
    exact⟨⟨_,rfl,λh=>by cases h⟩,hb⟩
   ·have hn:DH s=decide (v<=99):=hc
    have ahA:Hid (decide (v<=99)=true->v=C4 s.data.toList):=hid (λh=>hval (hc.trans h));rw[hn];have cA:=λW=>Tryz.strconv_Atoi_ok s (by omega) v ha W
    have CA:=hid cA;have hvb:=Lib.atoiAll_bounds ha;clear cA ha hc hn hall Vr hne hnil hval
    go_enter Tryz.func200,Tryz.ntmps200
    go_wp2_with (first
     | (go_at_call 225;refine(L3 _ _ _ _ (by omega)).mono ?_;rintro e w' ⟨rfl,rfl⟩;rw[h1])
     | (go_at_call 226;refine(CA.out _).mono ?_;rintro e w1 ⟨rfl,hb⟩))
    go_ret2
    refine⟨⟨_,rfl,ahA.out⟩,?_⟩
    rcases hb with hb | ⟨t,hb⟩
    ·rw[hb];exact ah _ _
    ·rw[hb];exact Lib.bytesWorld_below _ _ _
  ·have hn:DH s=false:=by
    unfold DH KY;have:(s.data.toList.head?==some 48)=true:=by
     rw[Vr,lq,sj,<-ya];rw[lq]at h2;show s[0].toNat=48;omega
    rw[this];simp
   rw[hn];clear Vr hn
   go_enter Tryz.func200,Tryz.ntmps200
   go_wp2_with (go_at_call 225;refine(L3 _ _ _ _ (by omega)).mono ?_;rintro e w' ⟨rfl,rfl⟩;rw[h1])
   go_ret2
   exact⟨⟨_,rfl,λh=>by cases h⟩,ah _ _⟩
section
structure A1 (w w':World) (S:List Nat):Prop where
 os:w'.os=w.os
 tape:w'.tape=w.tape
 output:w'.output=w.output
 size:w.heap.size<=w'.heap.size
 block:∀k,k<w.heap.size->k∉S->w'.heap[k]?=w.heap[k]?
theorem A1.refl (w:World) (S:List Nat):A1 w w S:=⟨rfl,rfl,rfl,yF _,λ_ _ _=>rfl⟩
theorem A1.trans {b c:World} (h:A1 a b S) (k:A1 b c S):A1 a c S:=
 ⟨k.os.trans h.os,k.tape.trans h.tape,k.output.trans h.output,y5 h.size k.size,λi hi hn=>(k.block i (lL hi h.size) hn).trans (h.block i hi hn)⟩
theorem A1.mono {T:List Nat} (h:A1 w w' S) (hs:∀k,k∈S->k∈T):A1 w w' T:=⟨h.os,h.tape,h.output,h.size,λk hk hn=>h.block k hk λhm=>hn (hs k hm)⟩
theorem A1.drew  (h:A1 a w S):A1 a w.drew S:=⟨h.os,h.tape,h.output,h.size,h.block⟩
theorem A1.alloc  (h:A1 a w S) (o:Obj):A1 a (w.alloc o) S:=
 h.trans ⟨rfl,rfl,rfl,by simp,λk hk _=>dm _ _ _ hk⟩
theorem A1.setCell  (h:A1 a w S) {p:Addr} (hp:p.block∈S) (u:Value):A1 a (w.setCell p u) S:=
 h.trans ⟨rfl,rfl,rfl,by simp[World.setCell],λk _ hn=>iy _ _ _ _ (λe=>hn (e▸hp))⟩
theorem A1.grown {row:Option Nat} (h:A1 a w S) (hg:w.grownBy w' row) (hr:∀k,row=some k->k∈S\/a.heap.size<=k):A1 a w' S:=
 ⟨hg.os.trans h.os,hg.tape.trans h.tape,hg.output.trans h.output,y5 h.size hg.size,λk hk hn=>by
  rw[hg.block k (lL hk h.size) (λe=>by rcases hr k e.symm with h1 |h1;exact hn h1;omega)];exact h.block k hk hn⟩
theorem A1.below  (h:A1 w w' S) (hB:B<=w.heap.size) (hs:∀k,k∈S->B<=k):Below B w w':=
 ⟨h.os,h.tape,h.output,h.size,λk hk=>h.block k (by omega) (λhm=>by have:=hs k hm;omega)⟩
theorem A1.yX  (h:Below w.heap.size w w') (S:List Nat):A1 w w' S:=⟨h.os,h.tape,h.output,h.size,λk hk _=>h.block k hk⟩
theorem A1.cell  (h:A1 w w' S) {p:Addr} (hp:p.block<w.heap.size) (hn:p.block∉S):w'.cell? p=w.cell? p:=jd (w:=w) (h.block p.block hp hn)
section
variable {w w':World}{S:List Nat}{B e sz n:Nat}{v:Value}{xs:List Value}
theorem BI (h:w.ownsRow B e sz v n xs)  (hg:v.ownBlock=some g):∃c,w.heap[g]?=some (.cells c e (0,0)):=by
 rcases h.2 with⟨rfl,_⟩ | ⟨g',cap,cur,rfl,_,hh,_⟩
 ·simp[Value.ownBlock]at hg
 ·simp[Value.ownBlock]at hg;subst hg;exact⟨cur,hh⟩
theorem CJ (h:w.ownsRow B e sz v n xs)  (hg:v.ownBlock=some g):g<w.heap.size:=(h.lt g hg).2
theorem A7 (h:w.ownsRow B e sz v n xs) (hk:A1 w w' S) (hn:∀g,v.ownBlock=some g->g∉S):w'.ownsRow B e sz v n xs:=by
 obtain⟨h1,h2⟩:=h;refine⟨h1,?_⟩
 rcases h2 with h2 | ⟨g,cap,cur,hv,hg,hh,r⟩
 ·exact .inl h2
 ·subst hv
  exact .inr ⟨g,cap,cur,rfl,hg,by rw[hk.block g (ak hh) (hn g rfl)];exact hh,r⟩
theorem GG {B' e' sz' n':Nat}{v':Value}{xs':List Value} (h:w.ownsRow B e sz v n xs) (h':w.ownsRow B' e' sz' v' n' xs') (hne:e≠e')  (hg:v.ownBlock=some g):v'.ownBlock≠some g:=by
 intro hg';obtain⟨c,hc⟩:=BI h hg;obtain⟨c',hc'⟩:=BI h' hg';rw[hc]at hc';injection hc' with hc'
 injection hc' with _ he
 exact hne he
theorem A5 (h:w.ownsRow B e sz v n xs)  (hb:w.heap[b]?=some (.cells cs t fr)) (hne:e≠t):v.ownBlock≠some b:=by
 intro hg;obtain⟨c,hc⟩:=BI h hg;rw[hc]at hb;injection hb with hb
 injection hb with _ he
 exact hne he
theorem A6  (hb:w.heap[b]?=some (.cells cs t fr)) (u:Value):(w.setCell (af b j) u).heap[b]?=some (.cells (cs.setIfInBounds j u) t fr):=by
 have hlt:=ak hb;have h':w.heap[b]=.cells cs t fr:=by simpa[jt hlt] using hb
 show(w.heap.modify b _)[b]?=_;rw[jt (by simpa using hlt),Array.getElem_modify_self,h'];rfl
theorem A0  (hb:w.heap[b]?=some (.cells cs t fr)):w.cell? (af b j)=cs[j]?:=by simp[World.cell?,hb]
theorem A3  (hb:w.heap[b]?=some (.cells cs t (0,0))):w.frozen? (af b j)=false:=by simp[World.frozen?,hb]
end
end
theorem Mz6 {P:Prop} (h:P:=by
  rw[jf,hlen];cases h:s.data.toList with
  |nil=>rw[h]at hlen;rw[fq (p:=1<=s.size) (by simp at hlen;omega)];simp
  |cons a r=>rw[h]at hlen;rw[ij (p:=1<=s.size) (by simp at hlen;omega)];simp):P:=h
theorem eZ (s:ByteArray):DS s=(decide ((s.size:Int)<=8)&&(DF s.data.toList 97 122&& !s.toList.isEmpty)):=by
 have hlen:s.data.toList.length=s.size:=by simp
 unfold DS J2;exact Mz6
theorem ZM (s:ByteArray):GM s=(decide ((s.size:Int)<=8)&&(DF s.data.toList 65 90&& !s.toList.isEmpty)):=by
 have hlen:s.data.toList.length=s.size:=by simp
 unfold GM J2;exact Mz6
theorem YQ (s:ByteArray) (w:World) (hs:s.size<=4000):
  Calls Tryz.prog 231 #[ab 1,.string s] w λe w'=>e=.returned (.bool (DS s))/\w=w':=by
 by_cases h8:s.size<=8
 ·rw[eZ,ij (by omega),xU]
  go_enter Tryz.func231,Tryz.ntmps231
  go_wp2_with (go_at_call 225;refine(L3 _ _ _ _ (by omega)).mono ?_;rintro e w' ⟨rfl,rfl⟩)
  go_ret;exact⟨rfl,rfl⟩
 ·rw[eZ,fq (by omega),Bool.false_and]
  go_enter Tryz.func231,Tryz.ntmps231
  go_wp2;go_ret;exact⟨rfl,rfl⟩
theorem XR (s:ByteArray) (w:World) (hs:s.size<=4000):
  Calls Tryz.prog 231 #[ab 2,.string s] w λe w'=>e=.returned (.bool (GM s))/\w=w':=by
 by_cases h8:s.size<=8
 ·rw[ZM,ij (by omega),xU]
  go_enter Tryz.func231,Tryz.ntmps231
  go_wp2_with (go_at_call 225;refine(L3 _ _ _ _ (by omega)).mono ?_;rintro e w' ⟨rfl,rfl⟩)
  go_ret;exact⟨rfl,rfl⟩
 ·rw[ZM,fq (by omega),Bool.false_and]
  go_enter Tryz.func231,Tryz.ntmps231
  go_wp2;go_ret;exact⟨rfl,rfl⟩
theorem iY (s:ByteArray) (w:World) (hG:DT w) (hs:s.size<=4000):
  Calls Tryz.prog 231 #[ab 3,.string s] w λe w'=>e=.returned (.bool (DH s))/\Below w.heap.size w w':=by
 have HG:Hid (DT w):=hid hG;clear hG
 go_enter Tryz.func231,Tryz.ntmps231
 go_wp2_with (go_at_call 200;refine(N8 _ _ HG.out hs).mono ?_;rintro e w1 ⟨⟨n,rfl,_⟩,hb⟩)
 go_ret;exact⟨rfl,hb⟩
theorem iL (s:ByteArray) (w:World):
  Calls Tryz.prog 231 #[ab 4,.string s] w λe w'=>e=.returned (.bool (s.toList== [61]))/\w=w':=by
 go_enter Tryz.func231,Tryz.ntmps231
 go_wp2;go_ret;exact⟨rfl,rfl⟩
def EZ (l:List ByteArray) (j:Nat):Bool:=(l.drop j).all NP
theorem pV {p:ByteArray->Bool} (hj:j<l.length):(l.drop j).all p=(p (nth l j)&&(l.drop (j+1)).all p):=by
 rw[gm hj,wz];unfold nth;rw[zh,gE hj];rfl
theorem bV (l:List ByteArray) (ad:Option Addr) (g j n cap:Nat) (w:World) (hl:l.length=j+n) (hn:l.length<=4001) (hs:∀i,(nth l i).size<=4000) (hc:DL w g 0 l) (had:0<n->ad=some (af g j)):
  Calls Tryz.prog 230 #[.slice ad n cap] w λe w'=>e=.returned (.bool (EZ l j))/\w=w':=by
 have HC:Hid (DL w g 0 l):=hid hc;have HL:Hid (l.length=j+n):=hid hl;have hn2:n<=4001:=by omega
 rcases xL n with h0 |h0
 ·have HE:Hid (EZ l j=true):=hid (by unfold EZ;rw[nh (by omega)];rfl)
  subst h0;clear hc hl had
  go_enter Tryz.func230,Tryz.ntmps230
  go_wp2;refine wp_loop_rounds 1 ?_;rw[rounds_succ];go_wp2;go_ret;exact⟨BV HE.out,rfl⟩
 ·have e:=had h0
  subst e;clear hc hl had
  go_enter Tryz.func230,Tryz.ntmps230
  go_wp2
  go_loop [7] (λi=>∃k:Nat,k<=n/\i=ab k/\Hid (EZ l j=EZ l (j+k))) (λi=>n - (intOf i).toNat)
  case atStart=>exact⟨0,bu _,rfl,rfl⟩
  case round=>
   obtain⟨k,hk,rfl,hall⟩:=hrel
   by_cases hlt:k<n
   ·have ck:w.cell? (af g (j+k))=some (.string (nth l (j+k))):=by simpa using HC.out.2 (j+k) Vp
    have hsk:=hs (j+k);have HP:Hid (EZ l j=(NP (nth l (j+k))&&EZ l (j+k+1))):=hid (by rw[hall.out];unfold EZ;exact pV Vp);obtain⟨x,hx⟩:=qF (nth l (j+k));rw[<-hx]at ck hsk HP;clear hx hall hs;cases hp:(x.toList== [124]) <;> cases Hy:DS x <;> cases Dy:GM x
    all_goals
     go_wp2_with (first | (go_at_call_of 231 (Value.int .i64 1);refine(YQ _ _ hsk).mono ?_;rintro e w' ⟨rfl,rfl⟩;rw[Hy]) | (go_at_call_of 231 (Value.int .i64 2);refine(XR _ _ hsk).mono ?_;rintro e w' ⟨rfl,rfl⟩;rw[Dy]))
    ·go_ret
     exact⟨BV (by rw[HP.out];unfold NP I5;rw[hp,Hy,Dy];rfl),rfl⟩
    all_goals
     go_round
     case rel=>exact⟨k+1,by omega,by go_num,by rw[HP.out];unfold NP I5;rw[hp,Hy,Dy];rfl⟩
     case measure=>simp[intOf];omega
   ·have HE:Hid (EZ l j=true):=hid (by rw[hall.out];unfold EZ;rw[nh Vp];rfl)
    go_wp2;go_ret;exact⟨BV HE.out,rfl⟩
section
structure Gr where
 toks:List (ByteArray × Int × Int)
 Vs:List (ByteArray × ByteArray × Int)
 names:List ByteArray
 rules:List (ByteArray × List ByteArray)
section
variable {w:World}{B gb:Nat}{G:Gr}{vT vS vN vR:Value}{pv:List Value}
end
theorem Mz5 {P:Prop} (h:P:=by
  intro l
  induction l with
  |nil=>intro i a j h;simp at h
  |cons x r ih=>
   intro i a j h hj;rw[gy]
   match i with
   |0=>
    simp at h;subst h;rw[aL aaE]
    congr 1;omega
   |i+1=>
    simp at h;rw[zQ aaE,hf];rw[<-ih i a j h hj]
    congr 1;omega):P:=h
theorem wZ {α:Type} (f:α->List Value) (hf:∀a,(f a).length=3):∀(l:List α) (i:Nat) (a:α) (j:Nat),l[i]?=some a->j<3->(l.flatMap f)[i*3+j]?=(f a)[j]?:=by
 exact Mz5
theorem S5 {α:Type} (f:α->List Value) (hf:∀a,(f a).length=2):∀(l:List α) (i:Nat) (a:α) (j:Nat),l[i]?=some a->j<2->(l.flatMap f)[i*2+j]?=(f a)[j]?:=by
 exact Mz5
def D2 (l:List (ByteArray × Int × Int)) (w:ByteArray):Bool:=l.any λt=>t.1.toList==w.toList
def BW (l:List ByteArray) (w:ByteArray):Bool:=l.any λt=>t.toList==w.toList
def qK (G:Gr) (x:ByteArray):Bool:= !I5 x&&(!D2 G.toks x&& !BW G.names x)
def FK (G:Gr) (l:List ByteArray):Bool:=
 if(nth l 0).toList== [115,119,97,112]then(!D2 G.toks (nth l 1)||(!D2 G.toks (nth l 2)||((nth l 1).toList==(nth l 2).toList)))
 else if(nth l 0).toList== [114,117,108,101]then(l.drop 3).any (qK G)else false
theorem EY {p:Nat->Prop}{k:Nat} (h:∀j,j<k->p j) (hk:p k):∀j,j<k+1->p j:=by
 intro j hj
 by_cases e:j=k
 ·subst e;exact hk
 ·exact h j (by omega)
end
def EB (k:Int) (s:ByteArray):Bool:=if k=1 then DS s else if k=2 then GM s else if k=3 then DH s else s.toList== [61]
theorem FC (k:Int) (s:ByteArray) (w:World) (hk:k=1\/k=2\/k=3\/k=4) (hG:DT w) (hs:s.size<=4000):
  Calls Tryz.prog 231 #[ab k,.string s] w λe w'=>e=.returned (.bool (EB k s))/\Below w.heap.size w w':=by
 rcases hk with rfl |rfl |rfl |rfl
 ·exact(YQ s w hs).mono λe w' h=>⟨h.1,by rw[<-h.2];exact ah _ _⟩
 ·exact(XR s w hs).mono λe w' h=>⟨h.1,by rw[<-h.2];exact ah _ _⟩
 ·exact iY s w hG hs
 ·exact(iL s w).mono λe w' h=>⟨h.1,by rw[<-h.2];exact ah _ _⟩
theorem U1  (hi:i<3) (h:EB (if i=0 then 1 else 3) (nth l (1+i))=false):D6 l=false:=by
 have h':i=0\/i=1\/i=2:=by omega
 unfold D6
 rcases h' with rfl |rfl |rfl
 ·have h2:DS (nth l 1)=false:=h
  rw[h2];simp
 ·have h2:DH (nth l 2)=false:=h
  rw[h2];simp
 ·have h2:DH (nth l 3)=false:=h
  rw[h2];simp
theorem tZ  (h:∀i,i<3->EB (if i=0 then 1 else 3) (nth l (1+i))=true):D6 l=decide (l.length=4):=by
 unfold D6;have h1:DS (nth l 1)=true:=h 0 (by omega);have h2:DH (nth l 2)=true:=h 1 (by omega);have h3:DH (nth l 3)=true:=h 2 (by omega);rw[h1,h2,h3];simp
theorem Ti {P:Prop} (h:P:=by
  go_wp2_with (go_at_call 231;refine(FC _ _ _ (by omega) Fq.out hsk).mono ?_;rintro e w1 ⟨rfl,hb⟩;rw[hkb])
  go_ret;exact⟨BV HF.out,hbr.out.trans (hb.mono hbr.out.size)⟩):P:=h
theorem Mz2 {P:Prop} (h:P:=by
  go_wp2_with (go_at_call 231;refine(FC _ _ _ (by omega) Fq.out hsk).mono ?_;rintro e w1 ⟨rfl,hb⟩;rw[hkb])
  go_roundw
  case rel=>exact⟨0+1,m - 1,cap' - 1,_,by omega,by omega,by omega,by omega,by go_num,rfl,hid (by have:=hmk.out;omega),hid (λh=>by rw[au (by omega)]),HP,hid (hbr.out.trans (hb.mono hbr.out.size))⟩
  case measure=>simp[intOf]):P:=h
theorem Mz3 {P:Prop} (h:P:=by
  go_wp2_with (go_at_call 231;refine(FC _ _ _ (by omega) Fq.out hsk).mono ?_;rintro e w1 ⟨rfl,hb⟩;rw[hkb])
  go_roundw
  case rel=>exact⟨1+1,m - 1,cap' - 1,_,by omega,by omega,by omega,by omega,by go_num,rfl,hid (by have:=hmk.out;omega),hid (λh=>by rw[au (by omega)]),HP,hid (hbr.out.trans (hb.mono hbr.out.size))⟩
  case measure=>simp[intOf]):P:=h
theorem Mz4 {P:Prop} (h:P:=by
  go_wp2_with (go_at_call 231;refine(FC _ _ _ (by omega) Fq.out hsk).mono ?_;rintro e w1 ⟨rfl,hb⟩;rw[hkb])
  go_roundw
  case rel=>exact⟨2+1,m - 1,cap' - 1,_,by omega,by omega,by omega,by omega,by go_num,rfl,hid (by have:=hmk.out;omega),hid (λh=>by rw[au (by omega)]),HP,hid (hbr.out.trans (hb.mono hbr.out.size))⟩
  case measure=>simp[intOf]):P:=h
theorem rF (l:List ByteArray) (ad:Option Addr) (g n cap:Nat) (x:ByteArray) (w:World) (hG:DT w) (hl:l.length=1+n) (hn:n<=4000) (hnc:n<=cap) (hcap:cap<=9223372036854775807) (hs:∀i,(nth l i).size<=4000) (hc:DL w g 0 l) (had:0<n->ad=some (af g 1)):
  Calls Tryz.prog 209 #[.agg #[.string x,ab 1,ab 3,ab 3],.slice ad n cap] w λe w'=>e=.returned (.bool (D6 l))/\Below w.heap.size w w':=by
 go_enter Tryz.func209,Tryz.ntmps209
 go_wp2;have i0:∀w,(Instr.index 337 (.agg #[ab 1,ab 3,ab 3]) (ab 0)).run Tryz.prog w=.ok (ab 1) w:=λ_=>by kernel_rfl
 have i1:∀w,(Instr.index 337 (.agg #[ab 1,ab 3,ab 3]) (ab 1)).run Tryz.prog w=.ok (ab 3) w:=λ_=>by kernel_rfl
 have i2:∀w,(Instr.index 337 (.agg #[ab 1,ab 3,ab 3]) (ab 2)).run Tryz.prog w=.ok (ab 3) w:=λ_=>by kernel_rfl
 have hb0:Below w.heap.size w (w.alloc (.cells #[.string x,ab 1,ab 3,ab 3] 339)):=(ah _ _).alloc (yF _) _;have zv:=hid hb0;have HC:Hid (DL w g 0 l):=hid hc;have HG:Hid (DT w):=hid hG;have HL:Hid (l.length=1+n):=hid hl;clear hc hG hl hb0
 go_loopw [1,9] (λv c wr=>∃(k m cap':Nat) (Nb:Option Addr),k<=3/\m<=cap'/\m<=4000/\cap'<=9223372036854775807/\c=ab k/\v=.slice Nb m cap'/\Hid (m+k=n)/\Hid (0<m->Nb=some (af g (1+k)))/\
   Hid (∀i,i<k->EB (if i=0 then 1 else 3) (nth l (1+i))=true)/\Hid (Below w.heap.size w wr)) (λ_ c _=>3 - (intOf c).toNat)
 case atStart=>exact⟨0,n,cap,ad,by omega,by omega,by omega,by omega,rfl,rfl,rfl,had,λi h=>by omega,zv⟩
 case round=>
  clear had zv;obtain⟨k,m,cap',Nb,hk3,hmc,Oz,hc6,rfl,rfl,hmk,had,hpre,hbr⟩:=hrel;have Tj:=HG.out.below hbr.out HG.out.size;have Fq:Hid (DT wr):=hid Tj;have HCr:Hid (DL wr g 0 l):=hid (HC.out.later hbr.out);clear Tj
  by_cases hk:k=3
  ·subst hk
   have HF:Hid (D6 l=decide (l.length=4)):=hid (tZ hpre.out);go_wp2;go_ret;refine⟨BV ?_,hbr.out⟩;rw[HF.out,og];simp only[ia,lq];have:=HL.out;have:=hmk.out;omega
  ·by_cases hm:m=0
   ·have hf:D6 l=false:=by
     unfold D6;rw[fq Vo];rfl
    have HF:Hid (D6 l=false):=hid hf;clear hf;have hk':k=0\/k=1\/k=2:=by omega
    subst hm;clear hk
    rcases hk' with rfl |rfl |rfl
    all_goals
     go_wp2;go_ret;exact⟨BV HF.out,hbr.out⟩
   ·have aaG:=had.out (by omega)
    have hk':k=0\/k=1\/k=2:=by omega
    have ck:wr.cell? (af g (1+k))=some (.string (nth l (1+k))):=by simpa using HCr.out.2 (1+k) Vo
    have hsk:=hs (1+k);subst aaG;clear hk hs
    rcases hk' with rfl |rfl |rfl
    ·cases hkb:EB 1 (nth l (1+0))
     ·have HF:Hid (D6 l=false):=hid (U1 (i:=0) (by omega) hkb)
      exact Ti
     ·have HP:Hid (∀i,i<0+1->EB (if i=0 then 1 else 3) (nth l (1+i))=true):=hid (EY hpre.out hkb)
      exact Mz2
    ·cases hkb:EB 3 (nth l (1+1))
     ·have HF:Hid (D6 l=false):=hid (U1 (i:=1) (by omega) hkb)
      exact Ti
     ·have HP:Hid (∀i,i<1+1->EB (if i=0 then 1 else 3) (nth l (1+i))=true):=hid (EY hpre.out hkb)
      exact Mz3
    ·cases hkb:EB 3 (nth l (1+2))
     ·have HF:Hid (D6 l=false):=hid (U1 (i:=2) (by omega) hkb)
      exact Ti
     ·have HP:Hid (∀i,i<2+1->EB (if i=0 then 1 else 3) (nth l (1+i))=true):=hid (EY hpre.out hkb)
      exact Mz4
theorem TO  (hi:i<3) (h:EB (if i=2 then 3 else 1) (nth l (1+i))=false):BQ l=false:=by
 have h':i=0\/i=1\/i=2:=by omega
 unfold BQ
 rcases h' with rfl |rfl |rfl
 ·have h2:DS (nth l 1)=false:=h
  rw[h2];simp
 ·have h2:DS (nth l 2)=false:=h
  rw[h2];simp
 ·have h2:DH (nth l 3)=false:=h
  rw[h2];simp
theorem uM  (h:∀i,i<3->EB (if i=2 then 3 else 1) (nth l (1+i))=true):BQ l=decide (l.length=4):=by
 unfold BQ;have h1:DS (nth l 1)=true:=h 0 (by omega);have h2:DS (nth l 2)=true:=h 1 (by omega);have h3:DH (nth l 3)=true:=h 2 (by omega);rw[h1,h2,h3];simp
theorem lH (l:List ByteArray) (ad:Option Addr) (g n cap:Nat) (x:ByteArray) (w:World) (hG:DT w) (hl:l.length=1+n) (hn:n<=4000) (hnc:n<=cap) (hcap:cap<=9223372036854775807) (hs:∀i,(nth l i).size<=4000) (hc:DL w g 0 l) (had:0<n->ad=some (af g 1)):
  Calls Tryz.prog 209 #[.agg #[.string x,ab 1,ab 1,ab 3],.slice ad n cap] w λe w'=>e=.returned (.bool (BQ l))/\Below w.heap.size w w':=by
 go_enter Tryz.func209,Tryz.ntmps209
 go_wp2;have i0:∀w,(Instr.index 337 (.agg #[ab 1,ab 1,ab 3]) (ab 0)).run Tryz.prog w=.ok (ab 1) w:=λ_=>by kernel_rfl
 have i1:∀w,(Instr.index 337 (.agg #[ab 1,ab 1,ab 3]) (ab 1)).run Tryz.prog w=.ok (ab 1) w:=λ_=>by kernel_rfl
 have i2:∀w,(Instr.index 337 (.agg #[ab 1,ab 1,ab 3]) (ab 2)).run Tryz.prog w=.ok (ab 3) w:=λ_=>by kernel_rfl
 have hb0:Below w.heap.size w (w.alloc (.cells #[.string x,ab 1,ab 1,ab 3] 339)):=(ah _ _).alloc (yF _) _;have zv:=hid hb0;have HC:Hid (DL w g 0 l):=hid hc;have HG:Hid (DT w):=hid hG;have HL:Hid (l.length=1+n):=hid hl;clear hc hG hl hb0
 go_loopw [1,9] (λv c wr=>∃(k m cap':Nat) (Nb:Option Addr),k<=3/\m<=cap'/\m<=4000/\cap'<=9223372036854775807/\c=ab k/\v=.slice Nb m cap'/\Hid (m+k=n)/\Hid (0<m->Nb=some (af g (1+k)))/\
   Hid (∀i,i<k->EB (if i=2 then 3 else 1) (nth l (1+i))=true)/\Hid (Below w.heap.size w wr)) (λ_ c _=>3 - (intOf c).toNat)
 case atStart=>exact⟨0,n,cap,ad,by omega,by omega,by omega,by omega,rfl,rfl,rfl,had,λi h=>by omega,zv⟩
 case round=>
  clear had zv;obtain⟨k,m,cap',Nb,hk3,hmc,Oz,hc6,rfl,rfl,hmk,had,hpre,hbr⟩:=hrel;have Tj:=HG.out.below hbr.out HG.out.size;have Fq:Hid (DT wr):=hid Tj;have HCr:Hid (DL wr g 0 l):=hid (HC.out.later hbr.out);clear Tj
  by_cases hk:k=3
  ·subst hk
   have HF:Hid (BQ l=decide (l.length=4)):=hid (uM hpre.out);go_wp2;go_ret;refine⟨BV ?_,hbr.out⟩;rw[HF.out,og];simp only[ia,lq];have:=HL.out;have:=hmk.out;omega
  ·by_cases hm:m=0
   ·have hf:BQ l=false:=by
     unfold BQ;rw[fq Vo];rfl
    have HF:Hid (BQ l=false):=hid hf;clear hf;have hk':k=0\/k=1\/k=2:=by omega
    subst hm;clear hk
    rcases hk' with rfl |rfl |rfl
    all_goals
     go_wp2;go_ret;exact⟨BV HF.out,hbr.out⟩
   ·have aaG:=had.out (by omega)
    have hk':k=0\/k=1\/k=2:=by omega
    have ck:wr.cell? (af g (1+k))=some (.string (nth l (1+k))):=by simpa using HCr.out.2 (1+k) Vo
    have hsk:=hs (1+k);subst aaG;clear hk hs
    rcases hk' with rfl |rfl |rfl
    ·cases hkb:EB 1 (nth l (1+0))
     ·have HF:Hid (BQ l=false):=hid (TO (i:=0) (by omega) hkb)
      exact Ti
     ·have HP:Hid (∀i,i<0+1->EB (if i=2 then 3 else 1) (nth l (1+i))=true):=hid (EY hpre.out hkb)
      exact Mz2
    ·cases hkb:EB 1 (nth l (1+1))
     ·have HF:Hid (BQ l=false):=hid (TO (i:=1) (by omega) hkb)
      exact Ti
     ·have HP:Hid (∀i,i<1+1->EB (if i=2 then 3 else 1) (nth l (1+i))=true):=hid (EY hpre.out hkb)
      exact Mz3
    ·cases hkb:EB 3 (nth l (1+2))
     ·have HF:Hid (BQ l=false):=hid (TO (i:=2) (by omega) hkb)
      exact Ti
     ·have HP:Hid (∀i,i<2+1->EB (if i=2 then 3 else 1) (nth l (1+i))=true):=hid (EY hpre.out hkb)
      exact Mz4
theorem YP  (hi:i<2) (h:EB (if i=0 then 2 else 4) (nth l (1+i))=false):CY l=false:=by
 have h':i=0\/i=1:=by omega
 unfold CY NI
 rcases h' with rfl |rfl
 ·have h2:GM (nth l 1)=false:=h
  rw[h2];simp
 ·have h2:((nth l 2).toList== [61])=false:=h
  rw[h2];simp
theorem rB  (hl:3<=l.length) (h:∀i,i<2->EB (if i=0 then 2 else 4) (nth l (1+i))=true):CY l=EZ l 3:=by
 unfold CY NI EZ;have h1:GM (nth l 1)=true:=h 0 (by omega);have h2:((nth l 2).toList== [61])=true:=h 1 (by omega);rw[h1,h2,ij hl];simp
theorem kU (l:List ByteArray) (ad:Option Addr) (g n cap:Nat) (x:ByteArray) (w:World) (hG:DT w) (hl:l.length=1+n) (hn:n<=4000) (hnc:n<=cap) (hcap:cap<=9223372036854775807) (hs:∀i,(nth l i).size<=4000) (hc:DL w g 0 l) (had:0<n->ad=some (af g 1)):
  Calls Tryz.prog 209 #[.agg #[.string x,ab 2,ab 4,ab 5],.slice ad n cap] w λe w'=>e=.returned (.bool (CY l))/\Below w.heap.size w w':=by
 go_enter Tryz.func209,Tryz.ntmps209
 go_wp2;have i0:∀w,(Instr.index 337 (.agg #[ab 2,ab 4,ab 5]) (ab 0)).run Tryz.prog w=.ok (ab 2) w:=λ_=>by kernel_rfl
 have i1:∀w,(Instr.index 337 (.agg #[ab 2,ab 4,ab 5]) (ab 1)).run Tryz.prog w=.ok (ab 4) w:=λ_=>by kernel_rfl
 have i2:∀w,(Instr.index 337 (.agg #[ab 2,ab 4,ab 5]) (ab 2)).run Tryz.prog w=.ok (ab 5) w:=λ_=>by kernel_rfl
 have hb0:Below w.heap.size w (w.alloc (.cells #[.string x,ab 2,ab 4,ab 5] 339)):=(ah _ _).alloc (yF _) _;have zv:=hid hb0;have HC:Hid (DL w g 0 l):=hid hc;have HG:Hid (DT w):=hid hG;have HL:Hid (l.length=1+n):=hid hl;clear hc hG hl hb0
 go_loopw [1,9] (λv c wr=>∃(k m cap':Nat) (Nb:Option Addr),k<=2/\m<=cap'/\m<=4000/\cap'<=9223372036854775807/\c=ab k/\v=.slice Nb m cap'/\Hid (m+k=n)/\Hid (0<m->Nb=some (af g (1+k)))/\
   Hid (∀i,i<k->EB (if i=0 then 2 else 4) (nth l (1+i))=true)/\Hid (Below w.heap.size w wr)) (λ_ c _=>3 - (intOf c).toNat)
 case atStart=>exact⟨0,n,cap,ad,by omega,by omega,by omega,by omega,rfl,rfl,rfl,had,λi h=>by omega,zv⟩
 case round=>
  clear had zv;obtain⟨k,m,cap',Nb,hk3,hmc,Oz,hc6,rfl,rfl,hmk,had,hpre,hbr⟩:=hrel;have Tj:=HG.out.below hbr.out HG.out.size;have Fq:Hid (DT wr):=hid Tj;have HCr:Hid (DL wr g 0 l):=hid (HC.out.later hbr.out);clear Tj
  by_cases hk:k=2
  ·subst hk
   have HF:Hid (CY l=EZ l 3):=hid (rB Vo hpre.out);have Ef:=hs;have Dz:l.length<=4001:=by have:=HL.out;omega
   have hlm:l.length=3+m:=by have:=HL.out;have:=hmk.out;omega
   have HLM:Hid (l.length=3+m):=hid hlm;clear hlm hs
   go_wp2_with (go_at_call 230;refine(bV l _ g 3 m cap' _ HLM.out Dz Ef HCr.out had.out).mono ?_;rintro e w1 ⟨rfl,rfl⟩)
   go_ret;exact⟨BV HF.out,hbr.out⟩
  ·by_cases hm:m=0
   ·have hf:CY l=false:=by
     unfold CY NI;rw[fq Vo];rfl
    have HF:Hid (CY l=false):=hid hf;clear hf;have hk':k=0\/k=1:=by omega
    subst hm;clear hk
    rcases hk' with rfl |rfl
    all_goals
     go_wp2;go_ret;exact⟨BV HF.out,hbr.out⟩
   ·have aaG:=had.out (by omega)
    have hk':k=0\/k=1:=by omega
    have ck:wr.cell? (af g (1+k))=some (.string (nth l (1+k))):=by simpa using HCr.out.2 (1+k) Vo
    have hsk:=hs (1+k);subst aaG;clear hk hs
    rcases hk' with rfl |rfl
    ·cases hkb:EB 2 (nth l (1+0))
     ·have HF:Hid (CY l=false):=hid (YP (i:=0) (by omega) hkb)
      exact Ti
     ·have HP:Hid (∀i,i<0+1->EB (if i=0 then 2 else 4) (nth l (1+i))=true):=hid (EY hpre.out hkb)
      exact Mz2
    ·cases hkb:EB 4 (nth l (1+1))
     ·have HF:Hid (CY l=false):=hid (YP (i:=1) (by omega) hkb)
      exact Ti
     ·have HP:Hid (∀i,i<1+1->EB (if i=0 then 2 else 4) (nth l (1+i))=true):=hid (EY hpre.out hkb)
      exact Mz3
section
section
variable {w w1:World}{B gb:Nat}{G:Gr}{vT vS vN vR:Value}{pv:List Value}{S:List Nat}
theorem BE {k:Nat} (h:k∈v.ownBlock.toList):v.ownBlock=some k:=by
 cases hv:v.ownBlock with
 |none=>rw[hv]at h;simp at h
 |some g=>rw[hv]at h;simp at h;rw[h]
theorem J6 {u:Value} (h:w.ownsRow B e sz v n xs) (hk:A1 w w1 S) (hn:∀g,v.ownBlock=some g->g∉S) (hgb:∀g,v.ownBlock=some g->gb≠g):
  (w1.setCell (af gb j) u).ownsRow B e sz v n xs:=
 ue (A7 h hk hn) (λhg=>hgb gb hg rfl) u
theorem C2 {u:Value} (h:w1.ownsRow B e sz v n xs) (hb:w1.heap[gb]?=some (.cells cs t fr)) (hne:e≠t):
  (w1.setCell (af gb j) u).ownsRow B e sz v n xs:=
 ue h (A5 h hb hne) u
def RL (G:Gr) (bad:Bool):Int:=if 20<G.toks.length\/20<G.names.length\/60<G.rules.length then 4 else if bad then 4 else 0
theorem KS  (h:w.ownsRow B e sz v n xs):∀k,k∈v.ownBlock.toList->B<=k:=λk hk=>(h.lt k (BE hk)).1
end
theorem BB  (h:w.ownsRow B e sz v n xs):∃a c,v=.slice a n c:=by
 rcases h.2 with⟨rfl,rfl⟩ | ⟨g,cap,cur,rfl,_⟩
 ·exact⟨_,_,rfl⟩
 ·exact⟨_,_,rfl⟩
end
section
section
variable {w w1:World}{B gb rb g:Nat}{G:Gr}{l:List ByteArray}{nm:ByteArray}{R:List (ByteArray × List ByteArray)}{cur:List ByteArray}{vT vS vN vR:Value}{pv:List Value}{vP:Value}
end
def RR (nm:ByteArray) (st:List (ByteArray × List ByteArray) × List ByteArray × Bool) (x:ByteArray):List (ByteArray × List ByteArray) × List ByteArray × Bool:=
 if I5 x then(st.1++ [(nm,st.2.1)],[],st.2.2)else(st.1,st.2.1++ [x],st.2.2||decide (8<st.2.1.length+1))
def Nc (R:List (ByteArray × List ByteArray)) (nm:ByteArray) (l:List ByteArray):List (ByteArray × List ByteArray) × List ByteArray × Bool:=l.foldl (RR nm) (R,[],false)
end
end Go.Proofs.YtjjggdcnpndgjaaGreatDoor
