import Derived.Lib.AtoiAllCases
import Derived.Lib.AtoiTie
import Derived.Test.YtjjggdcnpndgjaaGreatDoorCJ1
import Derived.Test.YtjjggdcnpndgjaaGreatDoorShelf
import Derived.Deep.RegionHeld3
import Derived.Deep.AppendLies
import Derived.OneCell
import Derived.Deep.RegionWith
set_option linter.unusedSimpArgs false
set_option maxHeartbeats 1000000
set_option maxRecDepth 100000
namespace Go.Proofs.YtjjggdcnpndgjaaGreatDoor
abbrev ah:=@Go.RowKit.Below.refl
abbrev ak:=@Go.lt_of_block
abbrev dh:=@Nat.zero_le
abbrev dw:=@Go.RowKit.Below.heap_alloc
abbrev gm:=@List.drop_eq_getElem_cons
abbrev gz:=@Bool.and_eq_true
abbrev ij:=@List.flatMap_cons
abbrev ir:=@decide_eq_true_eq
abbrev je:=@Go.RowKit.Below.heap_setCell
abbrev jh:=@Go.World.cell?_of_block
abbrev jl:=@Go.ByteArray.toList_eq
abbrev jw:=@Array.getElem?_eq_getElem
abbrev kr:=@beq_iff_eq
abbrev mh:=@beq_eq_false_iff_ne
abbrev ow:=@Bool.eq_iff_iff
abbrev oy:=@Nat.mul_le_mul_right
abbrev pz:=@List.findIdx?_eq_some_iff_getElem
abbrev qg:=@Nat.pow_le_pow_right
abbrev tj:=@List.eq_nil_of_length_eq_zero
abbrev uf:=@Option.some.injEq
abbrev ur:=@Go.ownsRow_setCell_other
abbrev xu:=@List.all_cons
abbrev xx:=@Nat.eq_zero_or_pos
abbrev yH:=@Bool.true_and
abbrev yP:=@UInt8.toNat_inj
open Go.RowKit
variable {B b e g i j n sz t:Nat}{S:List Nat}{a w w':World}{cs:Array Value}{fr:Nat × Nat}{l:List ByteArray}{s:ByteArray}{v:Value}{xs:List Value}
section
open Go.Lib
theorem aO:∀(l:List UInt8) (acc:Nat),DP l 48 57=true->parseUint10 acc l=.range\/∃u,parseUint10 acc l=.ok u/\acc*10 ^l.length<=u:=by
 intro l
 induction l with
 |nil=>intro acc _;exact .inr ⟨acc,rfl,by simp⟩
 |cons c r ih=>
  intro acc hd;unfold DP at hd;simp only[xu,gz,ir]at hd;simp only[parseUint10];rw[ay ⟨by omega,by omega⟩]
  by_cases h1:1844674407370955162<=acc
  ·rw[ay h1];exact .inl rfl
  ·rw[aq h1]
   by_cases h2:18446744073709551616<=acc*10+(c.toNat - 48)
   ·rw[ay h2];exact .inl rfl
   ·rw[aq h2]
    rcases ih (acc*10+(c.toNat - 48)) (by unfold DP;exact hd.2)with h | ⟨u,h,hu⟩
    ·exact .inl h
    ·refine .inr ⟨u,h,zV ?_ hu⟩
     rw[lC,Nat.pow_succ,Nat.mul_comm (10 ^r.length) 10,<-Nat.mul_assoc];exact oy _ (by omega)
theorem oW (l:List UInt8) (hd:DP l 48 57=true) (hne:l≠ []) (h0:l.head?≠some 48):
  (atoiAll l=.range/\LG l=false)\/∃v,atoiAll l=.ok v/\LG l=decide (v<=99)/\(LG l=true->v=D5 l):=by
 cases l with
 |nil=>exact absurd rfl hne
 |cons c r=>
  have hc:48<=c.toNat/\c.toNat<=57:=by
   unfold DP at hd;simp only[xu,gz,ir]at hd;omega
  have hr:DP r 48 57=true:=by
   unfold DP at hd ⊢;simp only[xu,gz]at hd;exact hd.2
  have hc0:¬c.toNat=48:=λe=>h0 (by
   rw[List.head?_cons,uf,<-yP];exact e)
  have abk:LG (c::r)=decide (r.length<=1):=by
   unfold LG JG;rw[hd];have:((c::r).head?==some 48)=false:=by
    rw[mh];exact h0
   rw[this];simp only[lC,Bool.and_true,Bool.not_false];rw[iz (p:=1<=r.length+1) (by omega),yH]
   by_cases h:r.length<=1
   ·rw[iz h,iz (by omega)]
   ·rw[gy h,gy (by omega)]
  have ah9:parseMag (c::r)=parseUint10 (c.toNat - 48) r:=by
   unfold parseMag;rw[aq (by simp)];simp only[parseUint10];rw[ay hc,aq (by omega),aq (by omega)]
   congr 1
   omega
  rw[atoiAll_plain c r (by omega) (by omega),ah9,abk]
  match r,hr with
  | [],_=>
   right;simp only[parseUint10,signless];rw[aq (by omega)];exact⟨_,rfl,by rw[iz (by simp),iz (by omega)],λ_=>by simp[D5];omega⟩
  | [d],hr=>
   right;have hd':48<=d.toNat/\d.toNat<=57:=by
    unfold DP at hr;simp only[xu,gz,ir]at hr;omega
   simp only[parseUint10];rw[ay hd',aq (by omega),aq (by omega)];simp only[signless];rw[aq (by omega)];exact⟨_,rfl,by rw[iz (by simp),iz (by omega)],λ_=>by simp[D5];omega⟩
  |d::e::q,hr=>
   rcases aO (d::e::q) (c.toNat - 48) hr with h | ⟨u,h,hu⟩
   ·left
    rw[h];exact⟨rfl,by rw[gy (by simp)]⟩
   ·rw[h]
    simp only[signless];have h5:100<=u:=by
     refine zV ?_ hu;have h6:10 ^2<=10 ^(d::e::q).length:=qg (by omega) (by simp)
     calc 100=1*10 ^2:=by decide
      _<=(c.toNat - 48)*10 ^(d::e::q).length:=Nat.mul_le_mul (by omega) h6
    by_cases h7:9223372036854775808<=u
    ·rw[ay h7]
     exact .inl ⟨rfl,by rw[gy (by simp)]⟩
    ·rw[aq h7]
     exact .inr ⟨_,rfl,by rw[gy (by simp),gy (by omega)],λh=>by simp at h⟩
end
theorem CQ {a b:Bool} (h:a=b):Ending.returned (.bool b)=.returned (.bool a):=by rw[h]
theorem LJ (s:ByteArray) (lo hi:Int) (w:World) (hs:s.size<=9223372036854775807):
  Calls Tryz.prog 225 #[.string s,.int .u8 lo,.int .u8 hi] w λe w'=>e=.returned (.bool (DP s.data.toList lo hi&& !s.toList.isEmpty))/\w=w':=by
 go_enter Tryz.func225,Tryz.ntmps225
 go_wp2
 go_loop [10] (λi=>∃k:Nat,k<=s.size/\i=ab k/\Hid (DP (s.data.toList.take k) lo hi=true)) (λi=>s.size - (intOf i).toNat)
 case atStart=>exact⟨0,dh _,rfl,by show _=_;simp[DP]⟩
 case round=>
  obtain⟨k,hk,rfl,hall⟩:=hrel
  by_cases hlt:k<s.size
  ·go_wp2
   ·go_ret
    exact⟨CQ (by rw[V9 hlt (by assumption)];rfl),rfl⟩
   ·go_round
    case rel=>exact⟨k+1,by omega,by go_num,kL hlt hall.out (by assumption)⟩
    case measure=>simp[intOf];omega
   ·go_ret
    exact⟨CQ (by rw[V9 hlt (.inl (by assumption))];rfl),rfl⟩
  ·go_wp2
   go_ret;exact⟨CQ (by rw[j4 hlt hall.out];rfl),rfl⟩
structure E2 (w:World):Prop where
 size:9<=w.heap.size
 max:∃m,w.cell? (af 2 0)=some (ab m)
 rng:∃te pe,w.cell? (af 4 0)=some (.iface te pe)
 shapes:∃t fr,w.heap[0]?=some (.cells #[.string ⟨#[116,111,107,101,110]⟩,ab 1,ab 3,ab 3,.string ⟨#[115,119,97,112]⟩,ab 1,ab 1,ab 3,.string ⟨#[114,117,108,101]⟩,ab 2,ab 4,ab 5] t fr)
theorem E2.below  (h:E2 w)  (hb:Below B w w') (hB:9<=B):E2 w' where
 size:=zV h.size hb.size
 max:=by obtain⟨m,hm⟩:=h.max;exact⟨m,(hb.cell (show 2<B by omega)).trans hm⟩
 rng:=by obtain⟨te,pe,hm⟩:=h.rng;exact⟨te,pe,(hb.cell (show 4<B by omega)).trans hm⟩
 shapes:=by obtain⟨t,fr,hm⟩:=h.shapes;exact⟨t,fr,(hb.block 0 (by omega)).trans hm⟩
theorem sJ  (h:(DP s.data.toList 48 57&& !s.toList.isEmpty)=false):DS s=false:=by
 have hlen:s.data.toList.length=s.size:=by simp
 have e1:s.toList=s.data.toList:=jl s;unfold DS LG JG;rw[e1]at h;cases ha:DP s.data.toList 48 57
 ·simp
 ·rw[ha]at h
  have:s.data.toList=[]:=by simpa using h
  rw[this];rfl
theorem NR (s:ByteArray) (w:World) (hG:E2 w) (hs:s.size<=4000):
  Calls Tryz.prog 200 #[.string s] w λe w'=>(∃n,e=.returned (.tuple #[ab n,.bool (DS s)])/\(DS s=true->n=D5 s.data.toList))/\Below w.heap.size w w':=by
 have HG:Hid (E2 w):=hid hG;clear hG;cases h1:(DP s.data.toList 48 57&& !s.toList.isEmpty)
 ·rw[sJ h1]
  go_enter Tryz.func200,Tryz.ntmps200
  go_wp2_with (go_at_call 225;refine(LJ _ _ _ _ (by omega)).mono ?_;rintro e w' ⟨rfl,rfl⟩;rw[h1])
  go_ret2
  exact⟨⟨_,rfl,λh=>by cases h⟩,ah _ _⟩
 ·have hpos:0<s.size:=by
   rcases xx s.size with h |h
   ·exfalso
    have:s.data.toList=[]:=tj Lx;rw[jl s,this]at h1;simp at h1
   ·exact h
  have hall:DP s.data.toList 48 57=true:=by simp only[gz]at h1;exact h1.1
  have Yq:s.data.toList.head?=some s[0]:=by
   rw[List.head?_eq_getElem?,gE (by simpa using hpos)];rfl
  cases h2:((s[0].toNat:Int)==48)
  ·have hne:s.data.toList.head?≠some 48:=by
    rw[Yq];intro e;injection e with e
    rw[e]at h2;exact absurd h2 (by decide)
   have hnil:s.data.toList≠ []:=by
    intro e;rw[e]at Yq;cases Yq
   rcases oW s.data.toList hall hnil hne with⟨ha,hc⟩ | ⟨v,ha,hc,hval⟩
   ·obtain⟨te,pe,hv⟩:=HG.out.rng
    have hn:DS s=false:=hc;rw[hn];have cA:=λW hW=>Tryz.strconv_Atoi_range s (by omega) ha (.iface te pe) W hW (.inr ⟨te,pe,rfl⟩)
    have CA:=hid cA;clear cA ha hc hn hall Yq hne hnil
    go_enter Tryz.func200,Tryz.ntmps200
    go_wp2_with (first
     | (go_at_call 225;refine(LJ _ _ _ _ (by omega)).mono ?_;rintro e w' ⟨rfl,rfl⟩;rw[h1])
     | (go_at_call 226;refine(CA.out _ hv).mono ?_;rintro e w1 ⟨N,rfl,_,_,hb⟩))
    go_ret2
    exact⟨⟨_,rfl,λh=>by cases h⟩,hb⟩
   ·have hn:DS s=decide (v<=99):=hc
    have aia:Hid (decide (v<=99)=true->v=D5 s.data.toList):=hid (λh=>hval (hc.trans h));rw[hn];have cA:=λW=>Tryz.strconv_Atoi_ok s (by omega) v ha W
    have CA:=hid cA;have hvb:=Lib.atoiAll_bounds ha;clear cA ha hc hn hall Yq hne hnil hval
    go_enter Tryz.func200,Tryz.ntmps200
    go_wp2_with (first
     | (go_at_call 225;refine(LJ _ _ _ _ (by omega)).mono ?_;rintro e w' ⟨rfl,rfl⟩;rw[h1])
     | (go_at_call 226;refine(CA.out _).mono ?_;rintro e w1 ⟨rfl,hb⟩))
    go_ret2
    refine⟨⟨_,rfl,aia.out⟩,?_⟩
    rcases hb with hb | ⟨t,hb⟩
    ·rw[hb];exact ah _ _
    ·rw[hb];exact Lib.bytesWorld_below _ _ _
  ·have hn:DS s=false:=by
    unfold DS LG;have:(s.data.toList.head?==some 48)=true:=by
     rw[Yq,kr,uf,<-yP];rw[kr]at h2;show s[0].toNat=48;omega
    rw[this];simp
   rw[hn];clear Yq hn
   go_enter Tryz.func200,Tryz.ntmps200
   go_wp2_with (go_at_call 225;refine(LJ _ _ _ _ (by omega)).mono ?_;rintro e w' ⟨rfl,rfl⟩;rw[h1])
   go_ret2
   exact⟨⟨_,rfl,λh=>by cases h⟩,ah _ _⟩
section
structure A5 (w w':World) (S:List Nat):Prop where
 os:w'.os=w.os
 tape:w'.tape=w.tape
 output:w'.output=w.output
 size:w.heap.size<=w'.heap.size
 block:∀k,k<w.heap.size->k∉S->w'.heap[k]?=w.heap[k]?
theorem A5.refl (w:World) (S:List Nat):A5 w w S:=⟨rfl,rfl,rfl,zn _,λ_ _ _=>rfl⟩
theorem A5.trans {b c:World} (h:A5 a b S) (k:A5 b c S):A5 a c S:=
 ⟨k.os.trans h.os,k.tape.trans h.tape,k.output.trans h.output,zV h.size k.size,λi hi hn=>(k.block i (lL hi h.size) hn).trans (h.block i hi hn)⟩
theorem A5.mono {T:List Nat} (h:A5 w w' S) (hs:∀k,k∈S->k∈T):A5 w w' T:=⟨h.os,h.tape,h.output,h.size,λk hk hn=>h.block k hk λhm=>hn (hs k hm)⟩
theorem A5.drew  (h:A5 a w S):A5 a w.drew S:=⟨h.os,h.tape,h.output,h.size,h.block⟩
theorem A5.alloc  (h:A5 a w S) (o:Obj):A5 a (w.alloc o) S:=
 h.trans ⟨rfl,rfl,rfl,by simp,λk hk _=>dw _ _ _ hk⟩
theorem A5.setCell  (h:A5 a w S) {p:Addr} (hp:p.block∈S) (u:Value):A5 a (w.setCell p u) S:=
 h.trans ⟨rfl,rfl,rfl,by simp[World.setCell],λk _ hn=>je _ _ _ _ (λe=>hn (e▸hp))⟩
theorem A5.grown {row:Option Nat} (h:A5 a w S) (hg:w.grownBy w' row) (hr:∀k,row=some k->k∈S\/a.heap.size<=k):A5 a w' S:=
 ⟨hg.os.trans h.os,hg.tape.trans h.tape,hg.output.trans h.output,zV h.size hg.size,λk hk hn=>by
  rw[hg.block k (lL hk h.size) (λe=>by rcases hr k e.symm with h1 |h1;exact hn h1;omega)];exact h.block k hk hn⟩
theorem A5.below  (h:A5 w w' S) (hB:B<=w.heap.size) (hs:∀k,k∈S->B<=k):Below B w w':=
 ⟨h.os,h.tape,h.output,h.size,λk hk=>h.block k (by omega) (λhm=>by have:=hs k hm;omega)⟩
theorem A5.zQ  (h:Below w.heap.size w w') (S:List Nat):A5 w w' S:=⟨h.os,h.tape,h.output,h.size,λk hk _=>h.block k hk⟩
theorem A5.cell  (h:A5 w w' S) {p:Addr} (hp:p.block<w.heap.size) (hn:p.block∉S):w'.cell? p=w.cell? p:=jh (w:=w) (h.block p.block hp hn)
section
variable {w w':World}{S:List Nat}{B e sz n:Nat}{v:Value}{xs:List Value}
theorem BQ (h:w.ownsRow B e sz v n xs)  (hg:v.ownBlock=some g):∃c,w.heap[g]?=some (.cells c e (0,0)):=by
 rcases h.2 with⟨rfl,_⟩ | ⟨g',cap,cur,rfl,_,hh,_⟩
 ·simp[Value.ownBlock]at hg
 ·simp[Value.ownBlock]at hg;subst hg;exact⟨cur,hh⟩
theorem D8 (h:w.ownsRow B e sz v n xs)  (hg:v.ownBlock=some g):g<w.heap.size:=(h.lt g hg).2
theorem AC (h:w.ownsRow B e sz v n xs) (hk:A5 w w' S) (hn:∀g,v.ownBlock=some g->g∉S):w'.ownsRow B e sz v n xs:=by
 obtain⟨h1,h2⟩:=h;refine⟨h1,?_⟩
 rcases h2 with h2 | ⟨g,cap,cur,hv,hg,hh,r⟩
 ·exact .inl h2
 ·subst hv
  exact .inr ⟨g,cap,cur,rfl,hg,by rw[hk.block g (ak hh) (hn g rfl)];exact hh,r⟩
theorem GQ {B' e' sz' n':Nat}{v':Value}{xs':List Value} (h:w.ownsRow B e sz v n xs) (h':w.ownsRow B' e' sz' v' n' xs') (hne:e≠e')  (hg:v.ownBlock=some g):v'.ownBlock≠some g:=by
 intro hg';obtain⟨c,hc⟩:=BQ h hg;obtain⟨c',hc'⟩:=BQ h' hg';rw[hc]at hc';injection hc' with hc'
 injection hc' with _ he
 exact hne he
theorem A9 (h:w.ownsRow B e sz v n xs)  (hb:w.heap[b]?=some (.cells cs t fr)) (hne:e≠t):v.ownBlock≠some b:=by
 intro hg;obtain⟨c,hc⟩:=BQ h hg;rw[hc]at hb;injection hb with hb
 injection hb with _ he
 exact hne he
theorem AA  (hb:w.heap[b]?=some (.cells cs t fr)) (u:Value):(w.setCell (af b j) u).heap[b]?=some (.cells (cs.setIfInBounds j u) t fr):=by
 have hlt:=ak hb;have h':w.heap[b]=.cells cs t fr:=by simpa[jw hlt] using hb
 show(w.heap.modify b _)[b]?=_;rw[jw (by simpa using hlt),Array.getElem_modify_self,h'];rfl
theorem A0  (hb:w.heap[b]?=some (.cells cs t fr)):w.cell? (af b j)=cs[j]?:=by simp[World.cell?,hb]
theorem A7  (hb:w.heap[b]?=some (.cells cs t (0,0))):w.frozen? (af b j)=false:=by simp[World.frozen?,hb]
end
end
theorem Mz6 {P:Prop} (h:P:=by
  rw[jl,hlen];cases h:s.data.toList with
  |nil=>rw[h]at hlen;rw[gy (p:=1<=s.size) (by simp at hlen;omega)];simp
  |cons a r=>rw[h]at hlen;rw[iz (p:=1<=s.size) (by simp at hlen;omega)];simp):P:=h
theorem gZ (s:ByteArray):DZ s=(decide ((s.size:Int)<=8)&&(DP s.data.toList 97 122&& !s.toList.isEmpty)):=by
 have hlen:s.data.toList.length=s.size:=by simp
 unfold DZ JG;exact Mz6
theorem dS (s:ByteArray):I1 s=(decide ((s.size:Int)<=8)&&(DP s.data.toList 65 90&& !s.toList.isEmpty)):=by
 have hlen:s.data.toList.length=s.size:=by simp
 unfold I1 JG;exact Mz6
theorem ZL (s:ByteArray) (w:World) (hs:s.size<=4000):
  Calls Tryz.prog 231 #[ab 1,.string s] w λe w'=>e=.returned (.bool (DZ s))/\w=w':=by
 by_cases h8:s.size<=8
 ·rw[gZ,iz (by omega),yH]
  go_enter Tryz.func231,Tryz.ntmps231
  go_wp2_with (go_at_call 225;refine(LJ _ _ _ _ (by omega)).mono ?_;rintro e w' ⟨rfl,rfl⟩)
  go_ret;exact⟨rfl,rfl⟩
 ·rw[gZ,gy (by omega),Bool.false_and]
  go_enter Tryz.func231,Tryz.ntmps231
  go_wp2;go_ret;exact⟨rfl,rfl⟩
theorem ZP (s:ByteArray) (w:World) (hs:s.size<=4000):
  Calls Tryz.prog 231 #[ab 2,.string s] w λe w'=>e=.returned (.bool (I1 s))/\w=w':=by
 by_cases h8:s.size<=8
 ·rw[dS,iz (by omega),yH]
  go_enter Tryz.func231,Tryz.ntmps231
  go_wp2_with (go_at_call 225;refine(LJ _ _ _ _ (by omega)).mono ?_;rintro e w' ⟨rfl,rfl⟩)
  go_ret;exact⟨rfl,rfl⟩
 ·rw[dS,gy (by omega),Bool.false_and]
  go_enter Tryz.func231,Tryz.ntmps231
  go_wp2;go_ret;exact⟨rfl,rfl⟩
theorem j6 (s:ByteArray) (w:World) (hG:E2 w) (hs:s.size<=4000):
  Calls Tryz.prog 231 #[ab 3,.string s] w λe w'=>e=.returned (.bool (DS s))/\Below w.heap.size w w':=by
 have HG:Hid (E2 w):=hid hG;clear hG
 go_enter Tryz.func231,Tryz.ntmps231
 go_wp2_with (go_at_call 200;refine(NR _ _ HG.out hs).mono ?_;rintro e w1 ⟨⟨n,rfl,_⟩,hb⟩)
 go_ret;exact⟨rfl,hb⟩
theorem lO (s:ByteArray) (w:World):
  Calls Tryz.prog 231 #[ab 4,.string s] w λe w'=>e=.returned (.bool (s.toList== [61]))/\w=w':=by
 go_enter Tryz.func231,Tryz.ntmps231
 go_wp2;go_ret;exact⟨rfl,rfl⟩
def F9 (l:List ByteArray) (j:Nat):Bool:=(l.drop j).all NL
theorem sE {p:ByteArray->Bool} (hj:j<l.length):(l.drop j).all p=(p (nth l j)&&(l.drop (j+1)).all p):=by
 rw[gm hj,xu];unfold nth;rw[Af,gE hj];rfl
theorem dN (l:List ByteArray) (ad:Option Addr) (g j n cap:Nat) (w:World) (hl:l.length=j+n) (hn:l.length<=4001) (hs:∀i,(nth l i).size<=4000) (hc:DV w g 0 l) (had:0<n->ad=some (af g j)):
  Calls Tryz.prog 230 #[.slice ad n cap] w λe w'=>e=.returned (.bool (F9 l j))/\w=w':=by
 have HC:Hid (DV w g 0 l):=hid hc;have HL:Hid (l.length=j+n):=hid hl;have hn2:n<=4001:=by omega
 rcases xx n with h0 |h0
 ·have HE:Hid (F9 l j=true):=hid (by unfold F9;rw[oc (by omega)];rfl)
  subst h0;clear hc hl had
  go_enter Tryz.func230,Tryz.ntmps230
  go_wp2;refine wp_loop_rounds 1 ?_;rw[rounds_succ];go_wp2;go_ret;exact⟨CQ HE.out,rfl⟩
 ·have e:=had h0
  subst e;clear hc hl had
  go_enter Tryz.func230,Tryz.ntmps230
  go_wp2
  go_loop [7] (λi=>∃k:Nat,k<=n/\i=ab k/\Hid (F9 l j=F9 l (j+k))) (λi=>n - (intOf i).toNat)
  case atStart=>exact⟨0,dh _,rfl,rfl⟩
  case round=>
   obtain⟨k,hk,rfl,hall⟩:=hrel
   by_cases hlt:k<n
   ·have ck:w.cell? (af g (j+k))=some (.string (nth l (j+k))):=by simpa using HC.out.2 (j+k) Yo
    have hsk:=hs (j+k);have HP:Hid (F9 l j=(NL (nth l (j+k))&&F9 l (j+k+1))):=hid (by rw[hall.out];unfold F9;exact sE Yo);obtain⟨x,hx⟩:=qF (nth l (j+k));rw[<-hx]at ck hsk HP;clear hx hall hs;cases hp:(x.toList== [124]) <;> cases Km:DZ x <;> cases Fw:I1 x
    all_goals
     go_wp2_with (first | (go_at_call_of 231 (Value.int .i64 1);refine(ZL _ _ hsk).mono ?_;rintro e w' ⟨rfl,rfl⟩;rw[Km]) | (go_at_call_of 231 (Value.int .i64 2);refine(ZP _ _ hsk).mono ?_;rintro e w' ⟨rfl,rfl⟩;rw[Fw]))
    ·go_ret
     exact⟨CQ (by rw[HP.out];unfold NL IL;rw[hp,Km,Fw];rfl),rfl⟩
    all_goals
     go_round
     case rel=>exact⟨k+1,by omega,by go_num,by rw[HP.out];unfold NL IL;rw[hp,Km,Fw];rfl⟩
     case measure=>simp[intOf];omega
   ·have HE:Hid (F9 l j=true):=hid (by rw[hall.out];unfold F9;rw[oc Yo];rfl)
    go_wp2;go_ret;exact⟨CQ HE.out,rfl⟩
section
structure Gr where
 toks:List (ByteArray × Int × Int)
 Yr:List (ByteArray × ByteArray × Int)
 names:List ByteArray
 rules:List (ByteArray × List ByteArray)
section
variable {w:World}{B gb:Nat}{G:Gr}{vT vS vN vR:Value}{pv:List Value}
end
theorem Mz5 {P:Prop} (h:P:=by
  intro l
  induction l with
  |nil=>intro i a j h;simp at h
  |cons x r ih=>
   intro i a j h hj;rw[ij]
   match i with
   |0=>
    simp at h;subst h;rw[aL abj]
    congr 1;omega
   |i+1=>
    simp at h;rw[Bc abj,hf];rw[<-ih i a j h hj]
    congr 1;omega):P:=h
theorem xT {α:Type} (f:α->List Value) (hf:∀a,(f a).length=3):∀(l:List α) (i:Nat) (a:α) (j:Nat),l[i]?=some a->j<3->(l.flatMap f)[i*3+j]?=(f a)[j]?:=by
 exact Mz5
theorem SL {α:Type} (f:α->List Value) (hf:∀a,(f a).length=2):∀(l:List α) (i:Nat) (a:α) (j:Nat),l[i]?=some a->j<2->(l.flatMap f)[i*2+j]?=(f a)[j]?:=by
 exact Mz5
def DC (l:List (ByteArray × Int × Int)) (w:ByteArray):Bool:=l.any λt=>t.1.toList==w.toList
def D0 (l:List ByteArray) (w:ByteArray):Bool:=l.any λt=>t.toList==w.toList
def rT (G:Gr) (x:ByteArray):Bool:= !IL x&&(!DC G.toks x&& !D0 G.names x)
def FZ (G:Gr) (l:List ByteArray):Bool:=
 if(nth l 0).toList== [115,119,97,112]then(!DC G.toks (nth l 1)||(!DC G.toks (nth l 2)||((nth l 1).toList==(nth l 2).toList)))
 else if(nth l 0).toList== [114,117,108,101]then(l.drop 3).any (rT G)else false
theorem F8 {p:Nat->Prop}{k:Nat} (h:∀j,j<k->p j) (hk:p k):∀j,j<k+1->p j:=by
 intro j hj
 by_cases e:j=k
 ·subst e;exact hk
 ·exact h j (by omega)
end
def ER (k:Int) (s:ByteArray):Bool:=if k=1 then DZ s else if k=2 then I1 s else if k=3 then DS s else s.toList== [61]
theorem FL (k:Int) (s:ByteArray) (w:World) (hk:k=1\/k=2\/k=3\/k=4) (hG:E2 w) (hs:s.size<=4000):
  Calls Tryz.prog 231 #[ab k,.string s] w λe w'=>e=.returned (.bool (ER k s))/\Below w.heap.size w w':=by
 rcases hk with rfl |rfl |rfl |rfl
 ·exact(ZL s w hs).mono λe w' h=>⟨h.1,by rw[<-h.2];exact ah _ _⟩
 ·exact(ZP s w hs).mono λe w' h=>⟨h.1,by rw[<-h.2];exact ah _ _⟩
 ·exact j6 s w hG hs
 ·exact(lO s w).mono λe w' h=>⟨h.1,by rw[<-h.2];exact ah _ _⟩
theorem U1  (hi:i<3) (h:ER (if i=0 then 1 else 3) (nth l (1+i))=false):DF l=false:=by
 have h':i=0\/i=1\/i=2:=by omega
 unfold DF
 rcases h' with rfl |rfl |rfl
 ·have h2:DZ (nth l 1)=false:=h
  rw[h2];simp
 ·have h2:DS (nth l 2)=false:=h
  rw[h2];simp
 ·have h2:DS (nth l 3)=false:=h
  rw[h2];simp
theorem tY  (h:∀i,i<3->ER (if i=0 then 1 else 3) (nth l (1+i))=true):DF l=decide (l.length=4):=by
 unfold DF;have h1:DZ (nth l 1)=true:=h 0 (by omega);have h2:DS (nth l 2)=true:=h 1 (by omega);have h3:DS (nth l 3)=true:=h 2 (by omega);rw[h1,h2,h3];simp
theorem Vt {P:Prop} (h:P:=by
  go_wp2_with (go_at_call 231;refine(FL _ _ _ (by omega) Hx.out hsk).mono ?_;rintro e w1 ⟨rfl,hb⟩;rw[hkb])
  go_ret;exact⟨CQ HF.out,hbr.out.trans (hb.mono hbr.out.size)⟩):P:=h
theorem Mz2 {P:Prop} (h:P:=by
  go_wp2_with (go_at_call 231;refine(FL _ _ _ (by omega) Hx.out hsk).mono ?_;rintro e w1 ⟨rfl,hb⟩;rw[hkb])
  go_roundw
  case rel=>exact⟨0+1,m - 1,cap' - 1,_,by omega,by omega,by omega,by omega,by go_num,rfl,hid (by have:=hmk.out;omega),hid (λh=>by rw[aq (by omega)]),HP,hid (hbr.out.trans (hb.mono hbr.out.size))⟩
  case measure=>simp[intOf]):P:=h
theorem Mz3 {P:Prop} (h:P:=by
  go_wp2_with (go_at_call 231;refine(FL _ _ _ (by omega) Hx.out hsk).mono ?_;rintro e w1 ⟨rfl,hb⟩;rw[hkb])
  go_roundw
  case rel=>exact⟨1+1,m - 1,cap' - 1,_,by omega,by omega,by omega,by omega,by go_num,rfl,hid (by have:=hmk.out;omega),hid (λh=>by rw[aq (by omega)]),HP,hid (hbr.out.trans (hb.mono hbr.out.size))⟩
  case measure=>simp[intOf]):P:=h
theorem Mz4 {P:Prop} (h:P:=by
  go_wp2_with (go_at_call 231;refine(FL _ _ _ (by omega) Hx.out hsk).mono ?_;rintro e w1 ⟨rfl,hb⟩;rw[hkb])
  go_roundw
  case rel=>exact⟨2+1,m - 1,cap' - 1,_,by omega,by omega,by omega,by omega,by go_num,rfl,hid (by have:=hmk.out;omega),hid (λh=>by rw[aq (by omega)]),HP,hid (hbr.out.trans (hb.mono hbr.out.size))⟩
  case measure=>simp[intOf]):P:=h
theorem rI (l:List ByteArray) (ad:Option Addr) (g n cap:Nat) (x:ByteArray) (w:World) (hG:E2 w) (hl:l.length=1+n) (hn:n<=4000) (hnc:n<=cap) (hcap:cap<=9223372036854775807) (hs:∀i,(nth l i).size<=4000) (hc:DV w g 0 l) (had:0<n->ad=some (af g 1)):
  Calls Tryz.prog 209 #[.agg #[.string x,ab 1,ab 3,ab 3],.slice ad n cap] w λe w'=>e=.returned (.bool (DF l))/\Below w.heap.size w w':=by
 go_enter Tryz.func209,Tryz.ntmps209
 go_wp2;have i0:∀w,(Instr.index 337 (.agg #[ab 1,ab 3,ab 3]) (ab 0)).run Tryz.prog w=.ok (ab 1) w:=λ_=>by kernel_rfl
 have i1:∀w,(Instr.index 337 (.agg #[ab 1,ab 3,ab 3]) (ab 1)).run Tryz.prog w=.ok (ab 3) w:=λ_=>by kernel_rfl
 have i2:∀w,(Instr.index 337 (.agg #[ab 1,ab 3,ab 3]) (ab 2)).run Tryz.prog w=.ok (ab 3) w:=λ_=>by kernel_rfl
 have hb0:Below w.heap.size w (w.alloc (.cells #[.string x,ab 1,ab 3,ab 3] 339)):=(ah _ _).alloc (zn _) _;have Ah:=hid hb0;have HC:Hid (DV w g 0 l):=hid hc;have HG:Hid (E2 w):=hid hG;have HL:Hid (l.length=1+n):=hid hl;clear hc hG hl hb0
 go_loopw [1,9] (λv c wr=>∃(k m cap':Nat) (Pa:Option Addr),k<=3/\m<=cap'/\m<=4000/\cap'<=9223372036854775807/\c=ab k/\v=.slice Pa m cap'/\Hid (m+k=n)/\Hid (0<m->Pa=some (af g (1+k)))/\
   Hid (∀i,i<k->ER (if i=0 then 1 else 3) (nth l (1+i))=true)/\Hid (Below w.heap.size w wr)) (λ_ c _=>3 - (intOf c).toNat)
 case atStart=>exact⟨0,n,cap,ad,by omega,by omega,by omega,by omega,rfl,rfl,rfl,had,λi h=>by omega,Ah⟩
 case round=>
  clear had Ah;obtain⟨k,m,cap',Pa,hk3,hmc,Qz,hc6,rfl,rfl,hmk,had,hpre,hbr⟩:=hrel;have Vu:=HG.out.below hbr.out HG.out.size;have Hx:Hid (E2 wr):=hid Vu;have HCr:Hid (DV wr g 0 l):=hid (HC.out.later hbr.out);clear Vu
  by_cases hk:k=3
  ·subst hk
   have HF:Hid (DF l=decide (l.length=4)):=hid (tY hpre.out);go_wp2;go_ret;refine⟨CQ ?_,hbr.out⟩;rw[HF.out,ow];simp only[ir,kr];have:=HL.out;have:=hmk.out;omega
  ·by_cases hm:m=0
   ·have hf:DF l=false:=by
     unfold DF;rw[gy Yn];rfl
    have HF:Hid (DF l=false):=hid hf;clear hf;have hk':k=0\/k=1\/k=2:=by omega
    subst hm;clear hk
    rcases hk' with rfl |rfl |rfl
    all_goals
     go_wp2;go_ret;exact⟨CQ HF.out,hbr.out⟩
   ·have abl:=had.out (by omega)
    have hk':k=0\/k=1\/k=2:=by omega
    have ck:wr.cell? (af g (1+k))=some (.string (nth l (1+k))):=by simpa using HCr.out.2 (1+k) Yn
    have hsk:=hs (1+k);subst abl;clear hk hs
    rcases hk' with rfl |rfl |rfl
    ·cases hkb:ER 1 (nth l (1+0))
     ·have HF:Hid (DF l=false):=hid (U1 (i:=0) (by omega) hkb)
      exact Vt
     ·have HP:Hid (∀i,i<0+1->ER (if i=0 then 1 else 3) (nth l (1+i))=true):=hid (F8 hpre.out hkb)
      exact Mz2
    ·cases hkb:ER 3 (nth l (1+1))
     ·have HF:Hid (DF l=false):=hid (U1 (i:=1) (by omega) hkb)
      exact Vt
     ·have HP:Hid (∀i,i<1+1->ER (if i=0 then 1 else 3) (nth l (1+i))=true):=hid (F8 hpre.out hkb)
      exact Mz3
    ·cases hkb:ER 3 (nth l (1+2))
     ·have HF:Hid (DF l=false):=hid (U1 (i:=2) (by omega) hkb)
      exact Vt
     ·have HP:Hid (∀i,i<2+1->ER (if i=0 then 1 else 3) (nth l (1+i))=true):=hid (F8 hpre.out hkb)
      exact Mz4
theorem TT  (hi:i<3) (h:ER (if i=2 then 3 else 1) (nth l (1+i))=false):C0 l=false:=by
 have h':i=0\/i=1\/i=2:=by omega
 unfold C0
 rcases h' with rfl |rfl |rfl
 ·have h2:DZ (nth l 1)=false:=h
  rw[h2];simp
 ·have h2:DZ (nth l 2)=false:=h
  rw[h2];simp
 ·have h2:DS (nth l 3)=false:=h
  rw[h2];simp
theorem vG  (h:∀i,i<3->ER (if i=2 then 3 else 1) (nth l (1+i))=true):C0 l=decide (l.length=4):=by
 unfold C0;have h1:DZ (nth l 1)=true:=h 0 (by omega);have h2:DZ (nth l 2)=true:=h 1 (by omega);have h3:DS (nth l 3)=true:=h 2 (by omega);rw[h1,h2,h3];simp
theorem oX (l:List ByteArray) (ad:Option Addr) (g n cap:Nat) (x:ByteArray) (w:World) (hG:E2 w) (hl:l.length=1+n) (hn:n<=4000) (hnc:n<=cap) (hcap:cap<=9223372036854775807) (hs:∀i,(nth l i).size<=4000) (hc:DV w g 0 l) (had:0<n->ad=some (af g 1)):
  Calls Tryz.prog 209 #[.agg #[.string x,ab 1,ab 1,ab 3],.slice ad n cap] w λe w'=>e=.returned (.bool (C0 l))/\Below w.heap.size w w':=by
 go_enter Tryz.func209,Tryz.ntmps209
 go_wp2;have i0:∀w,(Instr.index 337 (.agg #[ab 1,ab 1,ab 3]) (ab 0)).run Tryz.prog w=.ok (ab 1) w:=λ_=>by kernel_rfl
 have i1:∀w,(Instr.index 337 (.agg #[ab 1,ab 1,ab 3]) (ab 1)).run Tryz.prog w=.ok (ab 1) w:=λ_=>by kernel_rfl
 have i2:∀w,(Instr.index 337 (.agg #[ab 1,ab 1,ab 3]) (ab 2)).run Tryz.prog w=.ok (ab 3) w:=λ_=>by kernel_rfl
 have hb0:Below w.heap.size w (w.alloc (.cells #[.string x,ab 1,ab 1,ab 3] 339)):=(ah _ _).alloc (zn _) _;have Ah:=hid hb0;have HC:Hid (DV w g 0 l):=hid hc;have HG:Hid (E2 w):=hid hG;have HL:Hid (l.length=1+n):=hid hl;clear hc hG hl hb0
 go_loopw [1,9] (λv c wr=>∃(k m cap':Nat) (Pa:Option Addr),k<=3/\m<=cap'/\m<=4000/\cap'<=9223372036854775807/\c=ab k/\v=.slice Pa m cap'/\Hid (m+k=n)/\Hid (0<m->Pa=some (af g (1+k)))/\
   Hid (∀i,i<k->ER (if i=2 then 3 else 1) (nth l (1+i))=true)/\Hid (Below w.heap.size w wr)) (λ_ c _=>3 - (intOf c).toNat)
 case atStart=>exact⟨0,n,cap,ad,by omega,by omega,by omega,by omega,rfl,rfl,rfl,had,λi h=>by omega,Ah⟩
 case round=>
  clear had Ah;obtain⟨k,m,cap',Pa,hk3,hmc,Qz,hc6,rfl,rfl,hmk,had,hpre,hbr⟩:=hrel;have Vu:=HG.out.below hbr.out HG.out.size;have Hx:Hid (E2 wr):=hid Vu;have HCr:Hid (DV wr g 0 l):=hid (HC.out.later hbr.out);clear Vu
  by_cases hk:k=3
  ·subst hk
   have HF:Hid (C0 l=decide (l.length=4)):=hid (vG hpre.out);go_wp2;go_ret;refine⟨CQ ?_,hbr.out⟩;rw[HF.out,ow];simp only[ir,kr];have:=HL.out;have:=hmk.out;omega
  ·by_cases hm:m=0
   ·have hf:C0 l=false:=by
     unfold C0;rw[gy Yn];rfl
    have HF:Hid (C0 l=false):=hid hf;clear hf;have hk':k=0\/k=1\/k=2:=by omega
    subst hm;clear hk
    rcases hk' with rfl |rfl |rfl
    all_goals
     go_wp2;go_ret;exact⟨CQ HF.out,hbr.out⟩
   ·have abl:=had.out (by omega)
    have hk':k=0\/k=1\/k=2:=by omega
    have ck:wr.cell? (af g (1+k))=some (.string (nth l (1+k))):=by simpa using HCr.out.2 (1+k) Yn
    have hsk:=hs (1+k);subst abl;clear hk hs
    rcases hk' with rfl |rfl |rfl
    ·cases hkb:ER 1 (nth l (1+0))
     ·have HF:Hid (C0 l=false):=hid (TT (i:=0) (by omega) hkb)
      exact Vt
     ·have HP:Hid (∀i,i<0+1->ER (if i=2 then 3 else 1) (nth l (1+i))=true):=hid (F8 hpre.out hkb)
      exact Mz2
    ·cases hkb:ER 1 (nth l (1+1))
     ·have HF:Hid (C0 l=false):=hid (TT (i:=1) (by omega) hkb)
      exact Vt
     ·have HP:Hid (∀i,i<1+1->ER (if i=2 then 3 else 1) (nth l (1+i))=true):=hid (F8 hpre.out hkb)
      exact Mz3
    ·cases hkb:ER 3 (nth l (1+2))
     ·have HF:Hid (C0 l=false):=hid (TT (i:=2) (by omega) hkb)
      exact Vt
     ·have HP:Hid (∀i,i<2+1->ER (if i=2 then 3 else 1) (nth l (1+i))=true):=hid (F8 hpre.out hkb)
      exact Mz4
theorem Y3  (hi:i<2) (h:ER (if i=0 then 2 else 4) (nth l (1+i))=false):D7 l=false:=by
 have h':i=0\/i=1:=by omega
 unfold D7 O2
 rcases h' with rfl |rfl
 ·have h2:I1 (nth l 1)=false:=h
  rw[h2];simp
 ·have h2:((nth l 2).toList== [61])=false:=h
  rw[h2];simp
theorem rG  (hl:3<=l.length) (h:∀i,i<2->ER (if i=0 then 2 else 4) (nth l (1+i))=true):D7 l=F9 l 3:=by
 unfold D7 O2 F9;have h1:I1 (nth l 1)=true:=h 0 (by omega);have h2:((nth l 2).toList== [61])=true:=h 1 (by omega);rw[h1,h2,iz hl];simp
theorem mQ (l:List ByteArray) (ad:Option Addr) (g n cap:Nat) (x:ByteArray) (w:World) (hG:E2 w) (hl:l.length=1+n) (hn:n<=4000) (hnc:n<=cap) (hcap:cap<=9223372036854775807) (hs:∀i,(nth l i).size<=4000) (hc:DV w g 0 l) (had:0<n->ad=some (af g 1)):
  Calls Tryz.prog 209 #[.agg #[.string x,ab 2,ab 4,ab 5],.slice ad n cap] w λe w'=>e=.returned (.bool (D7 l))/\Below w.heap.size w w':=by
 go_enter Tryz.func209,Tryz.ntmps209
 go_wp2;have i0:∀w,(Instr.index 337 (.agg #[ab 2,ab 4,ab 5]) (ab 0)).run Tryz.prog w=.ok (ab 2) w:=λ_=>by kernel_rfl
 have i1:∀w,(Instr.index 337 (.agg #[ab 2,ab 4,ab 5]) (ab 1)).run Tryz.prog w=.ok (ab 4) w:=λ_=>by kernel_rfl
 have i2:∀w,(Instr.index 337 (.agg #[ab 2,ab 4,ab 5]) (ab 2)).run Tryz.prog w=.ok (ab 5) w:=λ_=>by kernel_rfl
 have hb0:Below w.heap.size w (w.alloc (.cells #[.string x,ab 2,ab 4,ab 5] 339)):=(ah _ _).alloc (zn _) _;have Ah:=hid hb0;have HC:Hid (DV w g 0 l):=hid hc;have HG:Hid (E2 w):=hid hG;have HL:Hid (l.length=1+n):=hid hl;clear hc hG hl hb0
 go_loopw [1,9] (λv c wr=>∃(k m cap':Nat) (Pa:Option Addr),k<=2/\m<=cap'/\m<=4000/\cap'<=9223372036854775807/\c=ab k/\v=.slice Pa m cap'/\Hid (m+k=n)/\Hid (0<m->Pa=some (af g (1+k)))/\
   Hid (∀i,i<k->ER (if i=0 then 2 else 4) (nth l (1+i))=true)/\Hid (Below w.heap.size w wr)) (λ_ c _=>3 - (intOf c).toNat)
 case atStart=>exact⟨0,n,cap,ad,by omega,by omega,by omega,by omega,rfl,rfl,rfl,had,λi h=>by omega,Ah⟩
 case round=>
  clear had Ah;obtain⟨k,m,cap',Pa,hk3,hmc,Qz,hc6,rfl,rfl,hmk,had,hpre,hbr⟩:=hrel;have Vu:=HG.out.below hbr.out HG.out.size;have Hx:Hid (E2 wr):=hid Vu;have HCr:Hid (DV wr g 0 l):=hid (HC.out.later hbr.out);clear Vu
  by_cases hk:k=2
  ·subst hk
   have HF:Hid (D7 l=F9 l 3):=hid (rG Yn hpre.out);have En:=hs;have Ct:l.length<=4001:=by have:=HL.out;omega
   have hlm:l.length=3+m:=by have:=HL.out;have:=hmk.out;omega
   have HLM:Hid (l.length=3+m):=hid hlm;clear hlm hs
   go_wp2_with (go_at_call 230;refine(dN l _ g 3 m cap' _ HLM.out Ct En HCr.out had.out).mono ?_;rintro e w1 ⟨rfl,rfl⟩)
   go_ret;exact⟨CQ HF.out,hbr.out⟩
  ·by_cases hm:m=0
   ·have hf:D7 l=false:=by
     unfold D7 O2;rw[gy Yn];rfl
    have HF:Hid (D7 l=false):=hid hf;clear hf;have hk':k=0\/k=1:=by omega
    subst hm;clear hk
    rcases hk' with rfl |rfl
    all_goals
     go_wp2;go_ret;exact⟨CQ HF.out,hbr.out⟩
   ·have abl:=had.out (by omega)
    have hk':k=0\/k=1:=by omega
    have ck:wr.cell? (af g (1+k))=some (.string (nth l (1+k))):=by simpa using HCr.out.2 (1+k) Yn
    have hsk:=hs (1+k);subst abl;clear hk hs
    rcases hk' with rfl |rfl
    ·cases hkb:ER 2 (nth l (1+0))
     ·have HF:Hid (D7 l=false):=hid (Y3 (i:=0) (by omega) hkb)
      exact Vt
     ·have HP:Hid (∀i,i<0+1->ER (if i=0 then 2 else 4) (nth l (1+i))=true):=hid (F8 hpre.out hkb)
      exact Mz2
    ·cases hkb:ER 4 (nth l (1+1))
     ·have HF:Hid (D7 l=false):=hid (Y3 (i:=1) (by omega) hkb)
      exact Vt
     ·have HP:Hid (∀i,i<1+1->ER (if i=0 then 2 else 4) (nth l (1+i))=true):=hid (F8 hpre.out hkb)
      exact Mz3
section
section
variable {w w1:World}{B gb:Nat}{G:Gr}{vT vS vN vR:Value}{pv:List Value}{S:List Nat}
theorem BJ {k:Nat} (h:k∈v.ownBlock.toList):v.ownBlock=some k:=by
 cases hv:v.ownBlock with
 |none=>rw[hv]at h;simp at h
 |some g=>rw[hv]at h;simp at h;rw[h]
theorem JU {u:Value} (h:w.ownsRow B e sz v n xs) (hk:A5 w w1 S) (hn:∀g,v.ownBlock=some g->g∉S) (hgb:∀g,v.ownBlock=some g->gb≠g):
  (w1.setCell (af gb j) u).ownsRow B e sz v n xs:=
 ur (AC h hk hn) (λhg=>hgb gb hg rfl) u
theorem CZ {u:Value} (h:w1.ownsRow B e sz v n xs) (hb:w1.heap[gb]?=some (.cells cs t fr)) (hne:e≠t):
  (w1.setCell (af gb j) u).ownsRow B e sz v n xs:=
 ur h (A9 h hb hne) u
def QY (G:Gr) (bad:Bool):Int:=if 20<G.toks.length\/20<G.names.length\/60<G.rules.length then 4 else if bad then 4 else 0
theorem LD  (h:w.ownsRow B e sz v n xs):∀k,k∈v.ownBlock.toList->B<=k:=λk hk=>(h.lt k (BJ hk)).1
end
theorem BO  (h:w.ownsRow B e sz v n xs):∃a c,v=.slice a n c:=by
 rcases h.2 with⟨rfl,rfl⟩ | ⟨g,cap,cur,rfl,_⟩
 ·exact⟨_,_,rfl⟩
 ·exact⟨_,_,rfl⟩
end
section
section
variable {w w1:World}{B gb rb g:Nat}{G:Gr}{l:List ByteArray}{nm:ByteArray}{R:List (ByteArray × List ByteArray)}{cur:List ByteArray}{vT vS vN vR:Value}{pv:List Value}{vP:Value}
end
def SQ (nm:ByteArray) (st:List (ByteArray × List ByteArray) × List ByteArray × Bool) (x:ByteArray):List (ByteArray × List ByteArray) × List ByteArray × Bool:=
 if IL x then(st.1++ [(nm,st.2.1)],[],st.2.2)else(st.1,st.2.1++ [x],st.2.2||decide (8<st.2.1.length+1))
def Pb (R:List (ByteArray × List ByteArray)) (nm:ByteArray) (l:List ByteArray):List (ByteArray × List ByteArray) × List ByteArray × Bool:=l.foldl (SQ nm) (R,[],false)
end
def DI (G:Gr) (l:List ByteArray):Gr × Int:=
 if(nth l 0).toList== [116,111,107,101,110]then
  (if DC G.toks (nth l 1)then(G,3)
   else({G with toks:=G.toks++ [(nth l 1,D5 (nth l 2).data.toList,D5 (nth l 3).data.toList)]},QY {G with toks:=G.toks++ [(nth l 1,D5 (nth l 2).data.toList,D5 (nth l 3).data.toList)]} false))
 else if(nth l 0).toList== [115,119,97,112]then
  ({G with Yr:=G.Yr++ [(nth l 1,nth l 2,D5 (nth l 3).data.toList)]},QY {G with Yr:=G.Yr++ [(nth l 1,nth l 2,D5 (nth l 3).data.toList)]} false)
 else if(nth l 0).toList== [114,117,108,101]then
  (if D0 G.names (nth l 1)then(G,3)
   else({G with names:=G.names++ [nth l 1],rules:=(Pb G.rules (nth l 1) (l.drop 3)).1++ [(nth l 1,(Pb G.rules (nth l 1) (l.drop 3)).2.1)]},
   QY {G with names:=G.names++ [nth l 1],rules:=(Pb G.rules (nth l 1) (l.drop 3)).1++ [(nth l 1,(Pb G.rules (nth l 1) (l.drop 3)).2.1)]} (Pb G.rules (nth l 1) (l.drop 3)).2.2))
 else(G,QY G false)
theorem dZ  (h:AX l=true) {x:UInt8}{r:List UInt8} (ht:((nth l 0).toList==x::r)=true):¬l.length=1:=by
 intro h1;unfold AX at h;rw[ay h1]at h;rw[kr]at ht;rw[ht]at h;cases h
theorem qG  (h:AX l=true) (ht:((nth l 0).toList== [116,111,107,101,110])=true):l.length=4/\DZ (nth l 1)=true/\DS (nth l 2)=true/\DS (nth l 3)=true:=by
 have h1:=dZ h ht;unfold AX at h;rw[aq h1,ay ht]at h;simpa[DF] using h
theorem nY  (h:AX l=true) (h0:((nth l 0).toList== [116,111,107,101,110])=false) (ht:((nth l 0).toList== [115,119,97,112])=true):l.length=4/\DZ (nth l 1)=true/\DZ (nth l 2)=true/\DS (nth l 3)=true:=by
 have h1:=dZ h ht;unfold AX at h;rw[aq h1,aq Tt,ay ht]at h;simpa[C0] using h
theorem PM  (h:DS s=true):s.size<=2/\DP s.data.toList 48 57=true:=by
 have hlen:s.data.toList.length=s.size:=by simp
 unfold DS LG JG at h;simp only[gz,ir]at h;exact⟨by omega,h.1.2.2⟩
def JM (s:ByteArray):Nat->Nat->List (Nat × List ByteArray) × Nat
 |0,a=>([],a)
 |f+1,a=>
  if a<s.size then
   (if(C3 s a).2=0\/AX (AF (C3 s a).1)=false then([],a)
    else((a,AF (C3 s a).1)::(JM s f (C3 s a).2.toNat).1,(JM s f (C3 s a).2.toNat).2))
  else([],a)
theorem K6 {a:Nat} (h:¬(C3 s a).2=0):a+(C3 s a).1.size+1=(C3 s a).2.toNat/\(C3 s a).2.toNat<=s.size/\0<=(C3 s a).2:=by
 unfold C3 at h ⊢;split at h
 ·rename_i j hj
  simp only;have h1:=(pz.1 hj).1;simp at h1;refine⟨?_,by omega,by omega⟩;simp[ByteArray.size_extract];omega
 ·simp at h
theorem pA (s:ByteArray):∀(f f' a:Nat),s.size - a<=f->s.size - a<=f'->JM s f a=JM s f' a:=by
 intro f
 induction f with
 |zero=>
  intro f' a h h';have:¬a<s.size:=by omega
  cases f' with
  |zero=>rfl
  |succ f'=>simp[JM,this]
 |succ f ih=>
  intro f' a h h'
  by_cases ha:a<s.size
  ·cases f' with
   |zero=>omega
   |succ f'=>
    simp only[JM,ay ha]
    by_cases hb:(C3 s a).2=0\/AX (AF (C3 s a).1)=false
    ·rw[ay hb,ay hb]
    ·rw[aq hb,aq hb]
     have h0:¬(C3 s a).2=0:=λe=>hb (.inl e)
     have h1:=K6 h0;rw[ih f' (C3 s a).2.toNat (by omega) (by omega)]
  ·cases f' with
   |zero=>simp[JM,ha]
   |succ f'=>simp[JM,ha]
def AL (s:ByteArray) (a:Nat):List (Nat × List ByteArray) × Nat:=JM s (s.size - a) a
theorem YZ {a:Nat} (h:¬a<s.size):AL s a=([],a):=by
 unfold AL;have:s.size - a=0:=by omega
 rw[this];rfl
theorem YA {a:Nat} (h:a<s.size) (hb:(C3 s a).2=0\/AX (AF (C3 s a).1)=false):AL s a=([],a):=by
 unfold AL;obtain⟨f,hf⟩:∃f,s.size - a=f+1:=⟨s.size - a - 1,by omega⟩;rw[hf];simp only[JM,ay h,ay hb]
theorem UX {a:Nat} (h:a<s.size) (h0:¬(C3 s a).2=0) (hb:AX (AF (C3 s a).1)=true):
  AL s a=((a,AF (C3 s a).1)::(AL s (C3 s a).2.toNat).1,(AL s (C3 s a).2.toNat).2):=by
 have h1:=K6 h0;unfold AL;obtain⟨f,hf⟩:∃f,s.size - a=f+1:=⟨s.size - a - 1,by omega⟩;rw[hf];have h2:¬((C3 s a).2=0\/AX (AF (C3 s a).1)=false):=by
  rw[hb];simp[h0]
 simp only[JM,ay h,aq h2];rw[pA s f (s.size - (C3 s a).2.toNat) _ (by omega) (zn _)]
def EI:List (Nat × List ByteArray)->Gr->Int->Gr × Int × Option Nat
 | [],G,m=>(G,m,none)
 |x::r,G,m=>if(DI G x.2).2=3 then(G,m,some x.1)else EI r (DI G x.2).1 (if(DI G x.2).2=4/\m<0 then x.1 else m)
def G0:Gr:={toks:=[],Yr:=[],names:=[],rules:=[]}
def I0 (s:ByteArray):Int × Int × Gr:=
 if 4000<s.size then(1,0,G0)
 else if(AL s 0).2<s.size then(2,(AL s 0).2,G0)
 else match EI (AL s 0).1 G0 (-1)with
  | (_,_,some a)=>(3,a,G0)
  | (G,m,none)=>
   if 0<=m then(4,m,G0)
   else if G.names.length=0 then(4,s.size,G0)
   else match (AL s 0).1.find? λx=>FZ G x.2 with
    |some x=>(5,x.1,G0)
    |none=>(0,0,G)
end Go.Proofs.YtjjggdcnpndgjaaGreatDoor
