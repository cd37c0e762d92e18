import Derived.Test.YtjjggdcnpndgjabGreatDoorJ3
import Derived.Deep.LoopGhost
set_option linter.unusedSimpArgs false
set_option maxHeartbeats 1000000
set_option maxRecDepth 100000
namespace Go.Proofs.YtjjggdcnpndgjabGreatDoor
open Go.RowKit
variable {B g k n:Nat}{l:List ByteArray}{v:Value}{w:World}
theorem Tryz.info194:(Tryz.prog.info? 194).map (fun i=>(i.zero,i.size,i.bytes))=some (some (.agg #[ab 0,ab 0,.slice none 0 0]),3,40):=by kernel_rfl
def Bzq (j:Nat):ByteArray:=if j=0 then⟨#[116,111,107,101,110]⟩else if j=1 then⟨#[115,119,97,112]⟩else⟨#[114,117,108,101]⟩
def shK (j i:Nat):Int:=if j=0 then(if i=0 then 1 else 3)else if j=1 then(if i=2 then 3 else 1)else(if i=0 then 2 else if i=1 then 4 else 5)
def VP (j:Nat) (l:List ByteArray):Bool:=if j=0 then D5 l else if j=1 then BS l else CY l
theorem mN (j:Nat) (x:ByteArray):(x.toList==(Bzq j).toList)=(if j=0 then x.toList== [116,111,107,101,110]else if j=1 then x.toList== [115,119,97,112]else x.toList== [114,117,108,101]):=by
 unfold Bzq
 by_cases h0:j=0
 ·rw[if_pos h0,if_pos h0,ByteArray.toList_eq ⟨#[116,111,107,101,110]⟩]
 by_cases h1:j=1
 ·rw[if_neg h0,if_neg h0,if_pos h1,if_pos h1,ByteArray.toList_eq ⟨#[115,119,97,112]⟩]
 ·rw[if_neg h0,if_neg h0,if_neg h1,if_neg h1,ByteArray.toList_eq ⟨#[114,117,108,101]⟩]
theorem MX (j:Nat) (l:List ByteArray):DY j l=(((nth l 0).toList==(Bzq j).toList)&&VP j l):=by
 rw[mN];unfold DY VP
 by_cases h0:j=0
 ·simp only[if_pos h0]
 by_cases h1:j=1
 ·simp only[if_neg h0,if_pos h1]
 ·simp only[if_neg h0,if_neg h1]
theorem sG (j:Nat) (hj:j<3) (l:List ByteArray) (ad:Option Addr) (g n cap:Nat) (w:World) (hG:DS w) (hl:l.length=1+n) (hn:n<=4000) (hnc:n<=cap) (hcap:cap<=9223372036854775807) (hs:∀i,(nth l i).size<=4000) (hc:DK w g 0 l) (had:0<n->ad=some (af g 1)):
  Calls Tryz.prog 119 #[.agg #[.string (Bzq j),ab (shK j 0),ab (shK j 1),ab (shK j 2)],.slice ad n cap] w fun e w'=>e=.returned (.bool (VP j l))/\Below w.heap.size w w':=by
 have h':j=0\/j=1\/j=2:=by omega
 rcases h' with rfl |rfl |rfl
 ·exact pH l ad g n cap _ w hG hl hn hnc hcap hs hc had
 ·exact nH l ad g n cap _ w hG hl hn hnc hcap hs hc had
 ·exact mP l ad g n cap _ w hG hl hn hnc hcap hs hc had
theorem nO (j:Nat) (hj:j<3) (w:World):(Instr.index 223 (.agg #[.string ⟨#[116,111,107,101,110]⟩,ab 1,ab 3,ab 3,.string ⟨#[115,119,97,112]⟩,ab 1,ab 1,ab 3,.string ⟨#[114,117,108,101]⟩,ab 2,ab 4,ab 5]) (ab j)).run Tryz.prog w=
  .ok (.agg #[.string (Bzq j),ab (shK j 0),ab (shK j 1),ab (shK j 2)]) w:=by
 have h':j=0\/j=1\/j=2:=by omega
 have t0:(Instr.index 223 (.agg #[.string ⟨#[116,111,107,101,110]⟩,ab 1,ab 3,ab 3,.string ⟨#[115,119,97,112]⟩,ab 1,ab 1,ab 3,.string ⟨#[114,117,108,101]⟩,ab 2,ab 4,ab 5]) (ab 0)).run Tryz.prog w=.ok (.agg #[.string ⟨#[116,111,107,101,110]⟩,ab 1,ab 3,ab 3]) w:=by kernel_rfl
 have t1:(Instr.index 223 (.agg #[.string ⟨#[116,111,107,101,110]⟩,ab 1,ab 3,ab 3,.string ⟨#[115,119,97,112]⟩,ab 1,ab 1,ab 3,.string ⟨#[114,117,108,101]⟩,ab 2,ab 4,ab 5]) (ab 1)).run Tryz.prog w=.ok (.agg #[.string ⟨#[115,119,97,112]⟩,ab 1,ab 1,ab 3]) w:=by kernel_rfl
 have t2:(Instr.index 223 (.agg #[.string ⟨#[116,111,107,101,110]⟩,ab 1,ab 3,ab 3,.string ⟨#[115,119,97,112]⟩,ab 1,ab 1,ab 3,.string ⟨#[114,117,108,101]⟩,ab 2,ab 4,ab 5]) (ab 2)).run Tryz.prog w=.ok (.agg #[.string ⟨#[114,117,108,101]⟩,ab 2,ab 4,ab 5]) w:=by kernel_rfl
 rcases h' with rfl |rfl |rfl
 ·exact t0
 ·exact t1
 ·exact t2
theorem T9 {ds:List (Nat × List ByteArray)}{x:Nat × List ByteArray} (h:x.2.length=1):AF (ds++ [x])=AF ds:=by
 unfold AF;simp[List.filter_append,h]
theorem jF {ds:List (Nat × List ByteArray)}{x:Nat × List ByteArray} (h:¬x.2.length=1):AF (ds++ [x])=AF ds++ [(x.1,AV x.2,x.2)]:=by
 unfold AF;simp[List.filter_append,h]
theorem qC (ln:ByteArray) (W:World) (hG:DS W) (hs:ln.size<=4000):Calls Tryz.prog 118 #[.string ln,.string ⟨#[32]⟩] W fun e w'=>
  ∃g,e=.returned (ae g (AA ln).length (AA ln).length)/\W.heap.size<=g/\w'.heap[g]?=some (.cells ((AA ln).map Value.string).toArray 9 (0,0))/\Below W.heap.size W w':=by
 obtain⟨m,hm⟩:=hG.max;refine(Tryz.strings_Split ln ⟨#[32]⟩ m W (by omega) hm (lR_ 1)).mono ?_;rintro e w' ⟨rfl,rfl⟩;rw[SJ,O0];exact⟨_,rfl,lR_ _,heap_alloc_new _ _,(Below.refl _ _).alloc (lR_ _) _⟩
theorem oT  (h:w.heap[g]?=some (.cells (l.map Value.string).toArray 9 (0,0))):DK w g 0 l:=by
 refine⟨lt_of_block h,fun j hj=>?_⟩;rw[Nat.zero_add,A0 h];unfold nth;simp[gE hj]
theorem sX {ad:Option Addr} (h:w.heap[g]?=some (.cells (l.map Value.string).toArray 9 (0,0))) (hl:l.length=1+n) (hn:n<=4000) (had:0<n->ad=some (af g 1)):EH w (.slice ad n n) l:=by
 refine⟨g,n,n,ad,_,rfl,hl,lR_ _,by omega,h,fun j hj=>?_,had⟩;unfold nth;simp[gE hj]
theorem N1 {w':World} (h:w'=w.drewN n):Below w.heap.size w w':=by subst h;exact⟨rfl,rfl,rfl,lR_ _,fun _ _=>rfl⟩
theorem nJ (s:ByteArray) (w:World) (hG:DS w) (hs:s.size<=4000):
  Calls Tryz.prog 92 #[.string s] w fun e w'=>∃v pv,e=.returned (.tuple #[v,ab (AG s 0).2])/\LnV w' w.heap.size v (AF (AG s 0).1) pv/\Below w.heap.size w w':=by
 obtain⟨i0,hi,hz0,hz1,hz2⟩:=info_parts Tryz.info194;have HG:Hid (DS w):=hid hG;clear hG
 go_enter Tryz.func92,Tryz.ntmps92
 go_wp2
 go_step3
 go_wp2
 go_step3
 go_wp2
 go_loopg [2,3] s.size (fun g v a wr=>∃(k:Nat) (ds:List (Nat × List ByteArray)) (pv:List Value),k+g=s.size/\a=ab k/\Hid (AG s 0=(ds++(AG s k).1,(AG s k).2))/\Hid ((AF ds).length<=k)/\
  Hid (LnV wr w.heap.size v (AF ds) pv)/\Hid (Below w.heap.size w wr))
 case atStart=>exact⟨0,[],[],by omega,rfl,hid (by simp),hid (by simp[AF]),LnV.nil _ _,Below.refl _ _⟩
 case round=>
  obtain⟨k,ds,pv,hkg,rfl,hsc,hdl,hV,hbr⟩:=hrel;have hsz:=hbr.out.size;have HGr:Hid (DS wr):=hid (HG.out.below hbr.out HG.out.size)
  by_cases hlt:k<s.size
  ·obtain⟨ln,nx,hln⟩:∃ln nx,BT s k=(ln,nx):=⟨_,_,rfl⟩
   have hcut:=rW s k;rw[hln]at hcut
   by_cases h0:nx=0
   ·have cC:Hid (Calls Tryz.prog 117 #[.string (s.extract k s.size),.string ⟨#[10]⟩] wr fun e w'=>(∃a b,e=.returned (.tuple #[.string a,.string b,.bool false]))/\Below wr.heap.size wr w'):=hid (by
     obtain⟨m,hm⟩:=HGr.out.max;refine(Tryz.strings_Cut (s.extract k s.size) ⟨#[10]⟩ m wr y2Z hm).mono ?_;rintro e w' ⟨rfl,n,hn⟩;exact⟨⟨_,_,by rw[hcut.2 h0]⟩,N1 hn⟩)
    have HE:Hid (AG s 0=(ds,k)):=hid (by
     rw[hsc.out,YP hlt (.inl (by rw[hln];exact h0))];simp)
    clear hsc hcut hln
    go_wp2_with (go_at_call 117;refine cC.out.mono ?_;rintro e w1 ⟨⟨ca,cb,rfl⟩,hb1⟩)
    rw[Exit.noGoto_ret]
    go_ret2
    rw[HE.out];exact⟨_,_,rfl,hV.out.below hb1,hbr.out.trans (hb1.mono hsz)⟩
   ·have cC:Hid (Calls Tryz.prog 117 #[.string (s.extract k s.size),.string ⟨#[10]⟩] wr fun e w'=>(∃b,e=.returned (.tuple #[.string ln,.string b,.bool true]))/\Below wr.heap.size wr w'):=hid (by
     obtain⟨m,hm⟩:=HGr.out.max;refine(Tryz.strings_Cut (s.extract k s.size) ⟨#[10]⟩ m wr y2Z hm).mono ?_;rintro e w' ⟨rfl,n,hn⟩;exact⟨⟨_,by rw[(hcut.1 h0).1,(hcut.1 h0).2]⟩,N1 hn⟩)
    have hgt:=JZ (s:=s) (a:=k) (by rw[hln];exact h0);rw[hln]at hgt;simp only at hgt;have hnx:k+ln.size+1<=s.size:=by omega
    have hNX:nx.toNat=k+ln.size+1:=by omega
    have HL:Hid (AR (AA ln)=true->AG s 0=((ds++ [(k,AA ln)])++(AG s (k+ln.size+1)).1,(AG s (k+ln.size+1)).2)):=hid fun h=>by
     rw[hsc.out,V6 hlt (by rw[hln];exact h0) (by rw[hln];exact h),hln];simp only[hNX];simp
    have HB:Hid (AR (AA ln)=false->AG s 0=(ds,k)):=hid fun h=>by
     rw[hsc.out,YP hlt (.inr (by rw[hln];exact h))];simp
    have hlz:ln.size<=4000:=by omega
    clear hsc hcut hln hgt hNX h0;cases he:ln.toList.isEmpty
    ·have HW:Hid (AR (AA ln)=(DY 0 (AA ln)||(DY 1 (AA ln)||DY 2 (AA ln)))):=hid (ZA he)
     have hwl:=UA ln;have hwz:=fun i=>lT_ (SX ln i) hlz
     obtain⟨L,hn⟩:=qE ((AA ln).length);have cS:Hid (∀W,DS W->Calls Tryz.prog 118 #[.string ln,.string ⟨#[32]⟩] W fun e w'=>
      ∃g,e=.returned (ae g L L)/\W.heap.size<=g/\w'.heap[g]?=some (.cells ((AA ln).map Value.string).toArray 9 (0,0))/\Below W.heap.size W w'):=hid fun W hW=>by
       rw[<-hn];exact qC ln W hW hlz
     rw[hn]at hwl;have HN:Hid ((AA ln).length=L):=hid hn;clear hn;have hL0:(0:Int)<L:=by omega
     have hL1:(1:Int)<=L:=by omega
     have hL2:0<L:=by omega
     have hL3:1<=L:=by omega
     go_wp2_with (first
      | (go_at_call 117;refine cC.out.mono ?_;rintro e w1 ⟨⟨cb,rfl⟩,hb1⟩)
      | (go_at_call 118;refine(cS.out _ (HGr.out.below hb1 HGr.out.size)).mono ?_;rintro e w2 ⟨g,rfl,hg,hblk,hb2⟩;obtain⟨tS,fS,hshp⟩:=((HGr.out.below hb1 HGr.out.size).below hb2 (HGr.out.below hb1 HGr.out.size).size).shapes)
      | (refine wpList_load_row rfl 223 _ rfl 1 rfl _ _ _ _ hshp Tryz.underlying223 rfl y1Z ?_))
     have HK:Hid (DK w2 g 0 (AA ln)):=hid (oT hblk);have HBk:Hid (w2.heap[g]?=some (.cells ((AA ln).map Value.string).toArray 9 (0,0))):=hid hblk;have HB2:Hid (Below wr.heap.size wr w2):=hid (hb1.trans (hb2.mono hb1.size));have HG2:Hid (DS w2):=hid (HGr.out.below HB2.out HGr.out.size);have HV2:Hid (LnV w2 w.heap.size u2 (AF ds) pv):=hid (hV.out.below HB2.out);have HR2:Hid (Below w.heap.size w w2):=hid (hbr.out.trans (HB2.out.mono hsz));have hgl:=lt_of_block hblk;clear cC cS hb1 hb2 hblk hshp HGr hV hbr HB2
     go_loopg [2,3,36] 3 (fun gi v' a' i wi=>∃j:Nat,j+gi=3/\v'=u2/\a'=ab k/\i=ab j/\Hid (∀t,t<j->DY t (AA ln)=false)/\Hid (Below w2.heap.size w2 wi))
     case atStart=>exact⟨0,by omega,rfl,rfl,rfl,hid (fun t h=>by omega),hid (Below.refl _ _)⟩
     case round=>
      obtain⟨j,hjg,rfl,rfl,rfl,hno,hbi⟩:=hrel
      by_cases hj:j<3
      ·have hix:=nO j hj
       have c0:wr.cell? (af g 0)=some (.string (nth (AA ln) 0)):=by
        have h:=HK.out.later hbi.out;simpa using h.2 0 (by rw[HN.out];omega)
       have hgr:g<wr.heap.size:=lL hgl hbi.out.size;cases hq:((nth (AA ln) 0).toList==(Bzq j).toList)
       ·have HF:Hid (DY j (AA ln)=false):=hid (by rw[MX,hq];rfl)
        go_wp2
        go_quiet (fail)
        go_wp2
        go_roundg (gk - 1)
        case measure=>omega
        case rel=>exact⟨j+1,by omega,rfl,rfl,by go_num,hid (ET hno.out HF.out),hid ((hbi.out.alloc hbi.out.size _).trans (N1 rfl |>.mono (by have:=hbi.out.size;simp;omega)))⟩
       ·obtain⟨W2,hW2⟩:=qF (wr.alloc (.cells #[.string (Bzq j),ab (shK j 0),ab (shK j 1),ab (shK j 2)] 222))
        have hb2:W2.heap[wr.heap.size]?=some (.cells #[.string (Bzq j),ab (shK j 0),ab (shK j 1),ab (shK j 2)] 222 (0,0)):=by rw[hW2];exact heap_alloc_new _ _
        have HW2:Hid (Below wr.heap.size wr W2):=hid (by rw[hW2];exact(Below.refl _ _).alloc (lR_ _) _);have c1:W2.cell? (af g 0)=some (.string (nth (AA ln) 0)):=(HW2.out.cell hgr).trans c0;have c2:W2.cell? (af wr.heap.size 0)=some (.string (Bzq j)):=by rw[A0 hb2];rfl
        go_wp2;rw[<-hW2];clear hW2;have c3:W2.cell? (af wr.heap.size 1)=some (ab (shK j 0)):=by rw[A0 hb2];rfl
        have c4:W2.cell? (af wr.heap.size 2)=some (ab (shK j 1)):=by rw[A0 hb2];rfl
        have c5:W2.cell? (af wr.heap.size 3)=some (ab (shK j 2)):=by rw[A0 hb2];rfl
        have HWr:Hid (wr.heap.size<W2.heap.size/\g<W2.heap.size):=hid ⟨lt_of_block hb2,Nat.lt_trans hgr (lt_of_block hb2)⟩;have HGK:Hid (DS W2.drew/\DK W2.drew g 0 (AA ln)):=by
         have hbd:Below w2.heap.size w2 W2:=hbi.out.trans (HW2.out.mono hbi.out.size);have hbe:Below w2.heap.size w2 W2.drew:=hbd.trans ⟨rfl,rfl,rfl,lR_ _,fun _ _=>rfl⟩;exact hid ⟨HG2.out.below hbe HG2.out.size,HK.out.later hbe⟩
        have cF:Hid (∀ad,(0<L - 1->ad=some (af g 1))->Calls Tryz.prog 119 #[.agg #[.string (Bzq j),ab (shK j 0),ab (shK j 1),ab (shK j 2)],.slice ad (L - 1) (L - 1)] W2.drew fun e w'=>e=.returned (.bool (VP j (AA ln)))/\
          w'.cell? (af g 0)=some (.string (nth (AA ln) 0))/\w'.cell? (af wr.heap.size 0)=some (.string (Bzq j))/\w'.cell? (af wr.heap.size 1)=some (ab (shK j 0))/\w'.cell? (af wr.heap.size 2)=some (ab (shK j 1))/\
          w'.cell? (af wr.heap.size 3)=some (ab (shK j 2))/\Below W2.heap.size W2 w'):=hid fun ad had=>by
         refine(sG j hj (AA ln) ad g (L - 1) (L - 1) _ HGK.out.1 (by rw[HN.out];omega) (by omega) (lR_ _) (by omega) hwz HGK.out.2 had).mono ?_;rintro e w1 ⟨rfl,hbF⟩;have hbF:Below W2.heap.size W2 w1:=(⟨rfl,rfl,rfl,lR_ _,fun _ _=>rfl⟩:Below W2.heap.size W2 W2.drew).trans hbF;exact⟨rfl,(hbF.cell HWr.out.2).trans c1,(hbF.cell HWr.out.1).trans c2,(hbF.cell HWr.out.1).trans c3,(hbF.cell HWr.out.1).trans c4,(hbF.cell HWr.out.1).trans c5,hbF⟩
        clear hb2;obtain⟨b,hb⟩:=qF (wr.heap.size);rw[<-hb]at c2 c3 c4 c5 HWr cF;rw[<-hb];clear hb
        go_region_held3 (fun w'=>w'.cell? (af g 0)=some (.string (nth (AA ln) 0))/\w'.cell? (af b 0)=some (.string (Bzq j))/\w'.cell? (af b 1)=some (ab (shK j 0))/\w'.cell? (af b 2)=some (ab (shK j 1))/\
         w'.cell? (af b 3)=some (ab (shK j 2))/\Hid (Below W2.heap.size W2 w')) ((refine⟨?_,?_,?_,?_,?_,?_⟩;go_keep;go_keep;go_keep;go_keep;go_keep;first |exact hid ⟨rfl,rfl,rfl,lR_ _,fun _ _=>rfl⟩ |exact hid hbF |assumption))
         (first | (go_at_call 119;refine(cF.out _ (fun h0=>if_neg (by omega))).mono ?_;rintro e w1 ⟨rfl,k0,k1,k2,k3,k4,hbF⟩;try dsimp only))
        cases hlk:VP j (AA ln)
        ·have HF:Hid (DY j (AA ln)=false):=hid (by rw[MX,hq,hlk];rfl)
         obtain⟨adl,hadl⟩:=qF ((if L=1 then some ((af g 0):Addr)else some (af g 1)));rw[<-hadl];clear hadl;go_wp2
         go_roundg (gk - 1)
         case measure=>omega
         case rel=>exact⟨j+1,by omega,rfl,rfl,by go_num,hid (ET hno.out HF.out),hid (hbi.out.trans (HW2.out.trans (hbF.mono HW2.out.size) |>.mono hbi.out.size))⟩
        ·have hFt:DY j (AA ln)=true:=by rw[MX,hq,hlk];rfl
         have hsf:=i6 hj hFt;have hIL:AR (AA ln)=true:=by
          rw[HW.out];have h':j=0\/j=1\/j=2:=by omega
          rcases h' with rfl |rfl |rfl <;> rw[hFt] <;> simp
         have HS:=hid (HL.out hIL);have HP:Hid (AF (ds++ [(k,AA ln)])=AF ds++ [(k,j,AA ln)]):=hid (by rw[jF hsf.2,hsf.1]);have hne:¬L=1:=fun e=>hsf.2 (HN.out.trans e)
         clear HL HB HW hFt hsf hIL;have hbz:Below w2.heap.size w2 w1:=hbi.out.trans ((HW2.out.trans (hbF.mono HW2.out.size)).mono hbi.out.size);have hsl:LnV w1 w.heap.size u2 (AF ds) pv:=HV2.out.below hbz;have hbw:Below w.heap.size w w1:=HR2.out.trans (hbz.mono HR2.out.size);have HWV:Hid (EH w1 (.slice (some (af g 1)) (L - 1) (L - 1)) (AA ln)):=hid (sX ((hbz.block g hgl).trans HBk.out) (by rw[HN.out];omega) (by omega) (fun _=>rfl));have HSL:=hid hsl;have HBW:=hid hbw;clear hbz hbw;have hsw:=HBW.out.size;have hrow:=hsl.row;clear hsl;have hll:(AF ds).length<=4000:=by have:=hdl.out;omega
         go_wp2_with (first
          | (at_builtin;refine wpList_append_lies _ rfl _ _ 145 rfl w.heap.size 194 i0 (.agg #[ab 0,ab 0,.slice none 0 0]) 3 40 Tryz.underlying145 hi hz0 hz1 hz2 rfl (by decide) _ _ _ rfl (hrow.alloc _) (af w1.heap.size 0) 1 1 [ab k,ab j,.slice (some (af g 1)) (L - 1) (L - 1)] rfl rfl (World.news_of_block (heap_alloc_new w1 _)) ?c2 (lR_ 1) ?c3 ?c4 ?c5 _ rfl ?_))
         case c2=>intro u hu;simp at hu;rcases hu with rfl |rfl |rfl <;> rfl
         case c3=>unfold maxLen;omega
         case c4=>omega
         case c5=>simp;omega
         intro g3 cap3 w3 hown3 hgrow3 hat3 hlt3;have HL3:Hid (LnV w3 w.heap.size (ae g3 ((AF ds).length+1) cap3) (AF ds++ [(k,j,AA ln)]) (pv++ [.slice (some (af g 1)) (L - 1) (L - 1)])):=
          hid (HSL.out.push (((A1.refl _ _).alloc _).grown hgrow3 (fun q hq=>.inl y13Z)) HWV.out hown3)
         have HB3:Hid (Below w.heap.size w w3):=hid ((HBW.out.alloc hsw (.cells #[ab k,ab j,.slice (some (af g 1)) (L - 1) (L - 1)] 194)).grown hgrow3 y2Z (fun g hg=>(hrow.lt g hg).1));clear hown3 hgrow3 hat3 hlt3;go_wp2
         go_roundg (s.size - (k+ln.size+1))
         case measure=>omega
         case rel=>exact⟨k+ln.size+1,ds++ [(k,AA ln)],_,by omega,by go_num,HS,hid (by rw[HP.out];have:=hdl.out;simp;omega),hid (by rw[HP.out];exact HL3.out),HB3⟩
      ·have hj3:j=3:=by omega
       have HE:Hid (AG s 0=(ds,k)):=hid (HB.out (by
        rw[HW.out,hno.out 0 (by omega),hno.out 1 (by omega),hno.out 2 (by omega)];rfl))
       clear HL HB HW;go_wp2
       try rw[Exit.noGoto_ret]
       go_ret2
       rw[HE.out];exact⟨_,_,rfl,HV2.out.below hbi.out,HR2.out.trans (hbi.out.mono HR2.out.size)⟩
    ·have HS:=hid (HL.out (SD he).2)
     have HP:Hid (AF (ds++ [(k,AA ln)])=AF ds):=hid (T9 (SD he).1);clear HL HB
     go_wp2_with (go_at_call 117;refine cC.out.mono ?_;rintro e w1 ⟨⟨cb,rfl⟩,hb1⟩)
     go_roundg (s.size - (k+ln.size+1))
     case measure=>omega
     case rel=>exact⟨k+ln.size+1,ds++ [(k,AA ln)],pv,by omega,by go_num,HS,hid (by rw[HP.out];have:=hdl.out;omega),hid (by rw[HP.out];exact hV.out.below hb1),hid (hbr.out.trans (hb1.mono hsz))⟩
  ·have HE:Hid (AG s 0=(ds,k)):=hid (by rw[hsc.out,XE hlt];simp)
   clear hsc;go_wp2
   try rw[Exit.noGoto_ret]
   go_ret2
   rw[HE.out];exact⟨_,_,rfl,hV.out,hbr.out⟩
def BC (sh:Nat) (l:List ByteArray):ByteArray:=if sh=1 then ByteArray.empty else nth l 1
theorem RF (a sh:Nat) (p:Value) (l:List ByteArray) (w:World) (hW:EH w p l) (hl:2<=l.length) (hll:l.length<=4001):
  Calls Tryz.prog 120 #[.agg #[ab a,ab sh,p]] w fun e w'=>e=.returned (.string (BC sh l))/\Below w.heap.size w w':=by
 obtain⟨g,n,cap,ad,cs,rfl,h2,h3,h4,h5,h6,h7⟩:=hW;have had:=h7 (by omega);subst had;have c1:w.cell? (af g 1)=some (.string (nth l 1)):=by rw[A0 h5];exact h6 1 (by omega)
 have hg:=lt_of_block h5;have hn:0<n:=by omega
 have hb0:Hid (Below w.heap.size w (w.alloc (.cells #[ab a,ab sh,.slice (some (af g 1)) n cap] 194))):=hid ((Below.refl _ _).alloc (lR_ _) _);clear h5 h6 h7 h2 hl hll
 by_cases hs:sh=1
 ·have HE:Hid (BC sh l=ByteArray.empty):=hid (by unfold BC;rw[if_pos hs])
  subst hs
  go_enter Tryz.func120,Tryz.ntmps120
  go_wp2;go_ret;exact⟨by rw[HE.out];rfl,hb0.out⟩
 ·have HE:Hid (BC sh l=nth l 1):=hid (by unfold BC;rw[if_neg hs])
  have hs2:¬((sh:Int)=1):=by omega
  clear hs
  go_enter Tryz.func120,Tryz.ntmps120
  go_wp2;go_ret;exact⟨by rw[HE.out];rfl,hb0.out⟩
theorem LnV.at {w:World}{B g n cap:Nat}{ls:List (Nat × Nat × List ByteArray)}{pv:List Value} (h:LnV w B (ae g n cap) ls pv) {j:Nat}{x:Nat × Nat × List ByteArray} (hx:ls[j]?=some x):
  ∃p,pv[j]?=some p/\EH w p x.2.2/\w.cell? (af g (j*3))=some (ab x.1)/\w.cell? (af g (j*3+1))=some (ab x.2.1)/\w.cell? (af g (j*3+2))=some p:=by
 have hj:=(gS_.1 hx).1;obtain⟨p,hp⟩:∃p,pv[j]?=some p:=⟨_,gE (by rw[h.pvl];exact hj)⟩;refine⟨p,hp,h.wds j x p hx hp,?_⟩;have hz:(ls.zip pv)[j]?=some (x,p):=by
  rw[List.getElem?_zip_eq_some];exact⟨hx,hp⟩
 have h3:=fun i hi=>wN (fun t:(Nat × Nat × List ByteArray) × Value=>[ab t.1.1,ab t.1.2.1,t.2]) (fun _=>rfl) (ls.zip pv) j (x,p) i hz hi
 have hn:ls.length=n:=by
  rcases h.row.2 with⟨e,_⟩ | ⟨g',cap',cur,e,_⟩
  ·cases e
  ·cases e;rfl
 have hr:=h.row;rw[hn]at hr hj;refine⟨?_,?_,?_⟩
 ·rw[hr.cellAt _ (by omega)];exact h3 0 (by omega)
 ·rw[hr.cellAt _ (by omega)];exact h3 1 (by omega)
 ·rw[hr.cellAt _ (by omega)];exact h3 2 (by omega)
theorem LnV.form {ls:List (Nat × Nat × List ByteArray)}{pv:List Value} (h:LnV w B v ls pv):
  (v=.slice none 0 0/\ls=[])\/∃g cap,v=ae g ls.length cap/\ls.length<=cap/\g<w.heap.size:=by
 rcases h.row.2 with⟨h1,h2⟩ | ⟨g,cap,cur,h1,_,hh,hnc,_⟩
 ·exact .inl ⟨h1,List.eq_nil_of_length_eq_zero h2⟩
 ·exact .inr ⟨g,cap,h1,hnc,lt_of_block hh⟩
theorem dD {α:Type}{l:List α}{q:α->Bool}{x:α} (hx:l[k]?=some x) (h0:(l.take k).any q=false) (h:q x=false):(l.take (k+1)).any q=false:=by
 obtain⟨hk,e⟩:=gS_.1 hx;rw[List.take_succ_eq_append_getElem hk,List.any_append,h0,e];simp[h]
theorem uS {α:Type}{l:List α}{q:α->Bool}{x:α} (hx:l[k]?=some x) (h:q x=true):l.any q=true:=List.any_eq_true.2 ⟨x,mG hx,h⟩
theorem RA (v:Value) (ls:List (Nat × Nat × List ByteArray)) (pv:List Value) (B:Nat) (w:World) (hV:LnV w B v ls pv) (hn:ls.length<=4000):
  Calls Tryz.prog 95 #[v] w fun e w'=>e=.returned (.bool (ls.any fun x=>x.2.1==2))/\Below w.heap.size w w':=by
 rcases hV.form with⟨rfl,rfl⟩ | ⟨g,cap,rfl,hnc,hg⟩
 ·clear hV
  go_enter Tryz.func95,Tryz.ntmps95
  go_wp2
  go_loopw [7] (fun i wr=>i=ab 0/\wr=w) (fun i _=>0)
  case atStart=>exact⟨rfl,rfl⟩
  case round=>
   obtain⟨rfl,rfl⟩:=hrel;go_wp2;go_ret;exact⟨rfl,Below.refl _ _⟩
 ·obtain⟨n,hN⟩:=qF (ls.length)
  rw[<-hN]at hn hnc hV ⊢;have HN:Hid (n=ls.length):=hid hN;have HV:=hid hV;clear hN hV
  go_enter Tryz.func95,Tryz.ntmps95
  go_wp2
  go_loopw [7] (fun i wr=>∃k:Nat,k<=n/\i=ab k/\Hid ((ls.take k).any (fun x=>x.2.1==2)=false)/\Hid (Below w.heap.size w wr)) (fun i _=>n - (intOf i).toNat)
  case atStart=>exact⟨0,Nat.zero_le _,rfl,rfl,Below.refl _ _⟩
  case round=>
   obtain⟨k,hk,rfl,hno,hbr⟩:=hrel;have hsz:=hbr.out.size
   by_cases hlt:k<n
   ·obtain⟨x,hx⟩:∃x,ls[k]?=some x:=⟨_,gE y8Z⟩
    obtain⟨p,hp,⟨gw,m,mc,ad,cs,rfl,_⟩,k0,k1,k2⟩:=(HV.out.below hbr.out).at hx;clear hp;obtain⟨a,sh,l⟩:=x;simp only at k0 k1 k2;have hgr:g<wr.heap.size:=lL hg hsz;have HB1:Hid (Below w.heap.size w (wr.alloc (.cells #[ab a,ab sh,.slice ad m mc] 194))):=hid (hbr.out.alloc hsz _);cases hs2:((sh:Int)==2)
    ·have HF:=hid (dD (q:=fun x=>x.2.1==2) hx hno.out (by simp at hs2 ⊢;omega))
     go_wp2
     go_roundw
     case rel=>exact⟨k+1,by omega,by go_num,HF,HB1⟩
     case measure=>simp[intOf];omega
    ·have HF:=hid (uS (q:=fun x=>x.2.1==2) hx (by simp at hs2 ⊢;omega))
     go_wp2;go_ret;exact⟨BW HF.out,HB1.out⟩
   ·have HE:Hid (ls.any (fun x=>x.2.1==2)=false):=hid (by
     have:=hno.out
     rwa [List.take_of_length_le y8Z]at this)
    go_wp2;go_ret;exact⟨BW HE.out,hbr.out⟩
def DG (st:List (List ByteArray) × List ByteArray) (x:ByteArray):List (List ByteArray) × List ByteArray:=if I0 x then(st.1++ [st.2],[])else(st.1,st.2++ [x])
def pst (l:List ByteArray):List (List ByteArray) × List ByteArray:=l.foldl DG ([],[])
def A9 (l:List ByteArray):List (List ByteArray):=(pst (l.drop 3)).1++ [(pst (l.drop 3)).2]
theorem pD  (hk:3+k<l.length):pst ((l.take (3+k+1)).drop 3)=DG (pst ((l.take (3+k)).drop 3)) (nth l (3+k)):=by
 rw[List.take_succ_eq_append_getElem hk,List.drop_append_of_le_length y2Z];unfold pst nth;rw[List.foldl_append,gD_,gE hk];rfl
structure JO (w:World) (B Bl:Nat) (v:Value) (done:List (List ByteArray)) (cur:List ByteArray) (pvd:List Value) (pl:Value):Prop where
 row:w.ownsRow B 30 1 v (done.length+1) (pvd++ [pl])
 pvl:pvd.length=done.length
 parts:∀(i:Nat) (r:List ByteArray) (p:Value),done[i]?=some r->pvd[i]?=some p->w.ownsRow B 9 1 p r.length (r.map Value.string)/\(∀q,p.ownBlock=some q->q<Bl)
 last:w.ownsRow Bl 9 1 pl cur.length (cur.map Value.string)
 hB:B<=Bl
 hBl:Bl<=w.heap.size
theorem JO.start (w:World)  (hB:B<=w.heap.size):JO (w.alloc (.cells #[.slice none 0 0] 30)) B (w.heap.size+1) (ae w.heap.size 1 1) [] [] [] (.slice none 0 0) where
 row:=⟨rfl,.inr ⟨_,_,_,rfl,hB,heap_alloc_new w _,lR_ _,by unfold maxLen;omega,rfl,rfl⟩⟩
 pvl:=rfl
 parts:=fun i r p hr=>by simp at hr
 last:=World.ownsRow_nil _ _ _ _
 hB:=by omega
 hBl:=by simp
theorem KX {B' e sz:Nat}{xs:List Value} (h:w.ownsRow B e sz v n xs) (hB:B'<=B):w.ownsRow B' e sz v n xs:=by
 refine⟨h.1,?_⟩
 rcases h.2 with h2 | ⟨g,cap,cur,hv,hg,r⟩
 ·exact .inl h2
 ·exact .inr ⟨g,cap,cur,hv,lT_ hB hg,r⟩
theorem JO.bar {w3:World}{Bl:Nat}{v':Value}{done:List (List ByteArray)}{cur:List ByteArray}{pvd:List Value}{pl:Value} (h:JO w B Bl v done cur pvd pl) (hk:A1 w w3 v.ownBlock.toList)
  (hown:w3.ownsRow B 30 1 v' (done.length+1+1) (pvd++ [pl]++ [.slice none 0 0])):JO w3 B w3.heap.size v' (done++ [cur]) [] (pvd++ [pl]) (.slice none 0 0):=by
 have hl:=h.pvl;have hoff:∀{n:Nat}{b:Nat}{p:Value}{xs:List Value},w.ownsRow b 9 1 p n xs->∀q,p.ownBlock=some q->q∉v.ownBlock.toList:=by
  intro n b p xs hp q hq hm;exact J3 hp h.row (by decide) hq (BE hm)
 refine⟨by simpa using hown,by simp[hl],fun i r p hr hp=>?_,World.ownsRow_nil _ _ _ _,lT_ (lT_ h.hB h.hBl) hk.size,lR_ _⟩
 by_cases hi:i<done.length
 ·rw[aL hi]at hr
  rw[aL (by omega)]at hp;have h1:=h.parts i r p hr hp;exact⟨A8 h1.1 hk (hoff h1.1),fun q hq=>lL (CK h1.1 hq) hk.size⟩
 ·rw[aR_ (by omega)]at hr
  rw[aR_ (by omega)]at hp;obtain⟨h1,_⟩:=gS_.1 hr;simp at h1;rw[show i - done.length=0 by omega]at hr;rw[show i - pvd.length=0 by omega]at hp;simp at hr hp;subst hr;subst hp;exact⟨A8 (KX h.last h.hB) hk (hoff h.last),fun q hq=>lL (CK h.last hq) hk.size⟩
theorem YZ {e cap j:Nat}{xs:List Value} (h:w.ownsRow B e 1 (ae g n cap) n xs) (u:Value):(w.setCell (af g j) u).ownsRow B e 1 (ae g n cap) n (xs.set j u):=by
 rcases h.2 with⟨h1,_⟩ | ⟨g',cap',cur,hv,hg,hh,h1,h2,h3,h4⟩
 ·cases h1
 ·cases hv
  refine⟨by simpa using h.1,.inr ⟨g,cap,cur.setIfInBounds j u,rfl,hg,A5 hh u,h1,h2,by simpa using h3,?_⟩⟩;rw[Array.toList_setIfInBounds,<-h4,List.take_set]
theorem JO.add {w3:World}{Bl gv cap:Nat}{pl':Value}{done:List (List ByteArray)}{cur:List ByteArray}{pvd:List Value}{pl:Value}{x:ByteArray} (h:JO w B Bl (ae gv (done.length+1) cap) done cur pvd pl) (hk:A1 w w3 pl.ownBlock.toList)
  (hown:w3.ownsRow Bl 9 1 pl' (cur.length+1) (cur.map Value.string++ [.string x])):JO (w3.setCell (af gv done.length) pl') B Bl (ae gv (done.length+1) cap) done (cur++ [x]) pvd pl':=by
 have hl:=h.pvl;have hrow:w3.ownsRow B 30 1 (ae gv (done.length+1) cap) (done.length+1) (pvd++ [pl]):=A8 h.row hk (fun q hq hm=>J3 h.row h.last (by decide) hq (BE hm));have hgv:∀{n b:Nat}{p:Value}{xs:List Value},w3.ownsRow b 9 1 p n xs->p.ownBlock≠some gv:=fun {n b p xs} hp hq=>J3 hp hrow (by decide) hq rfl
 refine⟨?_,hl,fun i r p hr hp=>?_,?_,h.hB,by simp[World.setCell];exact lT_ h.hBl hk.size⟩
 ·have:=YZ hrow (j:=done.length) pl'
  rwa [<-hl,List.set_append_right _ _ (lR_ _),Nat.sub_self,List.set_cons_zero,hl]at this
 ·have h1:=h.parts i r p hr hp
  have h2:=A8 h1.1 hk (fun q hq hm=>by
   have:=h1.2 q hq;have:=(h.last.lt q (BE hm)).1;omega)
  exact⟨ownsRow_setCell_other h2 (hgv h2) _,h1.2⟩
 ·have:=ownsRow_setCell_other (a:=(af gv done.length)) hown (hgv hown) pl'
  simpa using this
theorem Tryz.info30:(Tryz.prog.info? 30).map (fun i=>(i.zero,i.size,i.bytes))=some (some (.slice none 0 0),1,24):=by kernel_rfl
theorem kY (a sh:Nat) (p:Value) (l:List ByteArray) (w:World) (hW:EH w p l) (hl:3<=l.length) (hll:l.length<=4001):
  Calls Tryz.prog 100 #[.agg #[ab a,ab sh,p]] w fun e w'=>∃v Bl pvd pl,e=.returned v/\JO w' w.heap.size Bl v (pst (l.drop 3)).1 (pst (l.drop 3)).2 pvd pl/\Below w.heap.size w w':=by
 obtain⟨j0,ji,jz0,jz1,jz2⟩:=info_parts Tryz.info30;obtain⟨i0,hi,hz0,hz1,hz2⟩:=info_parts Tryz.info9;obtain⟨g,n,cap,ad,cs,rfl,h2,h3,h4,h5,h6,h7⟩:=hW;have had:=h7 (by omega);subst had;have hst:DK w g 0 l:=⟨lt_of_block h5,fun j hj=>by rw[Nat.zero_add,A0 h5];exact h6 j hj⟩;obtain⟨m,hm⟩:∃m,n=m+2:=⟨n - 2,by omega⟩;subst hm;obtain⟨c2,hc2⟩:∃c,cap=c+2:=⟨cap - 2,by omega⟩;subst hc2;have HST:Hid (DK w g 0 l):=hid hst;have HL:Hid (l.length=3+m):=hid (by omega);have hm4:m<=4000:=by omega
 clear h5 h6 h7 hst h2 hl hll;have hsz1:(w.alloc (.cells #[ab a,ab sh,.slice (some (af g 1)) (m+2) (c2+2)] 194)).heap.size=w.heap.size+1:=by simp
 have hR0:=JO.start (w.alloc (.cells #[ab a,ab sh,.slice (some (af g 1)) (m+2) (c2+2)] 194)) (B:=w.heap.size) (by simp);rw[hsz1]at hR0;have HB0:Hid (Below w.heap.size w ((w.alloc (.cells #[ab a,ab sh,.slice (some (af g 1)) (m+2) (c2+2)] 194)).alloc (.cells #[.slice none 0 0] 30))):=
  hid (((Below.refl _ _).alloc (lR_ _) _).alloc (by simp) _)
 have HR0:=hid hR0;clear hR0 hsz1
 by_cases hz:c2=0
 ·subst hz
  have hm0:m=0:=by omega
  subst hm0;have HE:Hid (pst (l.drop 3)=([],[])):=hid (by rw[List.drop_eq_nil_of_le y30Z];rfl)
  go_enter Tryz.func100,Tryz.ntmps100
  go_wp2
  go_loopw [3,12] (fun v i wr=>i=ab 0/\v=ae (w.heap.size+1) 1 1/\Hid (JO wr w.heap.size (w.heap.size+1+1) v [] [] [] (.slice none 0 0))/\Hid (Below w.heap.size w wr)) (fun _ i _=>0)
  case atStart=>exact⟨rfl,rfl,HR0,HB0⟩
  case round=>
   clear HR0 HB0;obtain⟨rfl,rfl,hR,hbr⟩:=hrel;go_wp2;go_ret;rw[HE.out];exact⟨_,_,_,_,rfl,hR.out,hbr.out⟩
 ·go_enter Tryz.func100,Tryz.ntmps100
  go_wp2
  go_loopw [3,12] (fun v i wr=>∃(k d gv cap Bl:Nat) (done:List (List ByteArray)) (cur:List ByteArray) (pvd:List Value) (pl:Value),k<=m/\d<=k/\i=ab k/\v=ae gv (d+1) cap/\Hid (done.length=d)/\Hid (cur.length<=k)/\
   Hid (pst ((l.take (3+k)).drop 3)=(done,cur))/\Hid (JO wr w.heap.size Bl v done cur pvd pl)/\Hid (Below w.heap.size w wr)) (fun _ i _=>m - (intOf i).toNat)
  case atStart=>exact⟨0,0,_,_,_,[],[],[],_,by omega,by omega,rfl,rfl,rfl,hid (by simp),hid (by rw[List.drop_eq_nil_of_le y2Z];rfl),HR0,HB0⟩
  case round=>
   clear HR0 HB0;obtain⟨k,d,gv,cap,Bl,done,cur,pvd,pl,hk,hdk,rfl,rfl,hd,hcl,hp,hR,hbr⟩:=hrel;have hsz:=hbr.out.size
   by_cases hlt:k<m
   ·have hc:wr.cell? (af g (3+k))=some (.string (nth l (3+k))):=by
     simpa using (HST.out.later hbr.out).2 (3+k) (by rw[HL.out];omega)
    have HN:=hid (pD (l:=l) (k:=k) (by rw[HL.out];omega));have hrow:=hR.out.row;rw[hd.out]at hrow;have hpd:pvd.length=d:=hR.out.pvl.trans hd.out;have HPD:Hid (pvd.length=d):=hid hpd;have hcd:wr.cell? (af gv d)=some pl:=by
     rw[hrow.cellAt d (by omega),<-hpd];simp
    have HP:=hid hp;clear hp hpd;cases hb:((nth l (3+k)).toList== [124])
    ·have HQ:Hid (pst ((l.take (3+k+1)).drop 3)=(done,cur++ [nth l (3+k)])):=hid (by
      rw[HN.out,HP.out.out];unfold DG I0;rw[hb];rfl)
     obtain⟨cn,hcn⟩:=qE (cur.length);have hcl2:cn<=4000:=by have:=hcl.out;omega
     have hlast:=hR.out.last;rw[hcn]at hlast;have HCN:Hid (cur.length=cn):=hid hcn;have hBB:=hR.out.hBl;have hBB2:=hR.out.hB;have HRow:=hid hrow;clear hcn hrow HN HP
     go_wp2_with (first
      | (at_builtin;refine wpList_append_lies _ rfl _ _ 30 rfl Bl 9 i0 (.string ByteArray.empty) 1 16 Tryz.underlying30 hi hz0 hz1 hz2 rfl (by decide) _ _ _ rfl (hlast.alloc _) (af wr.heap.size 0) 1 1 [.string (nth l (3+k))] rfl rfl (World.news_of_block (heap_alloc_new wr _)) ?c2 (lR_ 1) ?c3 ?c4 ?c5 _ rfl ?_))
     case c2=>intro u hu;simp at hu;subst hu;rfl
     case c3=>unfold maxLen;omega
     case c4=>omega
     case c5=>simp;omega
     intro g3 cap3 w3 hown3 hgrow3 hat3 hlt3;have hkeep:A1 wr w3 pl.ownBlock.toList:=((A1.refl _ _).alloc _).grown hgrow3 (fun q hq=>.inl y13Z);have hrow3:=A8 HRow.out hkeep (fun q hq hm=>J3 HRow.out hlast (by decide) hq (BE hm));have hc3:w3.cell? (af gv d)=some pl:=by
      rw[hrow3.cellAt d (by omega),<-HPD.out];simp
     have hf3:w3.frozen? (af gv d)=false:=by
      obtain⟨c,hc⟩:=BJ hrow3 (g:=gv) rfl;exact A3 hc
     have HB3:Hid (Below w.heap.size w (w3.setCell (af gv d) (ae g3 (cn+1) cap3))):=hid ((hbr.out.trans (hkeep.below hsz (fun q hq=>lT_ hBB2 (hlast.lt q (BE hq)).1))).setCell (by exact(HRow.out.lt gv rfl).1) _);have HR3:Hid (JO (w3.setCell (af gv d) (ae g3 (cn+1) cap3)) w.heap.size Bl (ae gv (d+1) cap) done (cur++ [nth l (3+k)]) pvd (ae g3 (cn+1) cap3)):=hid (by
      have h:=hR.out;have hdd:=hd.out;have hcc:=HCN.out;subst hdd;subst hcc;exact h.add hkeep hown3)
     clear hown3 hgrow3 hat3 hlt3 hkeep hrow3 hlast;go_wp2
     go_roundw
     case rel=>exact⟨k+1,d,gv,cap,Bl,done,_,pvd,_,by omega,by omega,by go_num,rfl,hd,hid (by have:=hcl.out;simp;omega),HQ,HR3,HB3⟩
     case measure=>simp[intOf];omega
    ·have HQ:Hid (pst ((l.take (3+k+1)).drop 3)=(done++ [cur],[])):=hid (by
      rw[HN.out,HP.out.out];unfold DG I0;rw[hb];rfl)
     clear HN HP
     go_wp2_with (first
      | (at_builtin;refine wpList_append_lies _ rfl _ _ 34 rfl w.heap.size 30 j0 (.slice none 0 0) 1 24 Tryz.underlying34 ji jz0 jz1 jz2 rfl (by decide) _ _ _ rfl (hrow.alloc _) (af wr.heap.size 0) 1 1 [.slice none 0 0] rfl rfl (World.news_of_block (heap_alloc_new wr _)) ?d2 (lR_ 1) ?d3 ?d4 ?d5 _ rfl ?_))
     case d2=>intro u hu;simp at hu;subst hu;rfl
     case d3=>unfold maxLen;omega
     case d4=>omega
     case d5=>simp;omega
     intro g3 cap3 w3 hown3 hgrow3 hat3 hlt3;have hkeep:A1 wr w3 (ae gv (d+1) cap).ownBlock.toList:=((A1.refl _ _).alloc _).grown hgrow3 (fun q hq=>.inl y13Z);have HB3:Hid (Below w.heap.size w w3):=hid (hbr.out.trans (hkeep.below hsz (fun q hq=>(hrow.lt q (BE hq)).1)));have HR3:Hid (JO w3 w.heap.size w3.heap.size (ae g3 (d+1+1) cap3) (done++ [cur]) [] (pvd++ [pl]) (.slice none 0 0)):=hid (by
      have h:=hR.out;have hdd:=hd.out;subst hdd;exact h.bar hkeep (by simpa using hown3))
     clear hown3 hgrow3 hat3 hlt3 hkeep hrow;go_wp2
     go_roundw
     case rel=>exact⟨k+1,d+1,g3,cap3,_,done++ [cur],[],pvd++ [pl],_,by omega,by omega,by go_num,rfl,hid (by simp[hd.out]),hid (by simp),HQ,HR3,HB3⟩
     case measure=>simp[intOf];omega
   ·have HE:Hid (pst (l.drop 3)=(done,cur)):=hid (by
     have:=hp.out
     rwa [List.take_of_length_le y30Z]at this)
    go_wp2;go_ret;rw[HE.out];exact⟨_,_,_,_,rfl,hR.out,hbr.out⟩
end Go.Proofs.YtjjggdcnpndgjabGreatDoor
