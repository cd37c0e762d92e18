import Derived.Test.YtjjggdcnpndgjaaGreatDoorHJ3
import Derived.Deep.LoopGhost
set_option linter.unusedSimpArgs false
set_option maxHeartbeats 1000000
set_option maxRecDepth 100000
namespace Go.Proofs.YtjjggdcnpndgjaaGreatDoor
abbrev dh:=@Go.World.news_of_block
abbrev dw:=@Go.heap_alloc_new
abbrev jc:=@Go.info_parts
abbrev jq:=@Go.wpList_append_lies
abbrev kq:=@Nat.sub_self
abbrev oz:=@List.filter_append
abbrev uk:=@List.foldl_append
abbrev uy:=@List.set_append_right
abbrev xd:=@List.set_cons_zero
abbrev xg:=@List.drop_append_of_le_length
abbrev yh:=@Nat.lt_trans
abbrev yj:=@List.any_append
open Go.RowKit
variable {B g k n:Nat}{l:List ByteArray}{v:Value}{w:World}
theorem Tryz.info325:(Tryz.prog.info? 325).map (λi=>(i.zero,i.size,i.bytes))=some (some (.agg #[ab 0,ab 0,.slice none 0 0]),3,40):=by kernel_rfl
def IP (j:Nat):ByteArray:=if j=0 then⟨#[116,111,107,101,110]⟩else if j=1 then⟨#[115,119,97,112]⟩else⟨#[114,117,108,101]⟩
def Dg (j i:Nat):Int:=if j=0 then(if i=0 then 1 else 3)else if j=1 then(if i=2 then 3 else 1)else(if i=0 then 2 else if i=1 then 4 else 5)
def VF (j:Nat) (l:List ByteArray):Bool:=if j=0 then D6 l else if j=1 then BQ l else CY l
theorem lF (j:Nat) (x:ByteArray):(x.toList==(IP j).toList)=(if j=0 then x.toList== [116,111,107,101,110]else if j=1 then x.toList== [115,119,97,112]else x.toList== [114,117,108,101]):=by
 unfold IP
 by_cases h0:j=0
 ·rw[aq h0,aq h0,jf ⟨#[116,111,107,101,110]⟩]
 by_cases h1:j=1
 ·rw[au h0,au h0,aq h1,aq h1,jf ⟨#[115,119,97,112]⟩]
 ·rw[au h0,au h0,au h1,au h1,jf ⟨#[114,117,108,101]⟩]
theorem MZ (j:Nat) (l:List ByteArray):DY j l=(((nth l 0).toList==(IP j).toList)&&VF j l):=by
 rw[lF];unfold DY VF
 by_cases h0:j=0
 ·simp only[aq h0]
 by_cases h1:j=1
 ·simp only[au h0,aq h1]
 ·simp only[au h0,au h1]
theorem t7 (j:Nat) (hj:j<3) (l:List ByteArray) (ad:Option Addr) (g n cap:Nat) (w:World) (hG:DT w) (hl:l.length=1+n) (hn:n<=4000) (hnc:n<=cap) (hcap:cap<=9223372036854775807) (hs:∀i,(nth l i).size<=4000) (hc:DL w g 0 l) (had:0<n->ad=some (af g 1)):
  Calls Tryz.prog 209 #[.agg #[.string (IP j),ab (Dg j 0),ab (Dg j 1),ab (Dg j 2)],.slice ad n cap] w λe w'=>e=.returned (.bool (VF j l))/\Below w.heap.size w w':=by
 have h':j=0\/j=1\/j=2:=by omega
 rcases h' with rfl |rfl |rfl
 ·exact rF l ad g n cap _ w hG hl hn hnc hcap hs hc had
 ·exact lH l ad g n cap _ w hG hl hn hnc hcap hs hc had
 ·exact kU l ad g n cap _ w hG hl hn hnc hcap hs hc had
theorem mN (j:Nat) (hj:j<3) (w:World):(Instr.index 340 (.agg #[.string ⟨#[116,111,107,101,110]⟩,ab 1,ab 3,ab 3,.string ⟨#[115,119,97,112]⟩,ab 1,ab 1,ab 3,.string ⟨#[114,117,108,101]⟩,ab 2,ab 4,ab 5]) (ab j)).run Tryz.prog w=
  .ok (.agg #[.string (IP j),ab (Dg j 0),ab (Dg j 1),ab (Dg j 2)]) w:=by
 have h':j=0\/j=1\/j=2:=by omega
 have t0:(Instr.index 340 (.agg #[.string ⟨#[116,111,107,101,110]⟩,ab 1,ab 3,ab 3,.string ⟨#[115,119,97,112]⟩,ab 1,ab 1,ab 3,.string ⟨#[114,117,108,101]⟩,ab 2,ab 4,ab 5]) (ab 0)).run Tryz.prog w=.ok (.agg #[.string ⟨#[116,111,107,101,110]⟩,ab 1,ab 3,ab 3]) w:=by kernel_rfl
 have t1:(Instr.index 340 (.agg #[.string ⟨#[116,111,107,101,110]⟩,ab 1,ab 3,ab 3,.string ⟨#[115,119,97,112]⟩,ab 1,ab 1,ab 3,.string ⟨#[114,117,108,101]⟩,ab 2,ab 4,ab 5]) (ab 1)).run Tryz.prog w=.ok (.agg #[.string ⟨#[115,119,97,112]⟩,ab 1,ab 1,ab 3]) w:=by kernel_rfl
 have t2:(Instr.index 340 (.agg #[.string ⟨#[116,111,107,101,110]⟩,ab 1,ab 3,ab 3,.string ⟨#[115,119,97,112]⟩,ab 1,ab 1,ab 3,.string ⟨#[114,117,108,101]⟩,ab 2,ab 4,ab 5]) (ab 2)).run Tryz.prog w=.ok (.agg #[.string ⟨#[114,117,108,101]⟩,ab 2,ab 4,ab 5]) w:=by kernel_rfl
 rcases h' with rfl |rfl |rfl
 ·exact t0
 ·exact t1
 ·exact t2
theorem TQ {ds:List (Nat × List ByteArray)}{x:Nat × List ByteArray} (h:x.2.length=1):AF (ds++ [x])=AF ds:=by
 unfold AF;simp[oz,h]
theorem iG {ds:List (Nat × List ByteArray)}{x:Nat × List ByteArray} (h:¬x.2.length=1):AF (ds++ [x])=AF ds++ [(x.1,AW x.2,x.2)]:=by
 unfold AF;simp[oz,h]
theorem sC (ln:ByteArray) (W:World) (hG:DT W) (hs:ln.size<=4000):Calls Tryz.prog 208 #[.string ln,.string ⟨#[32]⟩] W λe w'=>
  ∃g,e=.returned (ae g (A9 ln).length (A9 ln).length)/\W.heap.size<=g/\w'.heap[g]?=some (.cells ((A9 ln).map Value.string).toArray 9 (0,0))/\Below W.heap.size W w':=by
 obtain⟨m,hm⟩:=hG.max;refine(Tryz.strings_Split ln ⟨#[32]⟩ m W (by omega) hm (yF 1)).mono ?_;rintro e w' ⟨rfl,rfl⟩;rw[SD,NR];exact⟨_,rfl,yF _,dw _ _,(ah _ _).alloc (yF _) _⟩
theorem o4  (h:w.heap[g]?=some (.cells (l.map Value.string).toArray 9 (0,0))):DL w g 0 l:=by
 refine⟨ak h,λj hj=>?_⟩;rw[jl,A0 h];unfold nth;simp[gE hj]
theorem uN {ad:Option Addr} (h:w.heap[g]?=some (.cells (l.map Value.string).toArray 9 (0,0))) (hl:l.length=1+n) (hn:n<=4000) (had:0<n->ad=some (af g 1)):EM w (.slice ad n n) l:=by
 refine⟨g,n,n,ad,_,rfl,hl,yF _,by omega,h,λj hj=>?_,had⟩;unfold nth;simp[gE hj]
theorem N6 {w':World} (h:w'=w.drewN n):Below w.heap.size w w':=by subst h;exact⟨rfl,rfl,rfl,yF _,λ_ _=>rfl⟩
theorem mZ (s:ByteArray) (w:World) (hG:DT w) (hs:s.size<=4000):
  Calls Tryz.prog 166 #[.string s] w λe w'=>∃v pv,e=.returned (.tuple #[v,ab (AG s 0).2])/\Ac w' w.heap.size v (AF (AG s 0).1) pv/\Below w.heap.size w w':=by
 obtain⟨i0,hi,hz0,hz1,hz2⟩:=jc Tryz.info325;have HG:Hid (DT w):=hid hG;clear hG
 go_enter Tryz.func166,Tryz.ntmps166
 go_wp2
 go_step3
 go_wp2
 go_step3
 go_wp2
 go_loopg [2,3] s.size (λg v a wr=>∃(k:Nat) (ds:List (Nat × List ByteArray)) (pv:List Value),k+g=s.size/\a=ab k/\Hid (AG s 0=(ds++(AG s k).1,(AG s k).2))/\Hid ((AF ds).length<=k)/\
  Hid (Ac wr w.heap.size v (AF ds) pv)/\Hid (Below w.heap.size w wr))
 case atStart=>exact⟨0,[],[],by omega,rfl,hid (by simp),hid (by simp[AF]),Ac.nil _ _,ah _ _⟩
 case round=>
  obtain⟨k,ds,pv,hkg,rfl,hsc,Jb,hV,hbr⟩:=hrel;have hsz:=hbr.out.size;have Fq:Hid (DT wr):=hid (HG.out.below hbr.out HG.out.size)
  by_cases hlt:k<s.size
  ·obtain⟨ln,nx,Dn⟩:∃ln nx,BR s k=(ln,nx):=⟨_,_,rfl⟩
   have hcut:=qS s k;rw[Dn]at hcut
   by_cases h0:nx=0
   ·have cC:Hid (Calls Tryz.prog 207 #[.string (s.extract k s.size),.string ⟨#[10]⟩] wr λe w'=>(∃a b,e=.returned (.tuple #[.string a,.string b,.bool false]))/\Below wr.heap.size wr w'):=hid (by
     obtain⟨m,hm⟩:=Fq.out.max;refine(Tryz.strings_Cut (s.extract k s.size) ⟨#[10]⟩ m wr yM hm).mono ?_;rintro e w' ⟨rfl,n,hn⟩;exact⟨⟨_,_,by rw[hcut.2 h0]⟩,N6 hn⟩)
    have HE:Hid (AG s 0=(ds,k)):=hid (by
     rw[hsc.out,Y6 hlt (.inl (by rw[Dn];exact h0))];simp)
    clear hsc hcut Dn
    go_wp2_with (go_at_call 207;refine cC.out.mono ?_;rintro e w1 ⟨⟨ca,cb,rfl⟩,hb1⟩)
    rw[Exit.noGoto_ret]
    go_ret2
    rw[HE.out];exact⟨_,_,rfl,hV.out.below hb1,hbr.out.trans (hb1.mono hsz)⟩
   ·have cC:Hid (Calls Tryz.prog 207 #[.string (s.extract k s.size),.string ⟨#[10]⟩] wr λe w'=>(∃b,e=.returned (.tuple #[.string ln,.string b,.bool true]))/\Below wr.heap.size wr w'):=hid (by
     obtain⟨m,hm⟩:=Fq.out.max;refine(Tryz.strings_Cut (s.extract k s.size) ⟨#[10]⟩ m wr yM hm).mono ?_;rintro e w' ⟨rfl,n,hn⟩;exact⟨⟨_,by rw[(hcut.1 h0).1,(hcut.1 h0).2]⟩,N6 hn⟩)
    have hgt:=JY (s:=s) (a:=k) (by rw[Dn];exact h0);rw[Dn]at hgt;simp only at hgt;have hnx:k+ln.size+1<=s.size:=by omega
    have hNX:nx.toNat=k+ln.size+1:=by omega
    have HL:Hid (AR (A9 ln)=true->AG s 0=((ds++ [(k,A9 ln)])++(AG s (k+ln.size+1)).1,(AG s (k+ln.size+1)).2)):=hid λh=>by
     rw[hsc.out,V5 hlt (by rw[Dn];exact h0) (by rw[Dn];exact h),Dn];simp only[hNX];simp
    have HB:Hid (AR (A9 ln)=false->AG s 0=(ds,k)):=hid λh=>by
     rw[hsc.out,Y6 hlt (.inr (by rw[Dn];exact h))];simp
    have hlz:ln.size<=4000:=by omega
    clear hsc hcut Dn hgt hNX h0;cases he:ln.toList.isEmpty
    ·have HW:Hid (AR (A9 ln)=(DY 0 (A9 ln)||(DY 1 (A9 ln)||DY 2 (A9 ln)))):=hid (YZ he)
     have Au:=VI ln;have hwz:=λi=>y5 (SV ln i) hlz
     obtain⟨L,hn⟩:=qE ((A9 ln).length);have cS:Hid (∀W,DT W->Calls Tryz.prog 208 #[.string ln,.string ⟨#[32]⟩] W λe w'=>
      ∃g,e=.returned (ae g L L)/\W.heap.size<=g/\w'.heap[g]?=some (.cells ((A9 ln).map Value.string).toArray 9 (0,0))/\Below W.heap.size W w'):=hid λW hW=>by
       rw[<-hn];exact sC ln W hW hlz
     rw[hn]at Au;have HN:Hid ((A9 ln).length=L):=hid hn;clear hn;have Nd:(0:Int)<L:=by omega
     have Cb:(1:Int)<=L:=by omega
     have hL2:0<L:=by omega
     have hL3:1<=L:=by omega
     go_wp2_with (first
      | (go_at_call 207;refine cC.out.mono ?_;rintro e w1 ⟨⟨cb,rfl⟩,hb1⟩)
      | (go_at_call 208;refine(cS.out _ (Fq.out.below hb1 Fq.out.size)).mono ?_;rintro e w2 ⟨g,rfl,hg,hblk,hb2⟩;obtain⟨tS,fS,ae1⟩:=((Fq.out.below hb1 Fq.out.size).below hb2 (Fq.out.below hb1 Fq.out.size).size).shapes)
      | (refine wpList_load_row rfl 340 _ rfl 0 rfl _ _ _ _ ae1 Tryz.underlying340 rfl yg ?_))
     have HK:Hid (DL w2 g 0 (A9 ln)):=hid (o4 hblk);have HBk:Hid (w2.heap[g]?=some (.cells ((A9 ln).map Value.string).toArray 9 (0,0))):=hid hblk;have yV:Hid (Below wr.heap.size wr w2):=hid (hb1.trans (hb2.mono hb1.size));have HG2:Hid (DT w2):=hid (Fq.out.below yV.out Fq.out.size);have Er:Hid (Ac w2 w.heap.size u2 (AF ds) pv):=hid (hV.out.below yV.out);have Lf:Hid (Below w.heap.size w w2):=hid (hbr.out.trans (yV.out.mono hsz));have Bf:=ak hblk;clear cC cS hb1 hb2 hblk ae1 Fq hV hbr yV
     go_loopg [2,3,36] 3 (λgi v' a' i wi=>∃j:Nat,j+gi=3/\v'=u2/\a'=ab k/\i=ab j/\Hid (∀t,t<j->DY t (A9 ln)=false)/\Hid (Below w2.heap.size w2 wi))
     case atStart=>exact⟨0,by omega,rfl,rfl,rfl,hid (λt h=>by omega),hid (ah _ _)⟩
     case round=>
      obtain⟨j,hjg,rfl,rfl,rfl,hno,Cr⟩:=hrel
      by_cases hj:j<3
      ·have hix:=mN j hj
       have c0:wr.cell? (af g 0)=some (.string (nth (A9 ln) 0)):=by
        have h:=HK.out.later Cr.out;simpa using h.2 0 (by rw[HN.out];omega)
       have hgr:g<wr.heap.size:=lL Bf Cr.out.size;cases hq:((nth (A9 ln) 0).toList==(IP j).toList)
       ·have HF:Hid (DY j (A9 ln)=false):=hid (by rw[MZ,hq];rfl)
        go_wp2
        go_quiet (fail)
        go_wp2
        go_roundg (gk - 1)
        case measure=>omega
        case rel=>exact⟨j+1,by omega,rfl,rfl,by go_num,hid (EY hno.out HF.out),hid ((Cr.out.alloc Cr.out.size _).trans (N6 rfl |>.mono (by have:=Cr.out.size;simp;omega)))⟩
       ·obtain⟨W2,hW2⟩:=qF (wr.alloc (.cells #[.string (IP j),ab (Dg j 0),ab (Dg j 1),ab (Dg j 2)] 339))
        have hb2:W2.heap[wr.heap.size]?=some (.cells #[.string (IP j),ab (Dg j 0),ab (Dg j 1),ab (Dg j 2)] 339 (0,0)):=by rw[hW2];exact dw _ _
        have Ak:Hid (Below wr.heap.size wr W2):=hid (by rw[hW2];exact(ah _ _).alloc (yF _) _);have c1:W2.cell? (af g 0)=some (.string (nth (A9 ln) 0)):=(Ak.out.cell hgr).trans c0;have c2:W2.cell? (af wr.heap.size 0)=some (.string (IP j)):=by rw[A0 hb2];rfl
        go_wp2;rw[<-hW2];clear hW2;have c3:W2.cell? (af wr.heap.size 1)=some (ab (Dg j 0)):=by rw[A0 hb2];rfl
        have c4:W2.cell? (af wr.heap.size 2)=some (ab (Dg j 1)):=by rw[A0 hb2];rfl
        have c5:W2.cell? (af wr.heap.size 3)=some (ab (Dg j 2)):=by rw[A0 hb2];rfl
        have HWr:Hid (wr.heap.size<W2.heap.size/\g<W2.heap.size):=hid ⟨ak hb2,yh hgr (ak hb2)⟩;have Eg:Hid (DT W2.drew/\DL W2.drew g 0 (A9 ln)):=by
         have hbd:Below w2.heap.size w2 W2:=Cr.out.trans (Ak.out.mono Cr.out.size);have Hz:Below w2.heap.size w2 W2.drew:=hbd.trans ⟨rfl,rfl,rfl,yF _,λ_ _=>rfl⟩;exact hid ⟨HG2.out.below Hz HG2.out.size,HK.out.later Hz⟩
        have cF:Hid (∀ad,(0<L - 1->ad=some (af g 1))->Calls Tryz.prog 209 #[.agg #[.string (IP j),ab (Dg j 0),ab (Dg j 1),ab (Dg j 2)],.slice ad (L - 1) (L - 1)] W2.drew λe w'=>e=.returned (.bool (VF j (A9 ln)))/\
          w'.cell? (af g 0)=some (.string (nth (A9 ln) 0))/\w'.cell? (af wr.heap.size 0)=some (.string (IP j))/\w'.cell? (af wr.heap.size 1)=some (ab (Dg j 0))/\w'.cell? (af wr.heap.size 2)=some (ab (Dg j 1))/\
          w'.cell? (af wr.heap.size 3)=some (ab (Dg j 2))/\Below W2.heap.size W2 w'):=hid λad had=>by
         refine(t7 j hj (A9 ln) ad g (L - 1) (L - 1) _ Eg.out.1 (by rw[HN.out];omega) (by omega) (yF _) (by omega) hwz Eg.out.2 had).mono ?_;rintro e w1 ⟨rfl,Lg⟩;have Lg:Below W2.heap.size W2 w1:=(⟨rfl,rfl,rfl,yF _,λ_ _=>rfl⟩:Below W2.heap.size W2 W2.drew).trans Lg;exact⟨rfl,(Lg.cell HWr.out.2).trans c1,(Lg.cell HWr.out.1).trans c2,(Lg.cell HWr.out.1).trans c3,(Lg.cell HWr.out.1).trans c4,(Lg.cell HWr.out.1).trans c5,Lg⟩
        clear hb2;obtain⟨b,hb⟩:=qF (wr.heap.size);rw[<-hb]at c2 c3 c4 c5 HWr cF;rw[<-hb];clear hb
        go_region_held3 (λw'=>w'.cell? (af g 0)=some (.string (nth (A9 ln) 0))/\w'.cell? (af b 0)=some (.string (IP j))/\w'.cell? (af b 1)=some (ab (Dg j 0))/\w'.cell? (af b 2)=some (ab (Dg j 1))/\
         w'.cell? (af b 3)=some (ab (Dg j 2))/\Hid (Below W2.heap.size W2 w')) ((refine⟨?_,?_,?_,?_,?_,?_⟩;go_keep;go_keep;go_keep;go_keep;go_keep;first |exact hid ⟨rfl,rfl,rfl,yF _,λ_ _=>rfl⟩ |exact hid Lg |assumption))
         (first | (go_at_call 209;refine(cF.out _ (λh0=>au (by omega))).mono ?_;rintro e w1 ⟨rfl,k0,k1,k2,k3,k4,Lg⟩;try dsimp only))
        cases hlk:VF j (A9 ln)
        ·have HF:Hid (DY j (A9 ln)=false):=hid (by rw[MZ,hq,hlk];rfl)
         obtain⟨adl,ae2⟩:=qF ((if L=1 then some ((af g 0):Addr)else some (af g 1)));rw[<-ae2];clear ae2;go_wp2
         go_roundg (gk - 1)
         case measure=>omega
         case rel=>exact⟨j+1,by omega,rfl,rfl,by go_num,hid (EY hno.out HF.out),hid (Cr.out.trans (Ak.out.trans (Lg.mono Ak.out.size) |>.mono Cr.out.size))⟩
        ·have hFt:DY j (A9 ln)=true:=by rw[MZ,hq,hlk];rfl
         have hsf:=jM hj hFt;have hIL:AR (A9 ln)=true:=by
          rw[HW.out];have h':j=0\/j=1\/j=2:=by omega
          rcases h' with rfl |rfl |rfl <;> rw[hFt] <;> simp
         have HS:=hid (HL.out hIL);have HP:Hid (AF (ds++ [(k,A9 ln)])=AF ds++ [(k,j,A9 ln)]):=hid (by rw[iG hsf.2,hsf.1]);have hne:¬L=1:=λe=>hsf.2 (HN.out.trans e)
         clear HL HB HW hFt hsf hIL;have hbz:Below w2.heap.size w2 w1:=Cr.out.trans ((Ak.out.trans (Lg.mono Ak.out.size)).mono Cr.out.size);have Ef:Ac w1 w.heap.size u2 (AF ds) pv:=Er.out.below hbz;have y6:Below w.heap.size w w1:=Lf.out.trans (hbz.mono Lf.out.size);have Ho:Hid (EM w1 (.slice (some (af g 1)) (L - 1) (L - 1)) (A9 ln)):=hid (uN ((hbz.block g Bf).trans HBk.out) (by rw[HN.out];omega) (by omega) (λ_=>rfl));have Vt:=hid Ef;have Hp:=hid y6;clear hbz y6;have hsw:=Hp.out.size;have hrow:=Ef.row;clear Ef;have Dz:(AF ds).length<=4000:=by have:=Jb.out;omega
         go_wp2_with (first
          | (at_builtin;refine jq _ rfl _ _ 222 rfl w.heap.size 325 i0 (.agg #[ab 0,ab 0,.slice none 0 0]) 3 40 Tryz.underlying222 hi hz0 hz1 hz2 rfl (by decide) _ _ _ rfl (hrow.alloc _) (af w1.heap.size 0) 1 1 [ab k,ab j,.slice (some (af g 1)) (L - 1) (L - 1)] rfl rfl (dh (dw w1 _)) ?c2 (yF 1) ?c3 ?c4 ?c5 _ rfl ?_))
         case c2=>intro u hu;simp at hu;rcases hu with rfl |rfl |rfl <;> rfl
         case c3=>unfold maxLen;omega
         case c4=>omega
         case c5=>simp;omega
         intro g3 Am w3 zO zM Fu Eh;have HL3:Hid (Ac w3 w.heap.size (ae g3 ((AF ds).length+1) Am) (AF ds++ [(k,j,A9 ln)]) (pv++ [.slice (some (af g 1)) (L - 1) (L - 1)])):=
          hid (Vt.out.push (((A1.refl _ _).alloc _).grown zM (λq hq=>.inl Fp)) Ho.out zO)
         have zy:Hid (Below w.heap.size w w3):=hid ((Hp.out.alloc hsw (.cells #[ab k,ab j,.slice (some (af g 1)) (L - 1) (L - 1)] 325)).grown zM yM (λg hg=>(hrow.lt g hg).1));clear zO zM Fu Eh;go_wp2
         go_roundg (s.size - (k+ln.size+1))
         case measure=>omega
         case rel=>exact⟨k+ln.size+1,ds++ [(k,A9 ln)],_,by omega,by go_num,HS,hid (by rw[HP.out];have:=Jb.out;simp;omega),hid (by rw[HP.out];exact HL3.out),zy⟩
      ·have hj3:j=3:=by omega
       have HE:Hid (AG s 0=(ds,k)):=hid (HB.out (by
        rw[HW.out,hno.out 0 (by omega),hno.out 1 (by omega),hno.out 2 (by omega)];rfl))
       clear HL HB HW;go_wp2
       try rw[Exit.noGoto_ret]
       go_ret2
       rw[HE.out];exact⟨_,_,rfl,Er.out.below Cr.out,Lf.out.trans (Cr.out.mono Lf.out.size)⟩
    ·have HS:=hid (HL.out (SP he).2)
     have HP:Hid (AF (ds++ [(k,A9 ln)])=AF ds):=hid (TQ (SP he).1);clear HL HB
     go_wp2_with (go_at_call 207;refine cC.out.mono ?_;rintro e w1 ⟨⟨cb,rfl⟩,hb1⟩)
     go_roundg (s.size - (k+ln.size+1))
     case measure=>omega
     case rel=>exact⟨k+ln.size+1,ds++ [(k,A9 ln)],pv,by omega,by go_num,HS,hid (by rw[HP.out];have:=Jb.out;omega),hid (by rw[HP.out];exact hV.out.below hb1),hid (hbr.out.trans (hb1.mono hsz))⟩
  ·have HE:Hid (AG s 0=(ds,k)):=hid (by rw[hsc.out,YB hlt];simp)
   clear hsc;go_wp2
   try rw[Exit.noGoto_ret]
   go_ret2
   rw[HE.out];exact⟨_,_,rfl,hV.out,hbr.out⟩
def BC (sh:Nat) (l:List ByteArray):ByteArray:=if sh=1 then ByteArray.empty else nth l 1
theorem RO (a sh:Nat) (p:Value) (l:List ByteArray) (w:World) (hW:EM w p l) (hl:2<=l.length) (Dz:l.length<=4001):
  Calls Tryz.prog 210 #[.agg #[ab a,ab sh,p]] w λe w'=>e=.returned (.string (BC sh l))/\Below w.heap.size w w':=by
 obtain⟨g,n,cap,ad,cs,rfl,h2,h3,h4,h5,h6,h7⟩:=hW;have had:=h7 (by omega);subst had;have c1:w.cell? (af g 1)=some (.string (nth l 1)):=by rw[A0 h5];exact h6 1 (by omega)
 have hg:=ak h5;have hn:0<n:=by omega
 have hb0:Hid (Below w.heap.size w (w.alloc (.cells #[ab a,ab sh,.slice (some (af g 1)) n cap] 325))):=hid ((ah _ _).alloc (yF _) _);clear h5 h6 h7 h2 hl Dz
 by_cases hs:sh=1
 ·have HE:Hid (BC sh l=ByteArray.empty):=hid (by unfold BC;rw[aq hs])
  subst hs
  go_enter Tryz.func210,Tryz.ntmps210
  go_wp2;go_ret;exact⟨by rw[HE.out];rfl,hb0.out⟩
 ·have HE:Hid (BC sh l=nth l 1):=hid (by unfold BC;rw[au hs])
  have hs2:¬((sh:Int)=1):=by omega
  clear hs
  go_enter Tryz.func210,Tryz.ntmps210
  go_wp2;go_ret;exact⟨by rw[HE.out];rfl,hb0.out⟩
theorem Ac.at {w:World}{B g n cap:Nat}{ls:List (Nat × Nat × List ByteArray)}{pv:List Value} (h:Ac w B (ae g n cap) ls pv) {j:Nat}{x:Nat × Nat × List ByteArray} (hx:ls[j]?=some x):
  ∃p,pv[j]?=some p/\EM w p x.2.2/\w.cell? (af g (j*3))=some (ab x.1)/\w.cell? (af g (j*3+1))=some (ab x.2.1)/\w.cell? (af g (j*3+2))=some p:=by
 have hj:=(yS.1 hx).1;obtain⟨p,hp⟩:∃p,pv[j]?=some p:=⟨_,gE (by rw[h.Cz];exact hj)⟩;refine⟨p,hp,h.Dm j x p hx hp,?_⟩;have hz:(ls.zip pv)[j]?=some (x,p):=by
  rw[List.getElem?_zip_eq_some];exact⟨hx,hp⟩
 have h3:=λi hi=>wZ (λt:(Nat × Nat × List ByteArray) × Value=>[ab t.1.1,ab t.1.2.1,t.2]) (λ_=>rfl) (ls.zip pv) j (x,p) i hz hi
 have hn:ls.length=n:=by
  rcases h.row.2 with⟨e,_⟩ | ⟨g',cap',cur,e,_⟩
  ·cases e
  ·cases e;rfl
 have hr:=h.row;rw[hn]at hr hj;refine⟨?_,?_,?_⟩
 ·rw[hr.cellAt _ (by omega)];exact h3 0 (by omega)
 ·rw[hr.cellAt _ (by omega)];exact h3 1 (by omega)
 ·rw[hr.cellAt _ (by omega)];exact h3 2 (by omega)
theorem Ac.form {ls:List (Nat × Nat × List ByteArray)}{pv:List Value} (h:Ac w B v ls pv):
  (v=.slice none 0 0/\ls=[])\/∃g cap,v=ae g ls.length cap/\ls.length<=cap/\g<w.heap.size:=by
 rcases h.row.2 with⟨h1,h2⟩ | ⟨g,cap,cur,h1,_,hh,hnc,_⟩
 ·exact .inl ⟨h1,qy h2⟩
 ·exact .inr ⟨g,cap,h1,hnc,ak hh⟩
theorem dL {α:Type}{l:List α}{q:α->Bool}{x:α} (hx:l[k]?=some x) (h0:(l.take k).any q=false) (h:q x=false):(l.take (k+1)).any q=false:=by
 obtain⟨hk,e⟩:=yS.1 hx;rw[gz hk,yj,h0,e];simp[h]
theorem sX {α:Type}{l:List α}{q:α->Bool}{x:α} (hx:l[k]?=some x) (h:q x=true):l.any q=true:=ot.2 ⟨x,mG hx,h⟩
theorem QO (v:Value) (ls:List (Nat × Nat × List ByteArray)) (pv:List Value) (B:Nat) (w:World) (hV:Ac w B v ls pv) (hn:ls.length<=4000):
  Calls Tryz.prog 169 #[v] w λe w'=>e=.returned (.bool (ls.any λx=>x.2.1==2))/\Below w.heap.size w w':=by
 rcases hV.form with⟨rfl,rfl⟩ | ⟨g,cap,rfl,hnc,hg⟩
 ·clear hV
  go_enter Tryz.func169,Tryz.ntmps169
  go_wp2
  go_loopw [7] (λi wr=>i=ab 0/\wr=w) (λi _=>0)
  case atStart=>exact⟨rfl,rfl⟩
  case round=>
   obtain⟨rfl,rfl⟩:=hrel;go_wp2;go_ret;exact⟨rfl,ah _ _⟩
 ·obtain⟨n,hN⟩:=qF (ls.length)
  rw[<-hN]at hn hnc hV ⊢;have HN:Hid (n=ls.length):=hid hN;have HV:=hid hV;clear hN hV
  go_enter Tryz.func169,Tryz.ntmps169
  go_wp2
  go_loopw [7] (λi wr=>∃k:Nat,k<=n/\i=ab k/\Hid ((ls.take k).any (λx=>x.2.1==2)=false)/\Hid (Below w.heap.size w wr)) (λi _=>n - (intOf i).toNat)
  case atStart=>exact⟨0,bu _,rfl,rfl,ah _ _⟩
  case round=>
   obtain⟨k,hk,rfl,hno,hbr⟩:=hrel;have hsz:=hbr.out.size
   by_cases hlt:k<n
   ·obtain⟨x,hx⟩:∃x,ls[k]?=some x:=⟨_,gE Iz⟩
    obtain⟨p,hp,⟨gw,m,mc,ad,cs,rfl,_⟩,k0,k1,k2⟩:=(HV.out.below hbr.out).at hx;clear hp;obtain⟨a,sh,l⟩:=x;simp only at k0 k1 k2;have hgr:g<wr.heap.size:=lL hg hsz;have yR:Hid (Below w.heap.size w (wr.alloc (.cells #[ab a,ab sh,.slice ad m mc] 325))):=hid (hbr.out.alloc hsz _);cases hs2:((sh:Int)==2)
    ·have HF:=hid (dL (q:=λx=>x.2.1==2) hx hno.out (by simp at hs2 ⊢;omega))
     go_wp2
     go_roundw
     case rel=>exact⟨k+1,by omega,by go_num,HF,yR⟩
     case measure=>simp[intOf];omega
    ·have HF:=hid (sX (q:=λx=>x.2.1==2) hx (by simp at hs2 ⊢;omega))
     go_wp2;go_ret;exact⟨BV HF.out,yR.out⟩
   ·have HE:Hid (ls.any (λx=>x.2.1==2)=false):=hid (by
     have:=hno.out
     rwa [jk Iz]at this)
    go_wp2;go_ret;exact⟨BV HE.out,hbr.out⟩
def DG (st:List (List ByteArray) × List ByteArray) (x:ByteArray):List (List ByteArray) × List ByteArray:=if I5 x then(st.1++ [st.2],[])else(st.1,st.2++ [x])
def Ei (l:List ByteArray):List (List ByteArray) × List ByteArray:=l.foldl DG ([],[])
def A8 (l:List ByteArray):List (List ByteArray):=(Ei (l.drop 3)).1++ [(Ei (l.drop 3)).2]
theorem rA  (hk:3+k<l.length):Ei ((l.take (3+k+1)).drop 3)=DG (Ei ((l.take (3+k)).drop 3)) (nth l (3+k)):=by
 rw[gz hk,xg yM];unfold Ei nth;rw[uk,zh,gE hk];rfl
structure JN (w:World) (B Bl:Nat) (v:Value) (done:List (List ByteArray)) (cur:List ByteArray) (Cc:List Value) (pl:Value):Prop where
 row:w.ownsRow B 39 1 v (done.length+1) (Cc++ [pl])
 Cz:Cc.length=done.length
 parts:∀(i:Nat) (r:List ByteArray) (p:Value),done[i]?=some r->Cc[i]?=some p->w.ownsRow B 9 1 p r.length (r.map Value.string)/\(∀q,p.ownBlock=some q->q<Bl)
 last:w.ownsRow Bl 9 1 pl cur.length (cur.map Value.string)
 hB:B<=Bl
 hBl:Bl<=w.heap.size
theorem JN.start (w:World)  (hB:B<=w.heap.size):JN (w.alloc (.cells #[.slice none 0 0] 39)) B (w.heap.size+1) (ae w.heap.size 1 1) [] [] [] (.slice none 0 0) where
 row:=⟨rfl,.inr ⟨_,_,_,rfl,hB,dw w _,yF _,by unfold maxLen;omega,rfl,rfl⟩⟩
 Cz:=rfl
 parts:=λi r p hr=>by simp at hr
 last:=je _ _ _ _
 hB:=by omega
 hBl:=by simp
theorem KX {B' e sz:Nat}{xs:List Value} (h:w.ownsRow B e sz v n xs) (hB:B'<=B):w.ownsRow B' e sz v n xs:=by
 refine⟨h.1,?_⟩
 rcases h.2 with h2 | ⟨g,cap,cur,hv,hg,r⟩
 ·exact .inl h2
 ·exact .inr ⟨g,cap,cur,hv,y5 hB hg,r⟩
theorem JN.Vu {w3:World}{Bl:Nat}{v':Value}{done:List (List ByteArray)}{cur:List ByteArray}{Cc:List Value}{pl:Value} (h:JN w B Bl v done cur Cc pl) (hk:A1 w w3 v.ownBlock.toList)
  (hown:w3.ownsRow B 39 1 v' (done.length+1+1) (Cc++ [pl]++ [.slice none 0 0])):JN w3 B w3.heap.size v' (done++ [cur]) [] (Cc++ [pl]) (.slice none 0 0):=by
 have hl:=h.Cz;have hoff:∀{n:Nat}{b:Nat}{p:Value}{xs:List Value},w.ownsRow b 9 1 p n xs->∀q,p.ownBlock=some q->q∉v.ownBlock.toList:=by
  intro n b p xs hp q hq hm;exact GG hp h.row (by decide) hq (BE hm)
 refine⟨by simpa using hown,by simp[hl],λi r p hr hp=>?_,je _ _ _ _,y5 (y5 h.hB h.hBl) hk.size,yF _⟩
 by_cases hi:i<done.length
 ·rw[aL hi]at hr
  rw[aL (by omega)]at hp;have h1:=h.parts i r p hr hp;exact⟨A7 h1.1 hk (hoff h1.1),λq hq=>lL (CJ h1.1 hq) hk.size⟩
 ·rw[zQ (by omega)]at hr
  rw[zQ (by omega)]at hp;obtain⟨h1,_⟩:=yS.1 hr;simp at h1;rw[show i - done.length=0 by omega]at hr;rw[show i - Cc.length=0 by omega]at hp;simp at hr hp;subst hr;subst hp;exact⟨A7 (KX h.last h.hB) hk (hoff h.last),λq hq=>lL (CJ h.last hq) hk.size⟩
theorem YX {e cap j:Nat}{xs:List Value} (h:w.ownsRow B e 1 (ae g n cap) n xs) (u:Value):(w.setCell (af g j) u).ownsRow B e 1 (ae g n cap) n (xs.set j u):=by
 rcases h.2 with⟨h1,_⟩ | ⟨g',cap',cur,hv,hg,hh,h1,h2,h3,h4⟩
 ·cases h1
 ·cases hv
  refine⟨by simpa using h.1,.inr ⟨g,cap,cur.setIfInBounds j u,rfl,hg,A6 hh u,h1,h2,by simpa using h3,?_⟩⟩;rw[Array.toList_setIfInBounds,<-h4,List.take_set]
theorem JN.add {w3:World}{Bl gv cap:Nat}{pl':Value}{done:List (List ByteArray)}{cur:List ByteArray}{Cc:List Value}{pl:Value}{x:ByteArray} (h:JN w B Bl (ae gv (done.length+1) cap) done cur Cc pl) (hk:A1 w w3 pl.ownBlock.toList)
  (hown:w3.ownsRow Bl 9 1 pl' (cur.length+1) (cur.map Value.string++ [.string x])):JN (w3.setCell (af gv done.length) pl') B Bl (ae gv (done.length+1) cap) done (cur++ [x]) Cc pl':=by
 have hl:=h.Cz;have hrow:w3.ownsRow B 39 1 (ae gv (done.length+1) cap) (done.length+1) (Cc++ [pl]):=A7 h.row hk (λq hq hm=>GG h.row h.last (by decide) hq (BE hm));have Kc:∀{n b:Nat}{p:Value}{xs:List Value},w3.ownsRow b 9 1 p n xs->p.ownBlock≠some gv:=λ{n b p xs} hp hq=>GG hp hrow (by decide) hq rfl
 refine⟨?_,hl,λi r p hr hp=>?_,?_,h.hB,by simp[World.setCell];exact y5 h.hBl hk.size⟩
 ·have:=YX hrow (j:=done.length) pl'
  rwa [<-hl,uy _ _ (yF _),kq,xd,hl]at this
 ·have h1:=h.parts i r p hr hp
  have h2:=A7 h1.1 hk (λq hq hm=>by
   have:=h1.2 q hq;have:=(h.last.lt q (BE hm)).1;omega)
  exact⟨ue h2 (Kc h2) _,h1.2⟩
 ·have:=ue (a:=(af gv done.length)) hown (Kc hown) pl'
  simpa using this
theorem Tryz.info39:(Tryz.prog.info? 39).map (λi=>(i.zero,i.size,i.bytes))=some (some (.slice none 0 0),1,24):=by kernel_rfl
theorem pH (a sh:Nat) (p:Value) (l:List ByteArray) (w:World) (hW:EM w p l) (hl:3<=l.length) (Dz:l.length<=4001):
  Calls Tryz.prog 202 #[.agg #[ab a,ab sh,p]] w λe w'=>∃v Bl Cc pl,e=.returned v/\JN w' w.heap.size Bl v (Ei (l.drop 3)).1 (Ei (l.drop 3)).2 Cc pl/\Below w.heap.size w w':=by
 obtain⟨j0,ji,jz0,jz1,jz2⟩:=jc Tryz.info39;obtain⟨i0,hi,hz0,hz1,hz2⟩:=jc Tryz.info9;obtain⟨g,n,cap,ad,cs,rfl,h2,h3,h4,h5,h6,h7⟩:=hW;have had:=h7 (by omega);subst had;have hst:DL w g 0 l:=⟨ak h5,λj hj=>by rw[jl,A0 h5];exact h6 j hj⟩;obtain⟨m,hm⟩:∃m,n=m+2:=⟨n - 2,by omega⟩;subst hm;obtain⟨c2,hc2⟩:∃c,cap=c+2:=⟨cap - 2,by omega⟩;subst hc2;have HST:Hid (DL w g 0 l):=hid hst;have HL:Hid (l.length=3+m):=hid (by omega);have Oz:m<=4000:=by omega
 clear h5 h6 h7 hst h2 hl Dz;have aaf:(w.alloc (.cells #[ab a,ab sh,.slice (some (af g 1)) (m+2) (c2+2)] 325)).heap.size=w.heap.size+1:=by simp
 have hR0:=JN.start (w.alloc (.cells #[ab a,ab sh,.slice (some (af g 1)) (m+2) (c2+2)] 325)) (B:=w.heap.size) (by simp);rw[aaf]at hR0;have zv:Hid (Below w.heap.size w ((w.alloc (.cells #[ab a,ab sh,.slice (some (af g 1)) (m+2) (c2+2)] 325)).alloc (.cells #[.slice none 0 0] 39))):=
  hid (((ah _ _).alloc (yF _) _).alloc (by simp) _)
 have Lh:=hid hR0;clear hR0 aaf
 by_cases hz:c2=0
 ·subst hz
  have hm0:m=0:=by omega
  subst hm0;have HE:Hid (Ei (l.drop 3)=([],[])):=hid (by rw[nh Vp];rfl)
  go_enter Tryz.func202,Tryz.ntmps202
  go_wp2
  go_loopw [3,12] (λv i wr=>i=ab 0/\v=ae (w.heap.size+1) 1 1/\Hid (JN wr w.heap.size (w.heap.size+1+1) v [] [] [] (.slice none 0 0))/\Hid (Below w.heap.size w wr)) (λ_ i _=>0)
  case atStart=>exact⟨rfl,rfl,Lh,zv⟩
  case round=>
   clear Lh zv;obtain⟨rfl,rfl,hR,hbr⟩:=hrel;go_wp2;go_ret;rw[HE.out];exact⟨_,_,_,_,rfl,hR.out,hbr.out⟩
 ·go_enter Tryz.func202,Tryz.ntmps202
  go_wp2
  go_loopw [3,12] (λv i wr=>∃(k d gv cap Bl:Nat) (done:List (List ByteArray)) (cur:List ByteArray) (Cc:List Value) (pl:Value),k<=m/\d<=k/\i=ab k/\v=ae gv (d+1) cap/\Hid (done.length=d)/\Hid (cur.length<=k)/\
   Hid (Ei ((l.take (3+k)).drop 3)=(done,cur))/\Hid (JN wr w.heap.size Bl v done cur Cc pl)/\Hid (Below w.heap.size w wr)) (λ_ i _=>m - (intOf i).toNat)
  case atStart=>exact⟨0,0,_,_,_,[],[],[],_,by omega,by omega,rfl,rfl,rfl,hid (by simp),hid (by rw[nh yM];rfl),Lh,zv⟩
  case round=>
   clear Lh zv;obtain⟨k,d,gv,cap,Bl,done,cur,Cc,pl,hk,hdk,rfl,rfl,hd,hcl,hp,hR,hbr⟩:=hrel;have hsz:=hbr.out.size
   by_cases hlt:k<m
   ·have hc:wr.cell? (af g (3+k))=some (.string (nth l (3+k))):=by
     simpa using (HST.out.later hbr.out).2 (3+k) (by rw[HL.out];omega)
    have HN:=hid (rA (l:=l) (k:=k) (by rw[HL.out];omega));have hrow:=hR.out.row;rw[hd.out]at hrow;have hpd:Cc.length=d:=hR.out.Cz.trans hd.out;have HPD:Hid (Cc.length=d):=hid hpd;have hcd:wr.cell? (af gv d)=some pl:=by
     rw[hrow.cellAt d (by omega),<-hpd];simp
    have HP:=hid hp;clear hp hpd;cases hb:((nth l (3+k)).toList== [124])
    ·have HQ:Hid (Ei ((l.take (3+k+1)).drop 3)=(done,cur++ [nth l (3+k)])):=hid (by
      rw[HN.out,HP.out.out];unfold DG I5;rw[hb];rfl)
     obtain⟨cn,Es⟩:=qE (cur.length);have akF:cn<=4000:=by have:=hcl.out;omega
     have Rh:=hR.out.last;rw[Es]at Rh;have HCN:Hid (cur.length=cn):=hid Es;have hBB:=hR.out.hBl;have ahB:=hR.out.hB;have Da:=hid hrow;clear Es hrow HN HP
     go_wp2_with (first
      | (at_builtin;refine jq _ rfl _ _ 39 rfl Bl 9 i0 (.string ByteArray.empty) 1 16 Tryz.underlying39 hi hz0 hz1 hz2 rfl (by decide) _ _ _ rfl (Rh.alloc _) (af wr.heap.size 0) 1 1 [.string (nth l (3+k))] rfl rfl (dh (dw wr _)) ?c2 (yF 1) ?c3 ?c4 ?c5 _ rfl ?_))
     case c2=>intro u hu;simp at hu;subst hu;rfl
     case c3=>unfold maxLen;omega
     case c4=>omega
     case c5=>simp;omega
     intro g3 Am w3 zO zM Fu Eh;have hkeep:A1 wr w3 pl.ownBlock.toList:=((A1.refl _ _).alloc _).grown zM (λq hq=>.inl Fp);have hrow3:=A7 Da.out hkeep (λq hq hm=>GG Da.out Rh (by decide) hq (BE hm));have hc3:w3.cell? (af gv d)=some pl:=by
      rw[hrow3.cellAt d (by omega),<-HPD.out];simp
     have hf3:w3.frozen? (af gv d)=false:=by
      obtain⟨c,hc⟩:=BI hrow3 (g:=gv) rfl;exact A3 hc
     have zy:Hid (Below w.heap.size w (w3.setCell (af gv d) (ae g3 (cn+1) Am))):=hid ((hbr.out.trans (hkeep.below hsz (λq hq=>y5 ahB (Rh.lt q (BE hq)).1))).setCell (by exact(Da.out.lt gv rfl).1) _);have HR3:Hid (JN (w3.setCell (af gv d) (ae g3 (cn+1) Am)) w.heap.size Bl (ae gv (d+1) cap) done (cur++ [nth l (3+k)]) Cc (ae g3 (cn+1) Am)):=hid (by
      have h:=hR.out;have hdd:=hd.out;have hcc:=HCN.out;subst hdd;subst hcc;exact h.add hkeep zO)
     clear zO zM Fu Eh hkeep hrow3 Rh;go_wp2
     go_roundw
     case rel=>exact⟨k+1,d,gv,cap,Bl,done,_,Cc,_,by omega,by omega,by go_num,rfl,hd,hid (by have:=hcl.out;simp;omega),HQ,HR3,zy⟩
     case measure=>simp[intOf];omega
    ·have HQ:Hid (Ei ((l.take (3+k+1)).drop 3)=(done++ [cur],[])):=hid (by
      rw[HN.out,HP.out.out];unfold DG I5;rw[hb];rfl)
     clear HN HP
     go_wp2_with (first
      | (at_builtin;refine jq _ rfl _ _ 46 rfl w.heap.size 39 j0 (.slice none 0 0) 1 24 Tryz.underlying46 ji jz0 jz1 jz2 rfl (by decide) _ _ _ rfl (hrow.alloc _) (af wr.heap.size 0) 1 1 [.slice none 0 0] rfl rfl (dh (dw wr _)) ?d2 (yF 1) ?d3 ?d4 ?d5 _ rfl ?_))
     case d2=>intro u hu;simp at hu;subst hu;rfl
     case d3=>unfold maxLen;omega
     case d4=>omega
     case d5=>simp;omega
     intro g3 Am w3 zO zM Fu Eh;have hkeep:A1 wr w3 (ae gv (d+1) cap).ownBlock.toList:=((A1.refl _ _).alloc _).grown zM (λq hq=>.inl Fp);have zy:Hid (Below w.heap.size w w3):=hid (hbr.out.trans (hkeep.below hsz (λq hq=>(hrow.lt q (BE hq)).1)));have HR3:Hid (JN w3 w.heap.size w3.heap.size (ae g3 (d+1+1) Am) (done++ [cur]) [] (Cc++ [pl]) (.slice none 0 0)):=hid (by
      have h:=hR.out;have hdd:=hd.out;subst hdd;exact h.Vu hkeep (by simpa using zO))
     clear zO zM Fu Eh hkeep hrow;go_wp2
     go_roundw
     case rel=>exact⟨k+1,d+1,g3,Am,_,done++ [cur],[],Cc++ [pl],_,by omega,by omega,by go_num,rfl,hid (by simp[hd.out]),hid (by simp),HQ,HR3,zy⟩
     case measure=>simp[intOf];omega
   ·have HE:Hid (Ei (l.drop 3)=(done,cur)):=hid (by
     have:=hp.out
     rwa [jk Vp]at this)
    go_wp2;go_ret;rw[HE.out];exact⟨_,_,_,_,rfl,hR.out,hbr.out⟩
end Go.Proofs.YtjjggdcnpndgjaaGreatDoor
