import Derived.Test.YtjjggdcnpndgjaaGreatDoorCJ3
import Derived.Deep.LoopGhost
set_option linter.unusedSimpArgs false
set_option maxHeartbeats 1000000
set_option maxRecDepth 100000
namespace Go.Proofs.YtjjggdcnpndgjaaGreatDoor
abbrev dn:=@Go.World.news_of_block
abbrev dz:=@Go.heap_alloc_new
abbrev iy:=@Go.info_parts
abbrev jt:=@Go.wpList_append_lies
abbrev ku:=@Nat.sub_self
abbrev ql:=@List.filter_append
abbrev ux:=@List.foldl_append
abbrev vp:=@List.set_append_right
abbrev xy:=@List.set_cons_zero
abbrev xX:=@List.drop_append_of_le_length
abbrev yR:=@Nat.lt_trans
abbrev yS:=@List.any_append
open Go.RowKit
variable {B g k n:Nat}{l:List ByteArray}{v:Value}{w:World}
theorem Tryz.info325:(Tryz.prog.info? 325).map (λi=>(i.zero,i.size,i.bytes))=some (some (.agg #[ab 0,ab 0,.slice none 0 0]),3,40):=by kernel_rfl
def J9 (j:Nat):ByteArray:=if j=0 then⟨#[116,111,107,101,110]⟩else if j=1 then⟨#[115,119,97,112]⟩else⟨#[114,117,108,101]⟩
def Ew (j i:Nat):Int:=if j=0 then(if i=0 then 1 else 3)else if j=1 then(if i=2 then 3 else 1)else(if i=0 then 2 else if i=1 then 4 else 5)
def WM (j:Nat) (l:List ByteArray):Bool:=if j=0 then DF l else if j=1 then C0 l else D7 l
theorem oV (j:Nat) (x:ByteArray):(x.toList==(J9 j).toList)=(if j=0 then x.toList== [116,111,107,101,110]else if j=1 then x.toList== [115,119,97,112]else x.toList== [114,117,108,101]):=by
 unfold J9
 by_cases h0:j=0
 ·rw[ay h0,ay h0,jl ⟨#[116,111,107,101,110]⟩]
 by_cases h1:j=1
 ·rw[aq h0,aq h0,ay h1,ay h1,jl ⟨#[115,119,97,112]⟩]
 ·rw[aq h0,aq h0,aq h1,aq h1,jl ⟨#[114,117,108,101]⟩]
theorem N8 (j:Nat) (l:List ByteArray):ED j l=(((nth l 0).toList==(J9 j).toList)&&WM j l):=by
 rw[oV];unfold ED WM
 by_cases h0:j=0
 ·simp only[ay h0]
 by_cases h1:j=1
 ·simp only[aq h0,ay h1]
 ·simp only[aq h0,aq h1]
theorem vI (j:Nat) (hj:j<3) (l:List ByteArray) (ad:Option Addr) (g n cap:Nat) (w:World) (hG:E2 w) (hl:l.length=1+n) (hn:n<=4000) (hnc:n<=cap) (hcap:cap<=9223372036854775807) (hs:∀i,(nth l i).size<=4000) (hc:DV w g 0 l) (had:0<n->ad=some (af g 1)):
  Calls Tryz.prog 209 #[.agg #[.string (J9 j),ab (Ew j 0),ab (Ew j 1),ab (Ew j 2)],.slice ad n cap] w λe w'=>e=.returned (.bool (WM j l))/\Below w.heap.size w w':=by
 have h':j=0\/j=1\/j=2:=by omega
 rcases h' with rfl |rfl |rfl
 ·exact rI l ad g n cap _ w hG hl hn hnc hcap hs hc had
 ·exact oX l ad g n cap _ w hG hl hn hnc hcap hs hc had
 ·exact mQ l ad g n cap _ w hG hl hn hnc hcap hs hc had
theorem qA (j:Nat) (hj:j<3) (w:World):(Instr.index 340 (.agg #[.string ⟨#[116,111,107,101,110]⟩,ab 1,ab 3,ab 3,.string ⟨#[115,119,97,112]⟩,ab 1,ab 1,ab 3,.string ⟨#[114,117,108,101]⟩,ab 2,ab 4,ab 5]) (ab j)).run Tryz.prog w=
  .ok (.agg #[.string (J9 j),ab (Ew j 0),ab (Ew j 1),ab (Ew j 2)]) w:=by
 have h':j=0\/j=1\/j=2:=by omega
 have t0:(Instr.index 340 (.agg #[.string ⟨#[116,111,107,101,110]⟩,ab 1,ab 3,ab 3,.string ⟨#[115,119,97,112]⟩,ab 1,ab 1,ab 3,.string ⟨#[114,117,108,101]⟩,ab 2,ab 4,ab 5]) (ab 0)).run Tryz.prog w=.ok (.agg #[.string ⟨#[116,111,107,101,110]⟩,ab 1,ab 3,ab 3]) w:=by kernel_rfl
 have t1:(Instr.index 340 (.agg #[.string ⟨#[116,111,107,101,110]⟩,ab 1,ab 3,ab 3,.string ⟨#[115,119,97,112]⟩,ab 1,ab 1,ab 3,.string ⟨#[114,117,108,101]⟩,ab 2,ab 4,ab 5]) (ab 1)).run Tryz.prog w=.ok (.agg #[.string ⟨#[115,119,97,112]⟩,ab 1,ab 1,ab 3]) w:=by kernel_rfl
 have t2:(Instr.index 340 (.agg #[.string ⟨#[116,111,107,101,110]⟩,ab 1,ab 3,ab 3,.string ⟨#[115,119,97,112]⟩,ab 1,ab 1,ab 3,.string ⟨#[114,117,108,101]⟩,ab 2,ab 4,ab 5]) (ab 2)).run Tryz.prog w=.ok (.agg #[.string ⟨#[114,117,108,101]⟩,ab 2,ab 4,ab 5]) w:=by kernel_rfl
 rcases h' with rfl |rfl |rfl
 ·exact t0
 ·exact t1
 ·exact t2
theorem TW {ds:List (Nat × List ByteArray)}{x:Nat × List ByteArray} (h:x.2.length=1):AK (ds++ [x])=AK ds:=by
 unfold AK;simp[ql,h]
theorem jM {ds:List (Nat × List ByteArray)}{x:Nat × List ByteArray} (h:¬x.2.length=1):AK (ds++ [x])=AK ds++ [(x.1,AZ x.2,x.2)]:=by
 unfold AK;simp[ql,h]
theorem qO (ln:ByteArray) (W:World) (hG:E2 W) (hs:ln.size<=4000):Calls Tryz.prog 208 #[.string ln,.string ⟨#[32]⟩] W λe w'=>
  ∃g,e=.returned (ae g (AF ln).length (AF ln).length)/\W.heap.size<=g/\w'.heap[g]?=some (.cells ((AF ln).map Value.string).toArray 9 (0,0))/\Below W.heap.size W w':=by
 obtain⟨m,hm⟩:=hG.max;refine(Tryz.strings_Split ln ⟨#[32]⟩ m W (by omega) hm (zn 1)).mono ?_;rintro e w' ⟨rfl,rfl⟩;rw[T7,O9];exact⟨_,rfl,zn _,dz _ _,(ah _ _).alloc (zn _) _⟩
theorem oR  (h:w.heap[g]?=some (.cells (l.map Value.string).toArray 9 (0,0))):DV w g 0 l:=by
 refine⟨ak h,λj hj=>?_⟩;rw[ju,A0 h];unfold nth;simp[gE hj]
theorem uX {ad:Option Addr} (h:w.heap[g]?=some (.cells (l.map Value.string).toArray 9 (0,0))) (hl:l.length=1+n) (hn:n<=4000) (had:0<n->ad=some (af g 1)):EU w (.slice ad n n) l:=by
 refine⟨g,n,n,ad,_,rfl,hl,zn _,by omega,h,λj hj=>?_,had⟩;unfold nth;simp[gE hj]
theorem NH {w':World} (h:w'=w.drewN n):Below w.heap.size w w':=by subst h;exact⟨rfl,rfl,rfl,zn _,λ_ _=>rfl⟩
theorem oD (s:ByteArray) (w:World) (hG:E2 w) (hs:s.size<=4000):
  Calls Tryz.prog 166 #[.string s] w λe w'=>∃v pv,e=.returned (.tuple #[v,ab (AL s 0).2])/\Bv w' w.heap.size v (AK (AL s 0).1) pv/\Below w.heap.size w w':=by
 obtain⟨i0,hi,hz0,hz1,hz2⟩:=iy Tryz.info325;have HG:Hid (E2 w):=hid hG;clear hG
 go_enter Tryz.func166,Tryz.ntmps166
 go_wp2
 go_step3
 go_wp2
 go_step3
 go_wp2
 go_loopg [2,3] s.size (λg v a wr=>∃(k:Nat) (ds:List (Nat × List ByteArray)) (pv:List Value),k+g=s.size/\a=ab k/\Hid (AL s 0=(ds++(AL s k).1,(AL s k).2))/\Hid ((AK ds).length<=k)/\
  Hid (Bv wr w.heap.size v (AK ds) pv)/\Hid (Below w.heap.size w wr))
 case atStart=>exact⟨0,[],[],by omega,rfl,hid (by simp),hid (by simp[AK]),Bv.nil _ _,ah _ _⟩
 case round=>
  obtain⟨k,ds,pv,hkg,rfl,hsc,Lc,hV,hbr⟩:=hrel;have hsz:=hbr.out.size;have Hx:Hid (E2 wr):=hid (HG.out.below hbr.out HG.out.size)
  by_cases hlt:k<s.size
  ·obtain⟨ln,nx,Fg⟩:∃ln nx,C3 s k=(ln,nx):=⟨_,_,rfl⟩
   have hcut:=rA s k;rw[Fg]at hcut
   by_cases h0:nx=0
   ·have cC:Hid (Calls Tryz.prog 207 #[.string (s.extract k s.size),.string ⟨#[10]⟩] wr λe w'=>(∃a b,e=.returned (.tuple #[.string a,.string b,.bool false]))/\Below wr.heap.size wr w'):=hid (by
     obtain⟨m,hm⟩:=Hx.out.max;refine(Tryz.strings_Cut (s.extract k s.size) ⟨#[10]⟩ m wr zG hm).mono ?_;rintro e w' ⟨rfl,n,hn⟩;exact⟨⟨_,_,by rw[hcut.2 h0]⟩,NH hn⟩)
    have HE:Hid (AL s 0=(ds,k)):=hid (by
     rw[hsc.out,YA hlt (.inl (by rw[Fg];exact h0))];simp)
    clear hsc hcut Fg
    go_wp2_with (go_at_call 207;refine cC.out.mono ?_;rintro e w1 ⟨⟨ca,cb,rfl⟩,hb1⟩)
    rw[Exit.noGoto_ret]
    go_ret2
    rw[HE.out];exact⟨_,_,rfl,hV.out.below hb1,hbr.out.trans (hb1.mono hsz)⟩
   ·have cC:Hid (Calls Tryz.prog 207 #[.string (s.extract k s.size),.string ⟨#[10]⟩] wr λe w'=>(∃b,e=.returned (.tuple #[.string ln,.string b,.bool true]))/\Below wr.heap.size wr w'):=hid (by
     obtain⟨m,hm⟩:=Hx.out.max;refine(Tryz.strings_Cut (s.extract k s.size) ⟨#[10]⟩ m wr zG hm).mono ?_;rintro e w' ⟨rfl,n,hn⟩;exact⟨⟨_,by rw[(hcut.1 h0).1,(hcut.1 h0).2]⟩,NH hn⟩)
    have hgt:=K6 (s:=s) (a:=k) (by rw[Fg];exact h0);rw[Fg]at hgt;simp only at hgt;have hnx:k+ln.size+1<=s.size:=by omega
    have hNX:nx.toNat=k+ln.size+1:=by omega
    have HL:Hid (AX (AF ln)=true->AL s 0=((ds++ [(k,AF ln)])++(AL s (k+ln.size+1)).1,(AL s (k+ln.size+1)).2)):=hid λh=>by
     rw[hsc.out,UX hlt (by rw[Fg];exact h0) (by rw[Fg];exact h),Fg];simp only[hNX];simp
    have HB:Hid (AX (AF ln)=false->AL s 0=(ds,k)):=hid λh=>by
     rw[hsc.out,YA hlt (.inr (by rw[Fg];exact h))];simp
    have hlz:ln.size<=4000:=by omega
    clear hsc hcut Fg hgt hNX h0;cases he:ln.toList.isEmpty
    ·have HW:Hid (AX (AF ln)=(ED 0 (AF ln)||(ED 1 (AF ln)||ED 2 (AF ln)))):=hid (ZQ he)
     have Cs:=VI ln;have hwz:=λi=>zV (SZ ln i) hlz
     obtain⟨L,hn⟩:=qE ((AF ln).length);have cS:Hid (∀W,E2 W->Calls Tryz.prog 208 #[.string ln,.string ⟨#[32]⟩] W λe w'=>
      ∃g,e=.returned (ae g L L)/\W.heap.size<=g/\w'.heap[g]?=some (.cells ((AF ln).map Value.string).toArray 9 (0,0))/\Below W.heap.size W w'):=hid λW hW=>by
       rw[<-hn];exact qO ln W hW hlz
     rw[hn]at Cs;have HN:Hid ((AF ln).length=L):=hid hn;clear hn;have Pc:(0:Int)<L:=by omega
     have Fh:(1:Int)<=L:=by omega
     have hL2:0<L:=by omega
     have hL3:1<=L:=by omega
     go_wp2_with (first
      | (go_at_call 207;refine cC.out.mono ?_;rintro e w1 ⟨⟨cb,rfl⟩,hb1⟩)
      | (go_at_call 208;refine(cS.out _ (Hx.out.below hb1 Hx.out.size)).mono ?_;rintro e w2 ⟨g,rfl,hg,hblk,hb2⟩;obtain⟨tS,fS,afE⟩:=((Hx.out.below hb1 Hx.out.size).below hb2 (Hx.out.below hb1 Hx.out.size).size).shapes)
      | (refine wpList_load_row rfl 340 _ rfl 0 rfl _ _ _ _ afE Tryz.underlying340 rfl yM ?_))
     have HK:Hid (DV w2 g 0 (AF ln)):=hid (oR hblk);have HBk:Hid (w2.heap[g]?=some (.cells ((AF ln).map Value.string).toArray 9 (0,0))):=hid hblk;have zO:Hid (Below wr.heap.size wr w2):=hid (hb1.trans (hb2.mono hb1.size));have Ys:Hid (E2 w2):=hid (Hx.out.below zO.out Hx.out.size);have Gn:Hid (Bv w2 w.heap.size u2 (AK ds) pv):=hid (hV.out.below zO.out);have Vv:Hid (Below w.heap.size w w2):=hid (hbr.out.trans (zO.out.mono hsz));have Bu:=ak hblk;clear cC cS hb1 hb2 hblk afE Hx hV hbr zO
     go_loopg [2,3,36] 3 (λgi v' a' i wi=>∃j:Nat,j+gi=3/\v'=u2/\a'=ab k/\i=ab j/\Hid (∀t,t<j->ED t (AF ln)=false)/\Hid (Below w2.heap.size w2 wi))
     case atStart=>exact⟨0,by omega,rfl,rfl,rfl,hid (λt h=>by omega),hid (ah _ _)⟩
     case round=>
      obtain⟨j,hjg,rfl,rfl,rfl,hno,Eh⟩:=hrel
      by_cases hj:j<3
      ·have hix:=qA j hj
       have c0:wr.cell? (af g 0)=some (.string (nth (AF ln) 0)):=by
        have h:=HK.out.later Eh.out;simpa using h.2 0 (by rw[HN.out];omega)
       have hgr:g<wr.heap.size:=lL Bu Eh.out.size;cases hq:((nth (AF ln) 0).toList==(J9 j).toList)
       ·have HF:Hid (ED j (AF ln)=false):=hid (by rw[N8,hq];rfl)
        go_wp2
        go_quiet (fail)
        go_wp2
        go_roundg (gk - 1)
        case measure=>omega
        case rel=>exact⟨j+1,by omega,rfl,rfl,by go_num,hid (F8 hno.out HF.out),hid ((Eh.out.alloc Eh.out.size _).trans (NH rfl |>.mono (by have:=Eh.out.size;simp;omega)))⟩
       ·obtain⟨W2,hW2⟩:=qF (wr.alloc (.cells #[.string (J9 j),ab (Ew j 0),ab (Ew j 1),ab (Ew j 2)] 339))
        have hb2:W2.heap[wr.heap.size]?=some (.cells #[.string (J9 j),ab (Ew j 0),ab (Ew j 1),ab (Ew j 2)] 339 (0,0)):=by rw[hW2];exact dz _ _
        have Ci:Hid (Below wr.heap.size wr W2):=hid (by rw[hW2];exact(ah _ _).alloc (zn _) _);have c1:W2.cell? (af g 0)=some (.string (nth (AF ln) 0)):=(Ci.out.cell hgr).trans c0;have c2:W2.cell? (af wr.heap.size 0)=some (.string (J9 j)):=by rw[A0 hb2];rfl
        go_wp2;rw[<-hW2];clear hW2;have c3:W2.cell? (af wr.heap.size 1)=some (ab (Ew j 0)):=by rw[A0 hb2];rfl
        have c4:W2.cell? (af wr.heap.size 2)=some (ab (Ew j 1)):=by rw[A0 hb2];rfl
        have c5:W2.cell? (af wr.heap.size 3)=some (ab (Ew j 2)):=by rw[A0 hb2];rfl
        have HWr:Hid (wr.heap.size<W2.heap.size/\g<W2.heap.size):=hid ⟨ak hb2,yR hgr (ak hb2)⟩;have Gd:Hid (E2 W2.drew/\DV W2.drew g 0 (AF ln)):=by
         have hbd:Below w2.heap.size w2 W2:=Eh.out.trans (Ci.out.mono Eh.out.size);have Kn:Below w2.heap.size w2 W2.drew:=hbd.trans ⟨rfl,rfl,rfl,zn _,λ_ _=>rfl⟩;exact hid ⟨Ys.out.below Kn Ys.out.size,HK.out.later Kn⟩
        have cF:Hid (∀ad,(0<L - 1->ad=some (af g 1))->Calls Tryz.prog 209 #[.agg #[.string (J9 j),ab (Ew j 0),ab (Ew j 1),ab (Ew j 2)],.slice ad (L - 1) (L - 1)] W2.drew λe w'=>e=.returned (.bool (WM j (AF ln)))/\
          w'.cell? (af g 0)=some (.string (nth (AF ln) 0))/\w'.cell? (af wr.heap.size 0)=some (.string (J9 j))/\w'.cell? (af wr.heap.size 1)=some (ab (Ew j 0))/\w'.cell? (af wr.heap.size 2)=some (ab (Ew j 1))/\
          w'.cell? (af wr.heap.size 3)=some (ab (Ew j 2))/\Below W2.heap.size W2 w'):=hid λad had=>by
         refine(vI j hj (AF ln) ad g (L - 1) (L - 1) _ Gd.out.1 (by rw[HN.out];omega) (by omega) (zn _) (by omega) hwz Gd.out.2 had).mono ?_;rintro e w1 ⟨rfl,Mw⟩;have Mw:Below W2.heap.size W2 w1:=(⟨rfl,rfl,rfl,zn _,λ_ _=>rfl⟩:Below W2.heap.size W2 W2.drew).trans Mw;exact⟨rfl,(Mw.cell HWr.out.2).trans c1,(Mw.cell HWr.out.1).trans c2,(Mw.cell HWr.out.1).trans c3,(Mw.cell HWr.out.1).trans c4,(Mw.cell HWr.out.1).trans c5,Mw⟩
        clear hb2;obtain⟨b,hb⟩:=qF (wr.heap.size);rw[<-hb]at c2 c3 c4 c5 HWr cF;rw[<-hb];clear hb
        go_region_held3 (λw'=>w'.cell? (af g 0)=some (.string (nth (AF ln) 0))/\w'.cell? (af b 0)=some (.string (J9 j))/\w'.cell? (af b 1)=some (ab (Ew j 0))/\w'.cell? (af b 2)=some (ab (Ew j 1))/\
         w'.cell? (af b 3)=some (ab (Ew j 2))/\Hid (Below W2.heap.size W2 w')) ((refine⟨?_,?_,?_,?_,?_,?_⟩;go_keep;go_keep;go_keep;go_keep;go_keep;first |exact hid ⟨rfl,rfl,rfl,zn _,λ_ _=>rfl⟩ |exact hid Mw |assumption))
         (first | (go_at_call 209;refine(cF.out _ (λh0=>aq (by omega))).mono ?_;rintro e w1 ⟨rfl,k0,k1,k2,k3,k4,Mw⟩;try dsimp only))
        cases hlk:WM j (AF ln)
        ·have HF:Hid (ED j (AF ln)=false):=hid (by rw[N8,hq,hlk];rfl)
         obtain⟨Tx,aaT⟩:=qF ((if L=1 then some ((af g 0):Addr)else some (af g 1)));rw[<-aaT];clear aaT;go_wp2
         go_roundg (gk - 1)
         case measure=>omega
         case rel=>exact⟨j+1,by omega,rfl,rfl,by go_num,hid (F8 hno.out HF.out),hid (Eh.out.trans (Ci.out.trans (Mw.mono Ci.out.size) |>.mono Eh.out.size))⟩
        ·have hFt:ED j (AF ln)=true:=by rw[N8,hq,hlk];rfl
         have hsf:=jO hj hFt;have hIL:AX (AF ln)=true:=by
          rw[HW.out];have h':j=0\/j=1\/j=2:=by omega
          rcases h' with rfl |rfl |rfl <;> rw[hFt] <;> simp
         have HS:=hid (HL.out hIL);have HP:Hid (AK (ds++ [(k,AF ln)])=AK ds++ [(k,j,AF ln)]):=hid (by rw[jM hsf.2,hsf.1]);have hne:¬L=1:=λe=>hsf.2 (HN.out.trans e)
         clear HL HB HW hFt hsf hIL;have hbz:Below w2.heap.size w2 w1:=Eh.out.trans ((Ci.out.trans (Mw.mono Ci.out.size)).mono Eh.out.size);have En:Bv w1 w.heap.size u2 (AK ds) pv:=Gn.out.below hbz;have zX:Below w.heap.size w w1:=Vv.out.trans (hbz.mono Vv.out.size);have Ju:Hid (EU w1 (.slice (some (af g 1)) (L - 1) (L - 1)) (AF ln)):=hid (uX ((hbz.block g Bu).trans HBk.out) (by rw[HN.out];omega) (by omega) (λ_=>rfl));have Yt:=hid En;have Jv:=hid zX;clear hbz zX;have hsw:=Jv.out.size;have hrow:=En.row;clear En;have Ct:(AK ds).length<=4000:=by have:=Lc.out;omega
         go_wp2_with (first
          | (at_builtin;refine jt _ rfl _ _ 222 rfl w.heap.size 325 i0 (.agg #[ab 0,ab 0,.slice none 0 0]) 3 40 Tryz.underlying222 hi hz0 hz1 hz2 rfl (by decide) _ _ _ rfl (hrow.alloc _) (af w1.heap.size 0) 1 1 [ab k,ab j,.slice (some (af g 1)) (L - 1) (L - 1)] rfl rfl (dn (dz w1 _)) ?c2 (zn 1) ?c3 ?c4 ?c5 _ rfl ?_))
         case c2=>intro u hu;simp at hu;rcases hu with rfl |rfl |rfl <;> rfl
         case c3=>unfold maxLen;omega
         case c4=>omega
         case c5=>simp;omega
         intro g3 Cf w3 Ad Ae Hy Fi;have HL3:Hid (Bv w3 w.heap.size (ae g3 ((AK ds).length+1) Cf) (AK ds++ [(k,j,AF ln)]) (pv++ [.slice (some (af g 1)) (L - 1) (L - 1)])):=
          hid (Yt.out.push (((A5.refl _ _).alloc _).grown Ae (λq hq=>.inl Hh)) Ju.out Ad)
         have Ap:Hid (Below w.heap.size w w3):=hid ((Jv.out.alloc hsw (.cells #[ab k,ab j,.slice (some (af g 1)) (L - 1) (L - 1)] 325)).grown Ae zG (λg hg=>(hrow.lt g hg).1));clear Ad Ae Hy Fi;go_wp2
         go_roundg (s.size - (k+ln.size+1))
         case measure=>omega
         case rel=>exact⟨k+ln.size+1,ds++ [(k,AF ln)],_,by omega,by go_num,HS,hid (by rw[HP.out];have:=Lc.out;simp;omega),hid (by rw[HP.out];exact HL3.out),Ap⟩
      ·have hj3:j=3:=by omega
       have HE:Hid (AL s 0=(ds,k)):=hid (HB.out (by
        rw[HW.out,hno.out 0 (by omega),hno.out 1 (by omega),hno.out 2 (by omega)];rfl))
       clear HL HB HW;go_wp2
       try rw[Exit.noGoto_ret]
       go_ret2
       rw[HE.out];exact⟨_,_,rfl,Gn.out.below Eh.out,Vv.out.trans (Eh.out.mono Vv.out.size)⟩
    ·have HS:=hid (HL.out (TL he).2)
     have HP:Hid (AK (ds++ [(k,AF ln)])=AK ds):=hid (TW (TL he).1);clear HL HB
     go_wp2_with (go_at_call 207;refine cC.out.mono ?_;rintro e w1 ⟨⟨cb,rfl⟩,hb1⟩)
     go_roundg (s.size - (k+ln.size+1))
     case measure=>omega
     case rel=>exact⟨k+ln.size+1,ds++ [(k,AF ln)],pv,by omega,by go_num,HS,hid (by rw[HP.out];have:=Lc.out;omega),hid (by rw[HP.out];exact hV.out.below hb1),hid (hbr.out.trans (hb1.mono hsz))⟩
  ·have HE:Hid (AL s 0=(ds,k)):=hid (by rw[hsc.out,YZ hlt];simp)
   clear hsc;go_wp2
   try rw[Exit.noGoto_ret]
   go_ret2
   rw[HE.out];exact⟨_,_,rfl,hV.out,hbr.out⟩
def BI (sh:Nat) (l:List ByteArray):ByteArray:=if sh=1 then ByteArray.empty else nth l 1
theorem QV (a sh:Nat) (p:Value) (l:List ByteArray) (w:World) (hW:EU w p l) (hl:2<=l.length) (Ct:l.length<=4001):
  Calls Tryz.prog 210 #[.agg #[ab a,ab sh,p]] w λe w'=>e=.returned (.string (BI sh l))/\Below w.heap.size w w':=by
 obtain⟨g,n,cap,ad,cs,rfl,h2,h3,h4,h5,h6,h7⟩:=hW;have had:=h7 (by omega);subst had;have c1:w.cell? (af g 1)=some (.string (nth l 1)):=by rw[A0 h5];exact h6 1 (by omega)
 have hg:=ak h5;have hn:0<n:=by omega
 have hb0:Hid (Below w.heap.size w (w.alloc (.cells #[ab a,ab sh,.slice (some (af g 1)) n cap] 325))):=hid ((ah _ _).alloc (zn _) _);clear h5 h6 h7 h2 hl Ct
 by_cases hs:sh=1
 ·have HE:Hid (BI sh l=ByteArray.empty):=hid (by unfold BI;rw[ay hs])
  subst hs
  go_enter Tryz.func210,Tryz.ntmps210
  go_wp2;go_ret;exact⟨by rw[HE.out];rfl,hb0.out⟩
 ·have HE:Hid (BI sh l=nth l 1):=hid (by unfold BI;rw[aq hs])
  have hs2:¬((sh:Int)=1):=by omega
  clear hs
  go_enter Tryz.func210,Tryz.ntmps210
  go_wp2;go_ret;exact⟨by rw[HE.out];rfl,hb0.out⟩
theorem Bv.at {w:World}{B g n cap:Nat}{ls:List (Nat × Nat × List ByteArray)}{pv:List Value} (h:Bv w B (ae g n cap) ls pv) {j:Nat}{x:Nat × Nat × List ByteArray} (hx:ls[j]?=some x):
  ∃p,pv[j]?=some p/\EU w p x.2.2/\w.cell? (af g (j*3))=some (ab x.1)/\w.cell? (af g (j*3+1))=some (ab x.2.1)/\w.cell? (af g (j*3+2))=some p:=by
 have hj:=(zM.1 hx).1;obtain⟨p,hp⟩:∃p,pv[j]?=some p:=⟨_,gE (by rw[h.Eo];exact hj)⟩;refine⟨p,hp,h.Ff j x p hx hp,?_⟩;have hz:(ls.zip pv)[j]?=some (x,p):=by
  rw[List.getElem?_zip_eq_some];exact⟨hx,hp⟩
 have h3:=λi hi=>xT (λt:(Nat × Nat × List ByteArray) × Value=>[ab t.1.1,ab t.1.2.1,t.2]) (λ_=>rfl) (ls.zip pv) j (x,p) i hz hi
 have hn:ls.length=n:=by
  rcases h.row.2 with⟨e,_⟩ | ⟨g',cap',cur,e,_⟩
  ·cases e
  ·cases e;rfl
 have hr:=h.row;rw[hn]at hr hj;refine⟨?_,?_,?_⟩
 ·rw[hr.cellAt _ (by omega)];exact h3 0 (by omega)
 ·rw[hr.cellAt _ (by omega)];exact h3 1 (by omega)
 ·rw[hr.cellAt _ (by omega)];exact h3 2 (by omega)
theorem Bv.form {ls:List (Nat × Nat × List ByteArray)}{pv:List Value} (h:Bv w B v ls pv):
  (v=.slice none 0 0/\ls=[])\/∃g cap,v=ae g ls.length cap/\ls.length<=cap/\g<w.heap.size:=by
 rcases h.row.2 with⟨h1,h2⟩ | ⟨g,cap,cur,h1,_,hh,hnc,_⟩
 ·exact .inl ⟨h1,tj h2⟩
 ·exact .inr ⟨g,cap,h1,hnc,ak hh⟩
theorem eJ {α:Type}{l:List α}{q:α->Bool}{x:α} (hx:l[k]?=some x) (h0:(l.take k).any q=false) (h:q x=false):(l.take (k+1)).any q=false:=by
 obtain⟨hk,e⟩:=zM.1 hx;rw[iq hk,yS,h0,e];simp[h]
theorem uN {α:Type}{l:List α}{q:α->Bool}{x:α} (hx:l[k]?=some x) (h:q x=true):l.any q=true:=qb.2 ⟨x,mG hx,h⟩
theorem QZ (v:Value) (ls:List (Nat × Nat × List ByteArray)) (pv:List Value) (B:Nat) (w:World) (hV:Bv w B v ls pv) (hn:ls.length<=4000):
  Calls Tryz.prog 169 #[v] w λe w'=>e=.returned (.bool (ls.any λx=>x.2.1==2))/\Below w.heap.size w w':=by
 rcases hV.form with⟨rfl,rfl⟩ | ⟨g,cap,rfl,hnc,hg⟩
 ·clear hV
  go_enter Tryz.func169,Tryz.ntmps169
  go_wp2
  go_loopw [7] (λi wr=>i=ab 0/\wr=w) (λi _=>0)
  case atStart=>exact⟨rfl,rfl⟩
  case round=>
   obtain⟨rfl,rfl⟩:=hrel;go_wp2;go_ret;exact⟨rfl,ah _ _⟩
 ·obtain⟨n,hN⟩:=qF (ls.length)
  rw[<-hN]at hn hnc hV ⊢;have HN:Hid (n=ls.length):=hid hN;have HV:=hid hV;clear hN hV
  go_enter Tryz.func169,Tryz.ntmps169
  go_wp2
  go_loopw [7] (λi wr=>∃k:Nat,k<=n/\i=ab k/\Hid ((ls.take k).any (λx=>x.2.1==2)=false)/\Hid (Below w.heap.size w wr)) (λi _=>n - (intOf i).toNat)
  case atStart=>exact⟨0,dh _,rfl,rfl,ah _ _⟩
  case round=>
   obtain⟨k,hk,rfl,hno,hbr⟩:=hrel;have hsz:=hbr.out.size
   by_cases hlt:k<n
   ·obtain⟨x,hx⟩:∃x,ls[k]?=some x:=⟨_,gE La⟩
    obtain⟨p,hp,⟨gw,m,mc,ad,cs,rfl,_⟩,k0,k1,k2⟩:=(HV.out.below hbr.out).at hx;clear hp;obtain⟨a,sh,l⟩:=x;simp only at k0 k1 k2;have hgr:g<wr.heap.size:=lL hg hsz;have zL:Hid (Below w.heap.size w (wr.alloc (.cells #[ab a,ab sh,.slice ad m mc] 325))):=hid (hbr.out.alloc hsz _);cases hs2:((sh:Int)==2)
    ·have HF:=hid (eJ (q:=λx=>x.2.1==2) hx hno.out (by simp at hs2 ⊢;omega))
     go_wp2
     go_roundw
     case rel=>exact⟨k+1,by omega,by go_num,HF,zL⟩
     case measure=>simp[intOf];omega
    ·have HF:=hid (uN (q:=λx=>x.2.1==2) hx (by simp at hs2 ⊢;omega))
     go_wp2;go_ret;exact⟨CQ HF.out,zL.out⟩
   ·have HE:Hid (ls.any (λx=>x.2.1==2)=false):=hid (by
     have:=hno.out
     rwa [jk La]at this)
    go_wp2;go_ret;exact⟨CQ HE.out,hbr.out⟩
def DO (st:List (List ByteArray) × List ByteArray) (x:ByteArray):List (List ByteArray) × List ByteArray:=if IL x then(st.1++ [st.2],[])else(st.1,st.2++ [x])
def Ge (l:List ByteArray):List (List ByteArray) × List ByteArray:=l.foldl DO ([],[])
def AE (l:List ByteArray):List (List ByteArray):=(Ge (l.drop 3)).1++ [(Ge (l.drop 3)).2]
theorem qC  (hk:3+k<l.length):Ge ((l.take (3+k+1)).drop 3)=DO (Ge ((l.take (3+k)).drop 3)) (nth l (3+k)):=by
 rw[iq hk,xX zG];unfold Ge nth;rw[ux,Af,gE hk];rfl
structure JZ (w:World) (B Bl:Nat) (v:Value) (done:List (List ByteArray)) (cur:List ByteArray) (Dv:List Value) (pl:Value):Prop where
 row:w.ownsRow B 39 1 v (done.length+1) (Dv++ [pl])
 Eo:Dv.length=done.length
 parts:∀(i:Nat) (r:List ByteArray) (p:Value),done[i]?=some r->Dv[i]?=some p->w.ownsRow B 9 1 p r.length (r.map Value.string)/\(∀q,p.ownBlock=some q->q<Bl)
 last:w.ownsRow Bl 9 1 pl cur.length (cur.map Value.string)
 hB:B<=Bl
 hBl:Bl<=w.heap.size
theorem JZ.start (w:World)  (hB:B<=w.heap.size):JZ (w.alloc (.cells #[.slice none 0 0] 39)) B (w.heap.size+1) (ae w.heap.size 1 1) [] [] [] (.slice none 0 0) where
 row:=⟨rfl,.inr ⟨_,_,_,rfl,hB,dz w _,zn _,by unfold maxLen;omega,rfl,rfl⟩⟩
 Eo:=rfl
 parts:=λi r p hr=>by simp at hr
 last:=jg _ _ _ _
 hB:=by omega
 hBl:=by simp
theorem LH {B' e sz:Nat}{xs:List Value} (h:w.ownsRow B e sz v n xs) (hB:B'<=B):w.ownsRow B' e sz v n xs:=by
 refine⟨h.1,?_⟩
 rcases h.2 with h2 | ⟨g,cap,cur,hv,hg,r⟩
 ·exact .inl h2
 ·exact .inr ⟨g,cap,cur,hv,zV hB hg,r⟩
theorem JZ.Yu {w3:World}{Bl:Nat}{v':Value}{done:List (List ByteArray)}{cur:List ByteArray}{Dv:List Value}{pl:Value} (h:JZ w B Bl v done cur Dv pl) (hk:A5 w w3 v.ownBlock.toList)
  (hown:w3.ownsRow B 39 1 v' (done.length+1+1) (Dv++ [pl]++ [.slice none 0 0])):JZ w3 B w3.heap.size v' (done++ [cur]) [] (Dv++ [pl]) (.slice none 0 0):=by
 have hl:=h.Eo;have hoff:∀{n:Nat}{b:Nat}{p:Value}{xs:List Value},w.ownsRow b 9 1 p n xs->∀q,p.ownBlock=some q->q∉v.ownBlock.toList:=by
  intro n b p xs hp q hq hm;exact GQ hp h.row (by decide) hq (BJ hm)
 refine⟨by simpa using hown,by simp[hl],λi r p hr hp=>?_,jg _ _ _ _,zV (zV h.hB h.hBl) hk.size,zn _⟩
 by_cases hi:i<done.length
 ·rw[aL hi]at hr
  rw[aL (by omega)]at hp;have h1:=h.parts i r p hr hp;exact⟨AC h1.1 hk (hoff h1.1),λq hq=>lL (D8 h1.1 hq) hk.size⟩
 ·rw[Bc (by omega)]at hr
  rw[Bc (by omega)]at hp;obtain⟨h1,_⟩:=zM.1 hr;simp at h1;rw[show i - done.length=0 by omega]at hr;rw[show i - Dv.length=0 by omega]at hp;simp at hr hp;subst hr;subst hp;exact⟨AC (LH h.last h.hB) hk (hoff h.last),λq hq=>lL (D8 h.last hq) hk.size⟩
theorem ZS {e cap j:Nat}{xs:List Value} (h:w.ownsRow B e 1 (ae g n cap) n xs) (u:Value):(w.setCell (af g j) u).ownsRow B e 1 (ae g n cap) n (xs.set j u):=by
 rcases h.2 with⟨h1,_⟩ | ⟨g',cap',cur,hv,hg,hh,h1,h2,h3,h4⟩
 ·cases h1
 ·cases hv
  refine⟨by simpa using h.1,.inr ⟨g,cap,cur.setIfInBounds j u,rfl,hg,AA hh u,h1,h2,by simpa using h3,?_⟩⟩;rw[Array.toList_setIfInBounds,<-h4,List.take_set]
theorem JZ.add {w3:World}{Bl gv cap:Nat}{pl':Value}{done:List (List ByteArray)}{cur:List ByteArray}{Dv:List Value}{pl:Value}{x:ByteArray} (h:JZ w B Bl (ae gv (done.length+1) cap) done cur Dv pl) (hk:A5 w w3 pl.ownBlock.toList)
  (hown:w3.ownsRow Bl 9 1 pl' (cur.length+1) (cur.map Value.string++ [.string x])):JZ (w3.setCell (af gv done.length) pl') B Bl (ae gv (done.length+1) cap) done (cur++ [x]) Dv pl':=by
 have hl:=h.Eo;have hrow:w3.ownsRow B 39 1 (ae gv (done.length+1) cap) (done.length+1) (Dv++ [pl]):=AC h.row hk (λq hq hm=>GQ h.row h.last (by decide) hq (BJ hm));have Ma:∀{n b:Nat}{p:Value}{xs:List Value},w3.ownsRow b 9 1 p n xs->p.ownBlock≠some gv:=λ{n b p xs} hp hq=>GQ hp hrow (by decide) hq rfl
 refine⟨?_,hl,λi r p hr hp=>?_,?_,h.hB,by simp[World.setCell];exact zV h.hBl hk.size⟩
 ·have:=ZS hrow (j:=done.length) pl'
  rwa [<-hl,vp _ _ (zn _),ku,xy,hl]at this
 ·have h1:=h.parts i r p hr hp
  have h2:=AC h1.1 hk (λq hq hm=>by
   have:=h1.2 q hq;have:=(h.last.lt q (BJ hm)).1;omega)
  exact⟨ur h2 (Ma h2) _,h1.2⟩
 ·have:=ur (a:=(af gv done.length)) hown (Ma hown) pl'
  simpa using this
theorem Tryz.info39:(Tryz.prog.info? 39).map (λi=>(i.zero,i.size,i.bytes))=some (some (.slice none 0 0),1,24):=by kernel_rfl
theorem mA (a sh:Nat) (p:Value) (l:List ByteArray) (w:World) (hW:EU w p l) (hl:3<=l.length) (Ct:l.length<=4001):
  Calls Tryz.prog 202 #[.agg #[ab a,ab sh,p]] w λe w'=>∃v Bl Dv pl,e=.returned v/\JZ w' w.heap.size Bl v (Ge (l.drop 3)).1 (Ge (l.drop 3)).2 Dv pl/\Below w.heap.size w w':=by
 obtain⟨j0,ji,jz0,jz1,jz2⟩:=iy Tryz.info39;obtain⟨i0,hi,hz0,hz1,hz2⟩:=iy Tryz.info9;obtain⟨g,n,cap,ad,cs,rfl,h2,h3,h4,h5,h6,h7⟩:=hW;have had:=h7 (by omega);subst had;have hst:DV w g 0 l:=⟨ak h5,λj hj=>by rw[ju,A0 h5];exact h6 j hj⟩;obtain⟨m,hm⟩:∃m,n=m+2:=⟨n - 2,by omega⟩;subst hm;obtain⟨c2,hc2⟩:∃c,cap=c+2:=⟨cap - 2,by omega⟩;subst hc2;have HST:Hid (DV w g 0 l):=hid hst;have HL:Hid (l.length=3+m):=hid (by omega);have Qz:m<=4000:=by omega
 clear h5 h6 h7 hst h2 hl Ct;have aaU:(w.alloc (.cells #[ab a,ab sh,.slice (some (af g 1)) (m+2) (c2+2)] 325)).heap.size=w.heap.size+1:=by simp
 have hR0:=JZ.start (w.alloc (.cells #[ab a,ab sh,.slice (some (af g 1)) (m+2) (c2+2)] 325)) (B:=w.heap.size) (by simp);rw[aaU]at hR0;have Ah:Hid (Below w.heap.size w ((w.alloc (.cells #[ab a,ab sh,.slice (some (af g 1)) (m+2) (c2+2)] 325)).alloc (.cells #[.slice none 0 0] 39))):=
  hid (((ah _ _).alloc (zn _) _).alloc (by simp) _)
 have Mx:=hid hR0;clear hR0 aaU
 by_cases hz:c2=0
 ·subst hz
  have hm0:m=0:=by omega
  subst hm0;have HE:Hid (Ge (l.drop 3)=([],[])):=hid (by rw[oc Yo];rfl)
  go_enter Tryz.func202,Tryz.ntmps202
  go_wp2
  go_loopw [3,12] (λv i wr=>i=ab 0/\v=ae (w.heap.size+1) 1 1/\Hid (JZ wr w.heap.size (w.heap.size+1+1) v [] [] [] (.slice none 0 0))/\Hid (Below w.heap.size w wr)) (λ_ i _=>0)
  case atStart=>exact⟨rfl,rfl,Mx,Ah⟩
  case round=>
   clear Mx Ah;obtain⟨rfl,rfl,hR,hbr⟩:=hrel;go_wp2;go_ret;rw[HE.out];exact⟨_,_,_,_,rfl,hR.out,hbr.out⟩
 ·go_enter Tryz.func202,Tryz.ntmps202
  go_wp2
  go_loopw [3,12] (λv i wr=>∃(k d gv cap Bl:Nat) (done:List (List ByteArray)) (cur:List ByteArray) (Dv:List Value) (pl:Value),k<=m/\d<=k/\i=ab k/\v=ae gv (d+1) cap/\Hid (done.length=d)/\Hid (cur.length<=k)/\
   Hid (Ge ((l.take (3+k)).drop 3)=(done,cur))/\Hid (JZ wr w.heap.size Bl v done cur Dv pl)/\Hid (Below w.heap.size w wr)) (λ_ i _=>m - (intOf i).toNat)
  case atStart=>exact⟨0,0,_,_,_,[],[],[],_,by omega,by omega,rfl,rfl,rfl,hid (by simp),hid (by rw[oc zG];rfl),Mx,Ah⟩
  case round=>
   clear Mx Ah;obtain⟨k,d,gv,cap,Bl,done,cur,Dv,pl,hk,hdk,rfl,rfl,hd,hcl,hp,hR,hbr⟩:=hrel;have hsz:=hbr.out.size
   by_cases hlt:k<m
   ·have hc:wr.cell? (af g (3+k))=some (.string (nth l (3+k))):=by
     simpa using (HST.out.later hbr.out).2 (3+k) (by rw[HL.out];omega)
    have HN:=hid (qC (l:=l) (k:=k) (by rw[HL.out];omega));have hrow:=hR.out.row;rw[hd.out]at hrow;have hpd:Dv.length=d:=hR.out.Eo.trans hd.out;have HPD:Hid (Dv.length=d):=hid hpd;have hcd:wr.cell? (af gv d)=some pl:=by
     rw[hrow.cellAt d (by omega),<-hpd];simp
    have HP:=hid hp;clear hp hpd;cases hb:((nth l (3+k)).toList== [124])
    ·have HQ:Hid (Ge ((l.take (3+k+1)).drop 3)=(done,cur++ [nth l (3+k)])):=hid (by
      rw[HN.out,HP.out.out];unfold DO IL;rw[hb];rfl)
     obtain⟨cn,Gp⟩:=qE (cur.length);have alg:cn<=4000:=by have:=hcl.out;omega
     have Tw:=hR.out.last;rw[Gp]at Tw;have HCN:Hid (cur.length=cn):=hid Gp;have hBB:=hR.out.hBl;have aib:=hR.out.hB;have Dl:=hid hrow;clear Gp hrow HN HP
     go_wp2_with (first
      | (at_builtin;refine jt _ rfl _ _ 39 rfl Bl 9 i0 (.string ByteArray.empty) 1 16 Tryz.underlying39 hi hz0 hz1 hz2 rfl (by decide) _ _ _ rfl (Tw.alloc _) (af wr.heap.size 0) 1 1 [.string (nth l (3+k))] rfl rfl (dn (dz wr _)) ?c2 (zn 1) ?c3 ?c4 ?c5 _ rfl ?_))
     case c2=>intro u hu;simp at hu;subst hu;rfl
     case c3=>unfold maxLen;omega
     case c4=>omega
     case c5=>simp;omega
     intro g3 Cf w3 Ad Ae Hy Fi;have hkeep:A5 wr w3 pl.ownBlock.toList:=((A5.refl _ _).alloc _).grown Ae (λq hq=>.inl Hh);have hrow3:=AC Dl.out hkeep (λq hq hm=>GQ Dl.out Tw (by decide) hq (BJ hm));have hc3:w3.cell? (af gv d)=some pl:=by
      rw[hrow3.cellAt d (by omega),<-HPD.out];simp
     have hf3:w3.frozen? (af gv d)=false:=by
      obtain⟨c,hc⟩:=BQ hrow3 (g:=gv) rfl;exact A7 hc
     have Ap:Hid (Below w.heap.size w (w3.setCell (af gv d) (ae g3 (cn+1) Cf))):=hid ((hbr.out.trans (hkeep.below hsz (λq hq=>zV aib (Tw.lt q (BJ hq)).1))).setCell (by exact(Dl.out.lt gv rfl).1) _);have HR3:Hid (JZ (w3.setCell (af gv d) (ae g3 (cn+1) Cf)) w.heap.size Bl (ae gv (d+1) cap) done (cur++ [nth l (3+k)]) Dv (ae g3 (cn+1) Cf)):=hid (by
      have h:=hR.out;have hdd:=hd.out;have hcc:=HCN.out;subst hdd;subst hcc;exact h.add hkeep Ad)
     clear Ad Ae Hy Fi hkeep hrow3 Tw;go_wp2
     go_roundw
     case rel=>exact⟨k+1,d,gv,cap,Bl,done,_,Dv,_,by omega,by omega,by go_num,rfl,hd,hid (by have:=hcl.out;simp;omega),HQ,HR3,Ap⟩
     case measure=>simp[intOf];omega
    ·have HQ:Hid (Ge ((l.take (3+k+1)).drop 3)=(done++ [cur],[])):=hid (by
      rw[HN.out,HP.out.out];unfold DO IL;rw[hb];rfl)
     clear HN HP
     go_wp2_with (first
      | (at_builtin;refine jt _ rfl _ _ 46 rfl w.heap.size 39 j0 (.slice none 0 0) 1 24 Tryz.underlying46 ji jz0 jz1 jz2 rfl (by decide) _ _ _ rfl (hrow.alloc _) (af wr.heap.size 0) 1 1 [.slice none 0 0] rfl rfl (dn (dz wr _)) ?d2 (zn 1) ?d3 ?d4 ?d5 _ rfl ?_))
     case d2=>intro u hu;simp at hu;subst hu;rfl
     case d3=>unfold maxLen;omega
     case d4=>omega
     case d5=>simp;omega
     intro g3 Cf w3 Ad Ae Hy Fi;have hkeep:A5 wr w3 (ae gv (d+1) cap).ownBlock.toList:=((A5.refl _ _).alloc _).grown Ae (λq hq=>.inl Hh);have Ap:Hid (Below w.heap.size w w3):=hid (hbr.out.trans (hkeep.below hsz (λq hq=>(hrow.lt q (BJ hq)).1)));have HR3:Hid (JZ w3 w.heap.size w3.heap.size (ae g3 (d+1+1) Cf) (done++ [cur]) [] (Dv++ [pl]) (.slice none 0 0)):=hid (by
      have h:=hR.out;have hdd:=hd.out;subst hdd;exact h.Yu hkeep (by simpa using Ad))
     clear Ad Ae Hy Fi hkeep hrow;go_wp2
     go_roundw
     case rel=>exact⟨k+1,d+1,g3,Cf,_,done++ [cur],[],Dv++ [pl],_,by omega,by omega,by go_num,rfl,hid (by simp[hd.out]),hid (by simp),HQ,HR3,Ap⟩
     case measure=>simp[intOf];omega
   ·have HE:Hid (Ge (l.drop 3)=(done,cur)):=hid (by
     have:=hp.out
     rwa [jk Yo]at this)
    go_wp2;go_ret;rw[HE.out];exact⟨_,_,_,_,rfl,hR.out,hbr.out⟩
end Go.Proofs.YtjjggdcnpndgjaaGreatDoor
