import Derived.Test.YtjjggdcnpndgjaaGreatDoorHJ13
import Derived.Shelf.Spec.TrailingZeros
import Derived.RangeFuncBox
import Derived.Maps.AppendAt
set_option linter.unusedSimpArgs false
set_option maxHeartbeats 2000000
set_option maxRecDepth 100000
namespace Go.Proofs.YtjjggdcnpndgjaaGreatDoor
abbrev xH:=@Nat.pow_pos
abbrev xQ:=@Nat.testBit_div_two_pow
abbrev yH:=@List.getElem?_drop
open Go.RowKit Go.Shelf
variable {w:World}{x:Nat}
theorem eD (w:World) (n₀ fb kb:Nat) (N:NG) (yL:List ByteArray) (pg:List Nm) (yu:Option Addr) (yl gN xY:Nat) (k:List Fa) (h:zK w n₀ fb kb N yL pg yu yl gN xY k) (Bi:∀n,AL k n<2 ^21) (hfo:∀n,B1 k n<2 ^21)
  (Bx:Nat) (Ni:w.cell? (af Bx 0)=some (ac fb)) (hBk:Bx≠kb) (v:Value) (r:Nat × List Pt) (hr:r∈N.rules) (hv:C0 w n₀ v r.2):
  Calls Tryz.prog 164 #[.pointer (some (af kb (r.1*4))),v,ac Bx] w λe w'=>e=.returned (.tuple #[])/\y8 w' kb N.nN (EP k r)/\A1 w w' [kb]:=by
 obtain⟨m,ps⟩:=r;have hm:m<N.nN:=h.gr.ok.lt _ hr;simp only at hv ⊢;have hps:B3 N ps:=h.gr.ok.ps hr;have hlen:ps.length<=8:=h.gr.ok.parts _ hr;have y7:=h.kn.lt;have hfw:=h.lf;have hne:=h.ne;have Ad:=h.ln;have hnk:=h.n0;have h2:=h.f2;have Cj:=h.gr.Aj;have hBw:Bx<w.heap.size:=bq w _ Ni;have Pq:Hid (C0 w n₀ v ps):=hid hv;obtain⟨ad,cap,rfl,hcap,hcs⟩:=hv;obtain⟨L,hL⟩:=qF (ps.length);rw[<-hL]at hcap hcs hlen Pq ⊢;obtain⟨nN,hn1⟩:=qF (N.nN);have zU:=h.gr.Bt;have hkn:=h.kn;rw[<-hn1]at h2 hm zU hkn ⊢;have H:=hid h;have HFF:Hid ((∀n,AL k n<2 ^21)/\(∀n,B1 k n<2 ^21)):=hid ⟨Bi,hfo⟩;have HN:Hid (nN=N.nN):=hid hn1;have HKN:Hid (y8 w kb nN k):=hid hkn;have HL:Hid (L=ps.length):=hid hL;have HC:=hid hcs;have HP:Hid (B3 N ps):=hid hps;have zv:Hid (w.cell? (af Bx 0)=some (ac fb)):=hid Ni;have HF0:Hid (w.cell? (af fb 2)=some (ae kb nN nN)):=hid h2;clear h hr hL hcs hps hn1 hkn Ni h2 Bi hfo
 show Calls _ _ _ _ λe w'=>e=.returned (.tuple #[])/\y8 w' kb nN (BT m ps k)/\A1 w w' [kb]
 go_enter Tryz.func164,Tryz.ntmps164
 go_wp2
 go_loopw [9] (λi wr=>∃(j:Nat) (kj:List Fa),j<=L/\i=ab j/\Hid (BT m ps k=BT m (ps.drop j) kj/\(∀n,AZ kj n=AZ k n)/\(∀n,AL kj n=AL k n)/\(∀n,B1 kj n<2 ^21))/\Hid (y8 wr kb nN kj)/\Hid (A1 w wr [kb])) (λi _=>L - (intOf i).toNat)
 case atStart=>exact⟨0,k,bu _,rfl,⟨rfl,λ_=>rfl,λ_=>rfl,HFF.out.2⟩,HKN,A1.refl _ _⟩
 case round=>
  obtain⟨j,kj,hj,rfl,HE,HV,HK⟩:=hrel
  by_cases hlt:j<L
  ·obtain⟨p,hp⟩:∃p,ps[j]?=some p:=⟨_,gE Zs⟩
   obtain⟨g,off,rfl,hg,hcl⟩:=HC.out (by omega);have Tq:=HK.out.size;have Hl:g<wr.heap.size:=by omega
   have Nk:g∉ [kb]:=by simp;omega
   have p0:=(HK.out.cell (p:=(af g (off+j*2))) Hj Nk).trans (hcl j p hp).1;have p1:=(HK.out.cell (p:=(af g (off+j*2+1))) Hj Nk).trans (hcl j p hp).2;have bx:=(HK.out.cell (p:=(af Bx 0)) (by exact hBw) (by simpa using hBk)).trans zv.out;have fx:=(HK.out.cell (p:=(af fb 2)) (by exact hfw) aaB).trans HF0.out;have Ae:=HP.out.at hp;have HD:Hid (ps.drop j=p::ps.drop (j+1)):=hid (RW hp);have HCL:=hid hcl;clear hcl hp;cases p with
   |tok t=>
    simp only[AQ,AP]at p0 p1;have zN:Hid (BT m ps k=BT m (ps.drop (j+1)) kj/\(∀n,AZ kj n=AZ k n)/\(∀n,AL kj n=AL k n)/\(∀n,B1 kj n<2 ^21)):=hid ⟨by rw[HE.out.1,HD.out];rfl,HE.out.2⟩;clear Ae;go_wp2
    go_roundw
    case rel=>exact⟨j+1,kj,by omega,by go_num,zN,hid (HV.out.keeps ((A1.refl _ []).alloc _) (by simp)),hid (HK.out.alloc _)⟩
    case measure=>simp[intOf];omega
   |yB n=>
    simp only[AQ,AP]at p0 p1;have hn:n<nN:=by rw[HN.out];exact Ae
    obtain⟨a,ha⟩:∃a,kj[m]?=some a:=⟨_,gE (by rw[HV.out.1];exact hm)⟩;obtain⟨b,hb⟩:∃b,kj[n]?=some b:=⟨_,gE (by rw[HV.out.1];exact hn)⟩;have ca:=(HV.out.cells ha).2.2.2;have cb:=(HV.out.cells hb).2.2.2;have fz:=HV.out.free (n*4+3);have hkr:=HV.out.lt;have HAB:Hid (kj[m]?=some a/\kj[n]?=some b):=hid ⟨ha,hb⟩;clear Ae ha hb;go_wp2;have hwr:IntKind.i64.wrap ((j:Int)+1)=(j:Int)+1:=by rw[Cy];omega
    have hb1:(0:Int)<=(j:Int)+1:=by omega
    have hb2:(j:Int)+1<=(L:Int):=by omega
    have Jh:((j:Int)+1).toNat=j+1:=by omega
    obtain⟨AD,Km⟩:=qE ((if cap=j+1 then some ((af g off):Addr)else some (af g (off+(j+1)*2))));have dx:=A2 (.cells #[.bool true,ab n] 235) bx;have ex:=A2 (.cells #[.bool true,ab n] 235) fx;have nx:=BF wr #[.bool true,ab n] 235 1;have ax:=A2 (.cells #[.bool true,ab n] 235) ca;have cx:=A2 (.cells #[.bool true,ab n] 235) cb;have zx:(wr.alloc (.cells #[.bool true,ab n] 235)).frozen? (af kb (n*4+3))=false:=(ni (w:=wr) (dm wr _ kb hkr)).trans fz;have HW:Hid (A1 wr (wr.alloc (.cells #[.bool true,ab n] 235)) []):=hid ((A1.refl _ _).alloc _);have hs1:(wr.alloc (.cells #[.bool true,ab n] 235)).heap.size=wr.heap.size+1:=bg _ _;obtain⟨W1,hW1⟩:=qE (wr.alloc (.cells #[.bool true,ab n] 235));rw[hW1]at dx ex nx ax cx zx HW hs1 ⊢;clear hW1 bx fx ca cb fz p0 p1;have ab3:A1 w W1.drew [kb]:=(HK.out.trans (HW.out.mono (λq h=>by cases h))).drew;have afm:y8 W1.drew kb N.nN kj:=by have h1:=HV.out.keeps HW.out.drew (by simp);rw[HN.out]at h1;exact h1
    have hfa:a.follow<2 ^21:=by rw[<-VM HAB.out.1];exact HE.out.2.2.2 m
    have Pk:b.follow<2 ^21:=by rw[<-VM HAB.out.2];exact HE.out.2.2.2 n
    have ab4:∀q,AL kj q<2 ^21:=λq=>by rw[HE.out.2.2.1];exact HFF.out.1 q
    have Ci:B3 N (ps.drop (j+1)):=⟨λq hq=>HP.out.1 q (uh hq),λq hq=>HP.out.2 q (uh hq)⟩;have Nn:C0 W1.drew n₀ (.slice AD (L - (j+1)) (cap - (j+1))) (ps.drop (j+1)):=
     ⟨AD,cap - (j+1),by rw[ku,<-HL.out],by rw[ku,<-HL.out];omega,λh0=>⟨g,off+(j+1)*2,by rw[ku,<-HL.out]at h0;rw[<-Km,au (by omega)],hg,λi p hp=>by
      rw[yH]at hp;obtain⟨q0,q1⟩:=HCL.out (j+1+i) p hp;rw[show off+(j+1)*2+i*2=off+(j+1+i)*2 from by omega];exact⟨(ab3.cell Hj Nk).trans q0,(ab3.cell Hj Nk).trans q1⟩⟩⟩
    have CA:=XE W1.drew n₀ fb kb N yL pg yu yl gN xY kj (H.out.keeps ab3 afm) ab4 (.slice AD (L - (j+1)) (cap - (j+1))) (ps.drop (j+1)) Nn Ci (by rw[ku,<-HL.out];omega) a.follow hfa;have hcl:=RM H.out.gr.Aj ab4 Ci hfa;have Ef:=o9 H.out.gr.Aj ab4 HE.out.2.2.2 Ci m n;have adb:BT m ps k=BT m (ps.drop (j+1)) (kj.modify n (Du (DU kj (ps.drop (j+1)) a.follow))):=by rw[HE.out.1,HD.out];simp only[BT];rw[VM HAB.out.1]
    rw[VM HAB.out.1]at Ef;obtain⟨c,hc⟩:=qE (DU kj (ps.drop (j+1)) a.follow);rw[hc]at CA hcl Ef adb;have Rq:=QW Pk hcl;have zN:Hid (BT m ps k=BT m (ps.drop (j+1)) (kj.modify n (Du c))/\(∀q,AZ (kj.modify n (Du c)) q=AZ k q)/\(∀q,AL (kj.modify n (Du c)) q=AL k q)/\(∀q,B1 (kj.modify n (Du c)) q<2 ^21)):=
     hid ⟨adb,λq=>(LH (f:=Du c) (λ_=>rfl) q).trans (HE.out.2.1 q),λq=>(KL (f:=Du c) (λ_=>rfl) q).trans (HE.out.2.2.1 q),Ef.2⟩
    have HCA:=hid CA;have ahZ:Bx<W1.heap.size:=bq W1 _ dx;have aaQ:fb<W1.heap.size:=bq W1 _ ex;have ade:kb<W1.heap.size:=bq W1 _ cx;have ah0:wr.heap.size<W1.heap.size:=by omega
    clear CA hcl Ef adb hc Nn Ci ab4 hfa Pk afm ab3;refine AE (λw'=>w'.cell? (af Bx 0)=some (ac fb)/\w'.cell? (af fb 2)=some (ae kb nN nN)/\w'.cell? (af wr.heap.size 1)=some (ab n)/\w'.cell? (af kb (n*4+3))=some (.int .u32 b.follow)/\w'.cell? (af kb (m*4+3))=some (.int .u32 a.follow)/\w'.frozen? (af kb (n*4+3))=false/\Below W1.heap.size W1 w') yg yg ⟨dx,ex,nx,cx,ax,zx,Af (ah _ _)⟩ (λhH=>?_);simp only[AB,BM,AO];refine tB 0 hH ?_;refine tB 1 hH ?_;refine tB 2 hH ?_;refine tB 3 hH ?_;refine tB 4 hH ?_;refine tB 5 hH ?_;refine tB 6 hH ?_;refine tB 7 hH ?_;refine tB 8 hH ?_;refine tB 9 hH ?_;refine tB 10 hH ?_;refine tB 11 hH ?_;refine tB 12 hH ?_;refine tB 13 hH ?_;refine tB 14 hH ?_;refine tB 15 hH ?_;refine tB 16 hH ?_;refine tB 17 hH ?_;refine tL ?_;refine tS 18 λK hK=>?_
    refine tM ?_;rw[aq (by rfl)];go_simp;refine HCA.out.mono ?_;rintro e w2 ⟨rfl,hb2⟩;refine hK.out _ _ ?_ λhH=>?_
    ·exact⟨(hb2.cell (by exact ahZ)).trans hH.1,(hb2.cell (by exact aaQ)).trans hH.2.1,(hb2.cell (by exact ah0)).trans hH.2.2.1,(hb2.cell (by exact ade)).trans hH.2.2.2.1,(hb2.cell (by exact ade)).trans hH.2.2.2.2.1,(ni (w:=W1.drew) (a:=(af kb (n*4+3))) (hb2.block kb ade)).trans hH.2.2.2.2.2.1,hH.2.2.2.2.2.2.trans hb2⟩
    clear hK K;refine tB 19 hH ?_;refine tB 20 hH ?_;refine tB 21 hH ?_;refine tB 22 hH ?_;refine tL ?_;refine bk yg ?_ _;have yV:=hid hH.2.2.2.2.2.2;have zz:=hH.2.2.2.2.2.1;have zc:=hH.2.2.2.1;clear hH hb2 zx cx ax nx ex dx;show wpList _ _ _ _ _ _;go_wp2
    go_roundw
    case rel=>
     obtain⟨h3,h4⟩:=y8.follow (HV.out.keeps (HW.out.trans (A1.yX yV.out [])) (by simp)) hn HAB.out.2 c;exact⟨j+1,_,by omega,by go_num,zN,h3,hid (HK.out.trans (((HW.out.trans (A1.yX yV.out [])).mono (λk h=>by cases h)).trans h4))⟩
    case measure=>simp[intOf];omega
  ·have zN:Hid (BT m ps k=kj):=hid (by
    rw[HE.out.1,nh Zv];rfl)
   go_wp2
   go_end0
   exact⟨rfl,by rw[zN.out];exact HV.out,HK.out⟩
theorem QC (w:World) (n₀ fb kb:Nat) (N:NG) (yL:List ByteArray) (pg:List Nm) (yu:Option Addr) (yl gN xY:Nat) (k0:List Fa) (h:zK w n₀ fb kb N yL pg yu yl gN xY k0) (h0:∀n,AL k0 n=0):
  Calls Tryz.prog 109 #[ac fb] w λe w'=>e=.returned (.tuple #[])/\A1 w w' [kb]/\∃k,IA N k0 k/\(∀r∈N.rules,EE k r=k)/\y8 w' kb N.nN k:=by
 have hkb:=h.kn.lt;obtain⟨W1,hW1⟩:=qE (w.alloc (.cells #[ac fb] 212));have Nl:A1 w W1 [kb]:=by rw[<-hW1];exact(A1.refl w [kb]).alloc _
 have h3:y8 W1 kb N.nN k0:=by rw[<-hW1];exact h.kn.keeps ((A1.refl w []).alloc _) (by simp)
 have hb:W1.cell? (af w.heap.size 0)=some (ac fb):=by rw[<-hW1];exact GL w _ _
 have Nj:w.heap.size<W1.heap.size:=bq W1 _ hb;have hX:=h.keeps Nl h3;have CS:=ML N yL pg yu yl gN xY kb fb n₀ W1 hX.gr hX.n0 hX.lf hX.ne hX.ln hX.f0 hX.f1 hX.f2 161 #[ac w.heap.size] (qo Tryz.func161 yg rfl)
  EE (FV ZF) (IA N k0) (λk hk r hr=>bH hX.gr.ok hX.gr.Aj hk hr)
  (λW k r v hW hk hI hr hv=>kA W n₀ fb kb N yL pg yu yl gN xY k (hX.keeps hW hk) hI.lt w.heap.size ((hW.cell (by exact Nj) Zn).trans hb) v r hr hv)
  hX.gr.ok.pos k0 hX.kn (eP h.kn.1 h0)
 have Bw:=hid CS;have Aa:=hid Nl;clear CS hX Nl h3 h h0
 go_enter Tryz.func109,Tryz.ntmps109
 go_wp2_with (go_at_call 153;refine Bw.out.mono ?_;rintro e w2 ⟨rfl,hk2,hr2⟩;have HR:=hid (And.intro hk2 hr2);clear hk2 hr2)
 go_end0
 exact⟨rfl,Aa.out.trans HR.out.1,HR.out.2⟩
theorem bL (W1:World) (n₀ fb kb:Nat) (N:NG) (yL:List ByteArray) (pg:List Nm) (yu:Option Addr) (yl gN xY:Nat) (k0 k1:List Fa) (hX:zK W1 n₀ fb kb N yL pg yu yl gN xY k1) (Rs:FD N k0 k1) (Bx:Nat) (hBk:Bx≠kb) (hb:W1.cell? (af Bx 0)=some (ac fb)):
  Calls Tryz.prog 153 #[ac fb,.func (.func 164) #[] #[ac Bx]] W1 λe w'=>e=.returned (.tuple #[])/\A1 W1 w' [kb]/\∃k,FD N k0 k/\(∀r∈N.rules,EP k r=k)/\y8 w' kb N.nN k:=
 ML N yL pg yu yl gN xY kb fb n₀ W1 hX.gr hX.n0 hX.lf hX.ne hX.ln hX.f0 hX.f1 hX.f2 164 #[ac Bx] (qo Tryz.func164 yg rfl)
  EP (FV NF) (FD N k0) (λk hk r hr=>YT hX.gr.ok hX.gr.Aj hk hr)
  (λW k r v hW hk hI hr hv=>eD W n₀ fb kb N yL pg yu yl gN xY k (hX.keeps hW hk) hI.hlt hI.lt Bx ((hW.cell (by exact bq W1 _ hb) (by simpa using hBk)).trans hb) hBk v r hr hv)
  hX.gr.ok.pos k1 hX.kn Rs
theorem MN (w:World) (yu:Option Addr) (nT yl gN nN xY:Nat):Calls Tryz.prog 115 #[.agg #[.slice yu nT yl,ae gN nN xY]] w λe w'=>e=.returned (ab nT)/\Below w.heap.size w w':=by
 go_enter Tryz.func115,Tryz.ntmps115
 go_wp2;go_ret;exact⟨rfl,(ah _ _).alloc (yF _) _⟩
theorem OD (w:World) (n₀ fb kb:Nat) (N:NG) (yL:List ByteArray) (pg:List Nm) (yu:Option Addr) (yl gN xY:Nat) (k0:List Fa) (h:zK w n₀ fb kb N yL pg yu yl gN xY k0) (hh:∀n,AL k0 n<2 ^21) (h0:∀n,B1 k0 n=0):
  Calls Tryz.prog 110 #[ac fb] w λe w'=>e=.returned (.tuple #[])/\A1 w w' [kb]/\∃k,FD N k0 k/\(∀r∈N.rules,EP k r=k)/\y8 w' kb N.nN k:=by
 have hkb:=h.kn.lt;have Cj:=h.gr.Aj;have hpos:=h.gr.ok.pos;have hFI:=bJ h.gr.ok h.gr.Aj h.kn.1 hh h0;obtain⟨a,ha⟩:∃a,k0[0]?=some a:=⟨_,gE (by rw[h.kn.1];exact hpos)⟩;obtain⟨W1,hW1⟩:=qE (w.alloc (.cells #[ac fb] 212));have Nl:A1 w W1 [kb]:=by rw[<-hW1];exact(A1.refl w [kb]).alloc _
 have h3:y8 W1 kb N.nN k0:=by rw[<-hW1];exact h.kn.keeps ((A1.refl w []).alloc _) (by simp)
 have hb:W1.cell? (af w.heap.size 0)=some (ac fb):=by rw[<-hW1];exact GL w _ _
 have Nj:w.heap.size<W1.heap.size:=bq W1 _ hb;have hX:=h.keeps Nl h3;have f0:=hX.f0;have f1:=hX.f1;have f2:=hX.f2;have hfw:=hX.lf;have y7:=hX.kn.lt;have c3:W1.cell? (af kb 3)=some (.int .u32 a.follow):=by have:=(hX.kn.cells ha).2.2.2;simpa using this
 have fz:W1.frozen? (af kb 3)=false:=hX.kn.free 3;have HX:=hid hX;have Aa:=hid Nl;obtain⟨nN,hn1⟩:=qF (N.nN);obtain⟨nT,hn2⟩:=qF (N.nT);rw[<-hn1]at f1 f2 hpos;rw[<-hn2]at f0 Cj hFI;obtain⟨x,hx⟩:∃x:Nat,1<<<nT=x:=⟨_,rfl⟩;have CO:=λW=>TV W nT Cj
 rw[hx]at hFI CO;have HFI:=hid hFI;have HCO:=hid CO;have Rt:Hid (nN=N.nN):=hid hn1;clear hX Nl h3 h h0 hh ha hFI hn1 hn2 CO hx
 go_enter Tryz.func110,Tryz.ntmps110
 go_wp2;refine AE (λw'=>w'.cell? (af w.heap.size 0)=some (ac fb)/\w'.cell? (af fb 0)=some (.slice yu nT yl)/\w'.cell? (af fb 1)=some (ae gN nN xY)/\w'.cell? (af fb 2)=some (ae kb nN nN)/\w'.cell? (af kb 3)=some (.int .u32 a.follow)/\w'.frozen? (af kb 3)=false/\Below W1.heap.size W1 w') yg yg ⟨hb,f0,f1,f2,c3,fz,Af (ah _ _)⟩ (λhH=>?_);simp only[AB,BM,AO];refine tB 0 hH ?_;refine tB 1 hH ?_;refine tB 2 hH ?_;refine tB 3 hH ?_;refine tB 4 hH ?_;refine tB 5 hH ?_;refine tB 6 hH ?_;refine tB 7 hH ?_;refine tL ?_;refine tS 8 λK hK=>?_
 refine tM ?_;rw[aq (by rfl)];go_simp;refine(MN _ _ _ _ _ _ _).mono ?_;rintro e w2 ⟨rfl,hb2⟩;refine hK.out _ _ ?_ λhH=>?_
 ·exact⟨(hb2.cell (by exact Nj)).trans hH.1,(hb2.cell (by exact hfw)).trans hH.2.1,(hb2.cell (by exact hfw)).trans hH.2.2.1,(hb2.cell (by exact hfw)).trans hH.2.2.2.1,(hb2.cell (by exact y7)).trans hH.2.2.2.2.1,(ni (w:=W1.drew) (a:=(af kb 3)) (hb2.block kb y7)).trans hH.2.2.2.2.2.1,hH.2.2.2.2.2.2.trans hb2⟩
 clear hK K;refine tL ?_;refine tS 9 λK hK=>?_
 refine tM ?_;rw[aq (by rfl)];go_simp;refine(HCO.out _).mono ?_;rintro e w3 ⟨rfl,rfl⟩;refine hK.out _ _ ?_ λhH=>?_
 ·exact hH
 clear hK K;refine tB 10 hH ?_;refine tB 11 hH ?_;refine tB 12 hH ?_;refine tL ?_;refine bk yg ?_ _;have yV:=hid hH.2.2.2.2.2.2;have zz:=hH.2.2.2.2.2.1;have zc:=hH.2.2.2.2.1;have zb:=hH.1;clear hH hb2 f0 f1 f2 c3 fz hb;obtain⟨h4,h5⟩:=(HX.out.kn.keeps (A1.yX yV.out []) (by simp)).put HX.out.gr.ok.pos (λa=>{a with follow:=x}) 3 (by omega) (.int .u32 x) (λa _=>rfl);rw[Nat.zero_mul,jl]at h4 h5;have HKX:=hid ((A1.yX yV.out [kb]).trans h5);have HV4:=hid h4;have hz:w.heap.size≠kb:=by omega
 have hzb:(w2.setCell (af kb 3) (.int .u32 x)).cell? (af w.heap.size 0)=some (ac fb):=(h5.cell (by exact bq w2 _ zb) (by simpa using hz)).trans zb;have CS:=bL (w2.setCell (af kb 3) (.int .u32 x)) n₀ fb kb N yL pg yu yl gN xY k0 _ (HX.out.keeps HKX.out HV4.out) HFI.out w.heap.size hz hzb;have Bw:=hid CS;clear h4 h5 hzb CS;show wpList _ _ _ _ _ _
 go_wp2_with (go_at_call 153;refine Bw.out.mono ?_;rintro e w3 ⟨rfl,hk2,hr2⟩;have HR:=hid (And.intro hk2 hr2);clear hk2 hr2)
 go_end0
 exact⟨rfl,Aa.out.trans (HKX.out.trans HR.out.1),HR.out.2⟩
section
attribute [local go_sem] Oper.semAt_some
def BA (x:Nat):List Nat:=(List.range 21).filter λi=>x.testBit i
theorem NQ {α:Type}{p:α->Bool}{l:List α} (h:∀a∈l,p a=false):l.filter p=[]:=by
 rw[xT];intro a ha;rw[h a ha];simp
theorem j2 {y k:Nat} (hk:k<21) (hb:x.testBit k=true) (hl:∀i,i<k->x.testBit i=false) (hy:∀i,y.testBit i=(x.testBit i&&decide (i≠k))):BA x=k::BA y:=by
 obtain⟨d,e⟩:∃d,21=k+1+d:=⟨20 - k,by omega⟩;unfold BA;rw[e,List.range_add,uj];simp only[oz];have h1:(List.range k).filter (λi=>x.testBit i)=[]:=NQ λi hi=>hl i (ir.1 hi)
 have h2:(List.range k).filter (λi=>y.testBit i)=[]:=NQ λi hi=>by rw[hy,hl i (ir.1 hi)];rfl
 have h3:((List.range d).map (k+1+ ·)).filter (λi=>y.testBit i)=((List.range d).map (k+1+ ·)).filter (λi=>x.testBit i):=by
  apply List.filter_congr;intro i hi;obtain⟨j,_,rfl⟩:=cj.1 hi;rw[hy];simp;omega
 rw[h1,h2,h3];have h4:y.testBit k=false:=by rw[hy];simp
 simp[hb,h4]
theorem eT:BA 0=[]:=NQ λi _=>Nat.zero_testBit i
theorem qZ (k m:Nat):(∀i,i<k->(2 ^k*(2*m+1)).testBit i=false)/\(2 ^k*(2*m+1)).testBit k=true/\∀i,((2 ^k*(2*m+1))&&& (2 ^k*(2*m+1) - 1)).testBit i=((2 ^k*(2*m+1)).testBit i&&decide (i≠k)):=by
 have h1:∀i,i<k->(2 ^k*(2*m+1)).testBit i=false:=λi hi=>by
  rw[Nat.mul_comm,Nat.testBit_mul_two_pow];simp;omega
 have hp:0<2 ^k:=xH (by decide);have hd1:(2 ^k*(2*m+1)) / 2 ^k=2*m+1:=Nat.mul_div_cancel_left _ hp;have hd2:(2 ^k*(2*m+1) - 1) / 2 ^k=2*m:=by
  rw[Nat.div_eq_iff hp];rw[Nat.mul_add,Nat.mul_one,Nat.mul_comm (2 ^k)];omega
 refine⟨h1,?_,λi=>?_⟩
 ·have h:((2 ^k*(2*m+1)) / 2 ^k).testBit 0=(2 ^k*(2*m+1)).testBit (0+k):=xQ _ _
  rw[hd1,jl]at h;rw[<-h];simp
 ·rw[Nat.testBit_and]
  by_cases hi:i<k
  ·rw[h1 i hi];simp
  ·obtain⟨j,rfl⟩:∃j,i=j+k:=⟨i - k,by omega⟩
   have e1:((2 ^k*(2*m+1)) / 2 ^k).testBit j=(2 ^k*(2*m+1)).testBit (j+k):=xQ _ _;have e2:((2 ^k*(2*m+1) - 1) / 2 ^k).testBit j=(2 ^k*(2*m+1) - 1).testBit (j+k):=xQ _ _;rw[hd1]at e1;rw[hd2]at e2;cases j with
   |zero=>
    simp only[jl]at e1 e2 ⊢;rw[<-e2];simp
   |succ j=>
    rw[<-e1,<-e2,Nat.testBit_succ,Nat.testBit_succ,show(2*m+1) / 2=m from by omega,show 2*m / 2=m from by omega];simp
theorem dW  (h0:x≠0) (hx:x<2 ^21):BA x=Lib.ctz 32 x::BA (x&&& (x - 1))/\Lib.ctz 32 x<21:=by
 have he:Lib.ctz 32 x=Lib.ctzFrom 32 x:=by unfold Lib.ctz;rw[au h0]
 rw[he];obtain⟨m,hm,_⟩:=Lib.ctzFrom_spec 32 x (by omega) (by omega);obtain⟨k,hk⟩:=qE (Lib.ctzFrom 32 x);rw[hk]at hm ⊢;have afn:k<21:=by
  apply Nat.lt_of_not_le;intro hle;have h1:2 ^21<=2 ^k:=ox (by decide) hle;have h2:2 ^k<=2 ^k*(2*m+1):=Nat.le_mul_of_pos_right _ (by omega);omega
 subst hm;obtain⟨l1,l2,l3⟩:=qZ k m;exact⟨j2 afn l2 l1 l3,afn⟩
theorem vQ  (h:x<2 ^21):x&&& (x - 1)<2 ^21:=yG Nat.and_le_left h
theorem uO (x k idx:Nat) (w:World) (hx0:((x:Int)==0)=false)
  (key:bits BinOp.and IntKind.u32 (x:Int) (-(x:Int) % 4294967296)*125613361 % 4294967296 / 134217728=(idx:Int))
  (hi:idx<32) (hk:k<32) (hcell:w.cell? (af 1 idx)=some (.int .u8 k)):
  Calls Tryz.prog 182 #[.int .u32 x] w λe w'=>e=.returned (ab k)/\w=w':=by
 go_enter Tryz.func182,Tryz.ntmps182
 go_wp2_with (simp only[key])
 go_ret;exact⟨rfl,rfl⟩
theorem wF (x:Nat) (hx0:x≠0) (hx:x<4294967296) (w:World) (hT:TabAt 1 Lib.deBruijn32tab w):
  Calls Tryz.prog 182 #[.int .u32 x] w λe w'=>e=.returned (ab (Lib.ctz 32 x))/\w=w':=by
 obtain⟨hlow,hk⟩:=Lib.lowest_bit 32 x hx0 hx;obtain⟨hi,ab5⟩:=Lib.deBruijn32_at _ hk;have hcell:=hT _ hi;rw[ab5]at hcell;exact uO x _ _ w yM (tz32_key x _ hx hx0 hlow) hi hk hcell
theorem TabAt.below {g:Nat}{tab:List Nat}{w':World}{B:Nat} (h:TabAt g tab w) (hb:Below B w w') (hg:g<B):TabAt g tab w':=λj hj=>(hb.cell Cx).trans (h j hj)
theorem XP (F:Fence) (n:Nat) (hF:F.fn 128) (hro:F.round=none) (s:Int) (w:World):
  CallsIn F n Tryz.prog 128 #[.int .u32 s] w λe w'=>e=.returned (.func (.func 181) #[] #[ac w.heap.size])/\w'=w.alloc (.cells #[.int .u32 s] 214):=by
 refine ud Tryz.func128 rfl hF ?_ hro;simp only[Tryz.ntmps128,iz,lC,iw,Nat.reduceAdd,Nat.reduceSub,jg,jh,ju,jo,eu,ig]
 gi_wp2
 go_ret;exact⟨rfl,rfl⟩
end
section
attribute [local go_sem] Oper.semAt_some
abbrev TI (s:Nat):={t:Nat // t∈BA s}
def kQ {s:Nat} (t:TI s):Array Value:= #[ab (t.1:Int)]
theorem uT (n:Nat) (hn:1<=n) (l Bn n₀ s:Nat) (hs:s<2 ^21) (hn0:1<n₀) (J Jx:List (TI s)->World->Prop) (W:World) (hJ:AbidesFrom W.heap.size J) (hT:TabAt 1 Lib.deBruijn32tab W)
  (hY:∀pre x W,J pre W->pre.length< (BA s).length->YieldAt Fence.wide (n - 1) Tryz.prog l (kQ x) W λe W'=>
   (e=.returned (.bool true)/\J (pre++ [x]) W'/\Below n₀ W W')\/(e=.returned (.bool false)/\Jx (pre++ [x]) W'))
  (Lu:W.cell? (af Bn 0)=some (.int .u32 s)) (h0:J [] W):
  CallsIn Fence.wide n Tryz.prog 181 #[.func (.yield l) #[] #[],ac Bn] W λe W'=>(∃v,e=.returned v)/\
   ((∃ys:List (TI s),ys.map (·.1)=BA s/\J ys W')\/(∃pre:List (TI s),(∃rest,BA s=pre.map (·.1)++rest)/\Jx pre W')):=by
 have HJ:=hid hJ;have HY:=hid hY;have HT:=hid hT;have Ki:Hid (J [] W):=hid h0;have HS:Hid (s<2 ^21):=hid hs;clear hJ hY hT h0 hs;refine ud Tryz.func181 rfl trivial ?_ rfl;simp only[Tryz.ntmps181,iz,lC,iw,Nat.reduceAdd,Nat.reduceSub,jg,jh,ju,jo,eu,ig]
 gi_wp2
 gi_loopg [3] (s) (λg p wr=>∃(x:Nat) (pre:List (TI s)),x=g/\p=.int .u32 x/\Hid (x<2 ^21)/\Hid (BA s=pre.map (·.1)++BA x)/\Hid (J pre wr)/\Hid (TabAt 1 Lib.deBruijn32tab wr))
 case atStart=>exact⟨s,[],rfl,rfl,HS,rfl,Ki,HT⟩
 case round=>
  obtain⟨x,pre,rfl,rfl,hx,hpre,hJs,Lv⟩:=hrel
  by_cases hz:x=0
  ·subst hz
   have HE:Hid (pre.map (·.1)=BA s):=hid (by have h1:=hpre.out;rw[eT,iq]at h1;exact h1.symm)
   gi_wp2
   go_end0
   exact⟨⟨_,rfl⟩,.inl ⟨pre,HE.out,hJs.out⟩⟩
  ·obtain⟨hb1,hb2⟩:=dW hz hx.out
   have hlen:pre.length< (BA s).length:=by rw[hpre.out,hb1];simp
   have hmem:Lib.ctz 32 x∈BA s:=by rw[hpre.out,hb1];simp
   have CT:=(mq (n:=n - 1)).2 (wF x hz (by have:=hx.out;omega) wr Lv.out);have hxx:=hx.out;obtain⟨t,ht⟩:=qE (Lib.ctz 32 x);rw[ht]at hb1 hb2 CT hmem;obtain⟨fn,tmps,assign,body,hy,hR⟩:=HY.out pre ⟨t,hmem⟩ wr hJs.out hlen;have hy:(Instr.yield l #[ab (t:Int)]).run Tryz.prog wr=.ok (.round l fn tmps assign body) wr:=hy;have Bh:Hid (BA s=(pre++ [(⟨t,hmem⟩:TI s)]).map (·.1)++BA (x&&& (x - 1))):=hid (hpre.out.trans (by rw[hb1];simp));have hand:bits .and .u32 (x:Int) ((x:Int) - 1)=((x&&& (x - 1):Nat):Int):=by
    rw[show(x:Int) - 1=((x - 1:Nat):Int) from by omega];exact bits_and_u32_nat x (x - 1) (by omega) (by omega)
   have hxz:((x:Int)==0)=false:=by simp;omega
   have HR:=hid hR;have Ru:Hid (x&&& (x - 1)<2 ^21/\x&&& (x - 1)<x):=hid ⟨vQ hxx,by have:x&&& (x - 1)<=x - 1:=Nat.and_le_right;omega⟩;clear hR hlen hb1 ht
   gi_wp2_with (refine⟨trivial,?_⟩;gi_at_call 182;refine CT.mono ?_;rintro e w2 ⟨rfl,rfl⟩;clear CT)
   refine HR.out.mono ?_;rintro e W3 (⟨rfl,hJ3,hk3⟩ | ⟨rfl,aaM⟩)
   ·have Wm:=hid hJ3
    have HT3:=hid (TabAt.below Lv.out hk3 hn0);clear hJ3 hk3
    gi_wp2
    gi_roundg (x&&& (x - 1))
    case measure=>exact Ru.out.2
    case rel=>exact⟨_,pre++ [⟨t,hmem⟩],rfl,by go_num,Ru.out.1,Bh,Wm,HT3⟩
   ·gi_wp2
    refine xm (ql rfl _ _ _) rfl ?_;exact⟨⟨_,rfl⟩,.inr ⟨pre++ [⟨t,hmem⟩],⟨_,Bh.out⟩,aaM⟩⟩
theorem YK (n:Nat) (hn:1<=n) (Bn n₀ s:Nat) (hs:s<2 ^21) (hn0:1<n₀) (w:World) (hB:Bn<w.heap.size) (hT:TabAt 1 Lib.deBruijn32tab w) (Lu:w.cell? (af Bn 0)=some (.int .u32 s)):
  SeqStopsK Fence.wide n Tryz.prog 181 #[ac Bn] (kQ (s:=s)) (Below n₀) (λys=>ys.map (·.1)=BA s) (λpre=>∃rest,BA s=pre.map (·.1)++rest) (BA s).length w:=λl J Jx W hW hJ _ hY h0=>by
 refine(uT n hn l Bn n₀ s hs hn0 J Jx W hJ (TabAt.below hT hW (bq _ _ (hT 0 (by decide)))) hY ((hW.cell (p:=(af Bn 0)) hB).trans Lu) h0).mono ?_;rintro e W' ⟨h1,h2⟩;exact⟨h1,h2⟩
end
theorem iU {P:Program}{Q:Exit->Act->World->Prop}{S:World->Prop}{l:List Oper}{a:Act} (hB:MA l=true) (hS:S w.drew)
  (h:S w.drew->wpAnyH P .any (AB l).toArray (EX λa w=>wpList P #[AO l] Q [AO l] a w) S l.length (Array.replicate l.length false) a w.drew):wpAny P .any l.toArray Q l.length (Array.replicate l.length false) a w.drew:=by
 have ho:l.getLast?=some (AO l):=by
  refine LT l ?_;intro e;subst e;cases hB
 have hpos:0<l.length:=by cases l with |nil=>simp at ho |cons _ _=>simp
 refine SL ho hB _ _ _ _ (by simp) ?_ ?_ (wpAny_of_held _ _ _ _ (h hS))
 ·intro k o' hk hl
  rw[lu]at hl
  rcases jw k l.length with h' |h'
  ·simp[h']at hl
  ·simp[h']at hl
 rw[lu,jt yM];simp
theorem BZ {lp n:Nat}{P:Program}{id:Nat}{l:List Oper}{Q:Exit->Act->World->Prop}{a:Act} (S:World->Prop) (hm:P.follows .mixedOrders=true) (hd:VG l.toArray=true) (hQ:¬LetsOut Q) (hB:MA l=true) (hS:S w.drew)
  (h:S w.drew->wpAnyH P .any (AB l).toArray (EX λa w=>wpList P #[AO l] Q [AO l] a w) S l.length (Array.replicate l.length false) a w.drew):(Code.region id l.toArray true).wpIn (Fence.wide.inRound lp) n P Q a w:=
 wpIn_region_any hm (T0 hd hQ _ _ _ _ (by rw[iz];exact iU hB hS h))
def CV (yL:List ByteArray) (nT t:Nat):ByteArray:=if t=nT then ByteArray.empty else nth yL t
theorem P9 (w:World) (n₀:Nat) (N:NG) (yL:List ByteArray) (pg:List Nm) (yu:Option Addr) (yl gN xY:Nat) (h:Ba w n₀ N yL pg yu yl gN xY) (hn:n₀<=w.heap.size) (t:Nat) (ht:t<=N.nT):
  Calls Tryz.prog 129 #[.agg #[.slice yu N.nT yl,ae gN N.nN xY],ab t] w λe w'=>e=.returned (.string (CV yL N.nT t))/\Below w.heap.size w w':=by
 have Cj:=h.Aj;have CE:=MN (w.alloc (.cells #[.slice yu N.nT yl,ae gN N.nN xY] 135)) yu N.nT yl gN N.nN xY;have H:=hid h;clear h;obtain⟨nT,hn1⟩:=qF (N.nT);rw[<-hn1]at ht Cj CE ⊢;obtain⟨nN,hn2⟩:=qF (N.nN);rw[<-hn2]at CE ⊢;have Po:=hid CE;have HN:Hid (nT=N.nT):=hid hn1;clear hn1 hn2 CE
 by_cases he:t=nT
 ·have HR:Hid (CV yL nT t=ByteArray.empty):=hid (by unfold CV;rw[aq he])
  subst he
  go_enter Tryz.func129,Tryz.ntmps129
  go_wp2_with (go_at_call 115;refine Po.out.mono ?_;rintro e w2 ⟨rfl,hb2⟩;have HB:=hid hb2;clear hb2)
  go_ret;exact⟨by rw[HR.out];rfl,((ah _ _).alloc (yF _) _).trans (HB.out.mono (by simp))⟩
 ·have hlt:t<nT:=by omega
  obtain⟨gT,rfl,hg,hc,_⟩:=H.out.toks t abQ;have Hl:gT<w.heap.size:=by omega
  have HR:Hid (CV yL nT t=nth yL t):=hid (by unfold CV;rw[au he]);have hne:((t:Int)==(nT:Int))=false:=by simp;omega
  obtain⟨s,hs⟩:=qE (nth yL t);rw[hs]at hc HR;clear hs
  go_enter Tryz.func129,Tryz.ntmps129
  go_wp2_with (go_at_call 115;refine Po.out.mono ?_;rintro e w2 ⟨rfl,hb2⟩;have HB:=hid hb2;have hx:=(hb2.cell (p:=(af w.heap.size 0)) (by simp)).trans (BF w #[ae gT nT yl,ae gN nN xY] 135 0);have hy:=(hb2.cell (p:=(af gT (t*4))) yM).trans (A2 (.cells #[ae gT nT yl,ae gN nN xY] 135) hc);clear hb2)
  go_ret;exact⟨by rw[HR.out];rfl,((ah _ _).alloc (yF _) _).trans (HB.out.mono (by simp))⟩
def DE (p:Fa->Bool) (k:List Fa):Int:=match k.findIdx? p with
 |some i=>i
 |none=> -1
theorem fP {p:Fa->Bool}{k:List Fa}{j:Nat}{a:Fa} (ha:k[j]?=some a) (hp:p a=true) (hno:∀m b,m<j->k[m]?=some b->p b=false):DE p k=j:=by
 obtain⟨hj,he⟩:=yS.1 ha;have h:k.findIdx? p=some j:=by
  rw[oo];refine⟨hj,by rw[he];exact hp,λm hm=>?_⟩;have:=hno m _ hm (gE (by omega));rw[this];simp
 unfold DE;rw[h]
theorem fU {p:Fa->Bool}{k:List Fa} (hno:∀(m:Nat) b,k[m]?=some b->p b=false):DE p k= -1:=by
 have h:k.findIdx? p=none:=by
  rw[xJ];intro a ha;obtain⟨i,hi,rfl⟩:=jr.1 ha;exact hno i _ (gE hi)
 unfold DE;rw[h]
def Tr (a:Fa):Value:=.agg #[ab a.least,.bool a.reached,.int .u32 a.first,.int .u32 a.follow]
theorem PU (w:World) (kb n:Nat) (k:List Fa) (hK:y8 w kb n k) (hn:n<=20) (cf:Nat) (p:Fa->Bool) (he:∀args W,(callFunc cf args).run Tryz.prog W=.ok (.enter cf args) W)
  (hcf:∀W a,Calls Tryz.prog cf #[Tr a] W λe w'=>e=.returned (.bool (p a))/\Below W.heap.size W w'):
  Calls Tryz.prog 160 #[ae kb n n,.func (.func cf) #[] #[]] w λe w'=>e=.returned (ab (DE p k))/\Below w.heap.size w w':=by
 have HK:=hid hK;have HC:=hid hcf;clear hK hcf
 go_enter Tryz.func160,Tryz.ntmps160
 go_wp2
 go_loopw [8] (λi wr=>∃j:Nat,j<=n/\i=ab j/\Hid (∀m b,m<j->k[m]?=some b->p b=false)/\Hid (Below w.heap.size w wr)) (λi _=>n - (intOf i).toNat)
 case atStart=>exact⟨0,bu _,rfl,λm b h=>by omega,ah _ _⟩
 case round=>
  obtain⟨j,hj,rfl,hno,hB⟩:=hrel
  by_cases hlt:j<n
  ·have Lx:Hid (y8 wr kb n k):=hid (HK.out.keeps (A1.yX hB.out []) (by simp))
   obtain⟨a,ha⟩:∃a,k[j]?=some a:=⟨_,gE (by rw[HK.out.1];exact hlt)⟩;obtain⟨c0,c1,c2,c3⟩:=Lx.out.cells ha;have CC:=HC.out wr a;unfold Tr at CC;have HA:Hid (k[j]?=some a):=hid ha;clear ha;cases hp:p a
   ·rw[hp]at CC
    have HE:Hid (∀m b,m<j+1->k[m]?=some b->p b=false):=hid λm b hm hb=>by
     rcases jw m j with h |h
     ·exact hno.out m b h hb
     ·obtain rfl:m=j:=by omega
      rw[HA.out]at hb;injection hb with hb;rw[<-hb];exact hp
    go_wp2_with (refine CC.mono ?_;rintro e w2 ⟨rfl,hb2⟩;have yV:=hid (hB.out.trans (hb2.mono hB.out.size));clear hb2 CC)
    go_roundw
    case rel=>exact⟨j+1,by omega,by go_num,HE,yV⟩
    case measure=>simp[intOf];omega
   ·rw[hp]at CC
    have HE:Hid (DE p k=j):=hid (fP HA.out hp hno.out)
    go_wp2_with (refine CC.mono ?_;rintro e w2 ⟨rfl,hb2⟩;have yV:=hid (hB.out.trans (hb2.mono hB.out.size));clear hb2 CC)
    go_ret;exact⟨by rw[HE.out];rfl,yV.out⟩
  ·have HE:Hid (DE p k= -1):=hid (fU λm b hb=>hno.out m b (by have h1:=(yS.1 hb).1;have h2:=HK.out.1;omega) hb)
   go_wp2;go_ret;exact⟨by rw[HE.out];rfl,hB.out⟩
theorem iB (W:World) (a:Fa):Calls Tryz.prog 157 #[Tr a] W λe w'=>e=.returned (.bool ((a.least:Int)==202))/\Below W.heap.size W w':=by
 unfold Tr
 go_enter Tryz.func157,Tryz.ntmps157
 go_wp2;go_ret;exact⟨rfl,(ah _ _).alloc (yF _) _⟩
theorem kB (W:World) (a:Fa):Calls Tryz.prog 158 #[Tr a] W λe w'=>e=.returned (.bool (!a.reached))/\Below W.heap.size W w':=by
 unfold Tr
 go_enter Tryz.func158,Tryz.ntmps158
 go_wp2;go_ret;exact⟨rfl,(ah _ _).alloc (yF _) _⟩
theorem iC (W:World) (a:Fa):Calls Tryz.prog 159 #[Tr a] W λe w'=>e=.returned (.bool ((a.least:Int)==201))/\Below W.heap.size W w':=by
 unfold Tr
 go_enter Tryz.func159,Tryz.ntmps159
 go_wp2;go_ret;exact⟨rfl,(ah _ _).alloc (yF _) _⟩
end Go.Proofs.YtjjggdcnpndgjaaGreatDoor
