import Derived.Test.YtjjggdcnpndgjabGreatDoorJ13
import Derived.Shelf.Spec.TrailingZeros
import Derived.RangeFuncBox
import Derived.Maps.AppendAt
set_option linter.unusedSimpArgs false
set_option maxHeartbeats 2000000
set_option maxRecDepth 100000
namespace Go.Proofs.YtjjggdcnpndgjabGreatDoor
open Go.RowKit Go.Shelf
variable {w:World}{x:Nat}
theorem dG (w:World) (n₀ fb kb:Nat) (N:NG) (tws:List ByteArray) (pg:List Nm) (adT:Option Addr) (capT gN capN:Nat) (k:List Fa) (h:FcM w n₀ fb kb N tws pg adT capT gN capN k) (hfh:∀n,AL k n<2 ^21) (hfo:∀n,B2 k n<2 ^21)
  (Bx:Nat) (hBx:w.cell? (af Bx 0)=some (ac fb)) (hBk:Bx≠kb) (v:Value) (r:Nat × List Pt) (hr:r∈N.rules) (hv:C0 w n₀ v r.2):
  Calls Tryz.prog 72 #[.pointer (some (af kb (r.1*4))),v,ac Bx] w fun e w'=>e=.returned (.tuple #[])/\KnV w' kb N.nN (EK k r)/\A1 w w' [kb]:=by
 obtain⟨m,ps⟩:=r;have hm:m<N.nN:=h.gr.ok.lt _ hr;simp only at hv ⊢;have hps:AY N ps:=h.gr.ok.ps hr;have hlen:ps.length<=8:=h.gr.ok.parts _ hr;have hkw:=h.kn.lt;have hfw:=h.lf;have hne:=h.ne;have hlw:=h.ln;have hnk:=h.n0;have h2:=h.f2;have hT20:=h.gr.leT;have hBw:Bx<w.heap.size:=World.block_lt_of_cell? w _ hBx;have HPV:Hid (C0 w n₀ v ps):=hid hv;obtain⟨ad,cap,rfl,hcap,hcs⟩:=hv;obtain⟨L,hL⟩:=qF (ps.length);rw[<-hL]at hcap hcs hlen HPV ⊢;obtain⟨nN,hn1⟩:=qF (N.nN);have hn20:=h.gr.leN;have hkn:=h.kn;rw[<-hn1]at h2 hm hn20 hkn ⊢;have H:=hid h;have HFF:Hid ((∀n,AL k n<2 ^21)/\(∀n,B2 k n<2 ^21)):=hid ⟨hfh,hfo⟩;have HN:Hid (nN=N.nN):=hid hn1;have HKN:Hid (KnV w kb nN k):=hid hkn;have HL:Hid (L=ps.length):=hid hL;have HC:=hid hcs;have HP:Hid (AY N ps):=hid hps;have HB0:Hid (w.cell? (af Bx 0)=some (ac fb)):=hid hBx;have HF0:Hid (w.cell? (af fb 2)=some (ae kb nN nN)):=hid h2;clear h hr hL hcs hps hn1 hkn hBx h2 hfh hfo
 show Calls _ _ _ _ fun e w'=>e=.returned (.tuple #[])/\KnV w' kb nN (BV m ps k)/\A1 w w' [kb]
 go_enter Tryz.func72,Tryz.ntmps72
 go_wp2
 go_loopw [9] (fun i wr=>∃(j:Nat) (kj:List Fa),j<=L/\i=ab j/\Hid (BV m ps k=BV m (ps.drop j) kj/\(∀n,B3 kj n=B3 k n)/\(∀n,AL kj n=AL k n)/\(∀n,B2 kj n<2 ^21))/\Hid (KnV wr kb nN kj)/\Hid (A1 w wr [kb])) (fun i _=>L - (intOf i).toNat)
 case atStart=>exact⟨0,k,Nat.zero_le _,rfl,⟨rfl,fun _=>rfl,fun _=>rfl,HFF.out.2⟩,HKN,A1.refl _ _⟩
 case round=>
  obtain⟨j,kj,hj,rfl,HE,HV,HK⟩:=hrel
  by_cases hlt:j<L
  ·obtain⟨p,hp⟩:∃p,ps[j]?=some p:=⟨_,gE y32Z⟩
   obtain⟨g,off,rfl,hg,hcl⟩:=HC.out (by omega);have hszw:=HK.out.size;have hgw:g<wr.heap.size:=by omega
   have hgk:g∉ [kb]:=by simp;omega
   have p0:=(HK.out.cell (p:=(af g (off+j*2))) y6Z hgk).trans (hcl j p hp).1;have p1:=(HK.out.cell (p:=(af g (off+j*2+1))) y6Z hgk).trans (hcl j p hp).2;have bx:=(HK.out.cell (p:=(af Bx 0)) (by exact hBw) (by simpa using hBk)).trans HB0.out;have fx:=(HK.out.cell (p:=(af fb 2)) (by exact hfw) y66Z).trans HF0.out;have hpt:=HP.out.at hp;have HD:Hid (ps.drop j=p::ps.drop (j+1)):=hid (SB hp);have HCL:=hid hcl;clear hcl hp;cases p with
   |tok t=>
    simp only[AQ,AP]at p0 p1;have HE2:Hid (BV m ps k=BV m (ps.drop (j+1)) kj/\(∀n,B3 kj n=B3 k n)/\(∀n,AL kj n=AL k n)/\(∀n,B2 kj n<2 ^21)):=hid ⟨by rw[HE.out.1,HD.out];rfl,HE.out.2⟩;clear hpt;go_wp2
    go_roundw
    case rel=>exact⟨j+1,kj,by omega,by go_num,HE2,hid (HV.out.keeps ((A1.refl _ []).alloc _) (by simp)),hid (HK.out.alloc _)⟩
    case measure=>simp[intOf];omega
   |nam n=>
    simp only[AQ,AP]at p0 p1;have hn:n<nN:=by rw[HN.out];exact hpt
    obtain⟨a,ha⟩:∃a,kj[m]?=some a:=⟨_,gE (by rw[HV.out.1];exact hm)⟩;obtain⟨b,hb⟩:∃b,kj[n]?=some b:=⟨_,gE (by rw[HV.out.1];exact hn)⟩;have ca:=(HV.out.cells ha).2.2.2;have cb:=(HV.out.cells hb).2.2.2;have fz:=HV.out.free (n*4+3);have hkr:=HV.out.lt;have HAB:Hid (kj[m]?=some a/\kj[n]?=some b):=hid ⟨ha,hb⟩;clear hpt ha hb;go_wp2;have hwr:IntKind.i64.wrap ((j:Int)+1)=(j:Int)+1:=by rw[w64];omega
    have hb1:(0:Int)<=(j:Int)+1:=by omega
    have hb2:(j:Int)+1<=(L:Int):=by omega
    have htn:((j:Int)+1).toNat=j+1:=by omega
    obtain⟨AD,hAD⟩:=qE ((if cap=j+1 then some ((af g off):Addr)else some (af g (off+(j+1)*2))));have dx:=A2 (.cells #[.bool true,ab n] 105) bx;have ex:=A2 (.cells #[.bool true,ab n] 105) fx;have nx:=BG wr #[.bool true,ab n] 105 1;have ax:=A2 (.cells #[.bool true,ab n] 105) ca;have cx:=A2 (.cells #[.bool true,ab n] 105) cb;have zx:(wr.alloc (.cells #[.bool true,ab n] 105)).frozen? (af kb (n*4+3))=false:=(World.frozen?_of_block (w:=wr) (Below.heap_alloc wr _ kb hkr)).trans fz;have HW:Hid (A1 wr (wr.alloc (.cells #[.bool true,ab n] 105)) []):=hid ((A1.refl _ _).alloc _);have hs1:(wr.alloc (.cells #[.bool true,ab n] 105)).heap.size=wr.heap.size+1:=World.size_alloc _ _;obtain⟨W1,hW1⟩:=qE (wr.alloc (.cells #[.bool true,ab n] 105));rw[hW1]at dx ex nx ax cx zx HW hs1 ⊢;clear hW1 bx fx ca cb fz p0 p1;have hKW1:A1 w W1.drew [kb]:=(HK.out.trans (HW.out.mono (fun q h=>by cases h))).drew;have hKV1:KnV W1.drew kb N.nN kj:=by have h1:=HV.out.keeps HW.out.drew (by simp);rw[HN.out]at h1;exact h1
    have hfa:a.follow<2 ^21:=by rw[<-VM HAB.out.1];exact HE.out.2.2.2 m
    have hfb:b.follow<2 ^21:=by rw[<-VM HAB.out.2];exact HE.out.2.2.2 n
    have hfh2:∀q,AL kj q<2 ^21:=fun q=>by rw[HE.out.2.2.1];exact HFF.out.1 q
    have hpo:AY N (ps.drop (j+1)):=⟨fun q hq=>HP.out.1 q (List.mem_of_mem_drop hq),fun q hq=>HP.out.2 q (List.mem_of_mem_drop hq)⟩;have hpv:C0 W1.drew n₀ (.slice AD (L - (j+1)) (cap - (j+1))) (ps.drop (j+1)):=
     ⟨AD,cap - (j+1),by rw[List.length_drop,<-HL.out],by rw[List.length_drop,<-HL.out];omega,fun h0=>⟨g,off+(j+1)*2,by rw[List.length_drop,<-HL.out]at h0;rw[<-hAD,if_neg (by omega)],hg,fun i p hp=>by
      rw[List.getElem?_drop]at hp;obtain⟨q0,q1⟩:=HCL.out (j+1+i) p hp;rw[show off+(j+1)*2+i*2=off+(j+1+i)*2 from by omega];exact⟨(hKW1.cell y6Z hgk).trans q0,(hKW1.cell y6Z hgk).trans q1⟩⟩⟩
    have CA:=YI W1.drew n₀ fb kb N tws pg adT capT gN capN kj (H.out.keeps hKW1 hKV1) hfh2 (.slice AD (L - (j+1)) (cap - (j+1))) (ps.drop (j+1)) hpv hpo (by rw[List.length_drop,<-HL.out];omega) a.follow hfa;have hcl:=QY H.out.gr.leT hfh2 hpo hfa;have hsl:=mF H.out.gr.leT hfh2 HE.out.2.2.2 hpo m n;have hfst:BV m ps k=BV m (ps.drop (j+1)) (kj.modify n (orF (DU kj (ps.drop (j+1)) a.follow))):=by rw[HE.out.1,HD.out];simp only[BV];rw[VM HAB.out.1]
    rw[VM HAB.out.1]at hsl;obtain⟨c,hc⟩:=qE (DU kj (ps.drop (j+1)) a.follow);rw[hc]at CA hcl hsl hfst;have or1:=RH hfb hcl;have HE2:Hid (BV m ps k=BV m (ps.drop (j+1)) (kj.modify n (orF c))/\(∀q,B3 (kj.modify n (orF c)) q=B3 k q)/\(∀q,AL (kj.modify n (orF c)) q=AL k q)/\(∀q,B2 (kj.modify n (orF c)) q<2 ^21)):=
     hid ⟨hfst,fun q=>(LG (f:=orF c) (fun _=>rfl) q).trans (HE.out.2.1 q),fun q=>(KH (f:=orF c) (fun _=>rfl) q).trans (HE.out.2.2.1 q),hsl.2⟩
    have HCA:=hid CA;have hBx1:Bx<W1.heap.size:=World.block_lt_of_cell? W1 _ dx;have hfw1:fb<W1.heap.size:=World.block_lt_of_cell? W1 _ ex;have hkw1:kb<W1.heap.size:=World.block_lt_of_cell? W1 _ cx;have hnw1:wr.heap.size<W1.heap.size:=by omega
    clear CA hcl hsl hfst hc hpv hpo hfh2 hfa hfb hKV1 hKW1;refine AE (fun w'=>w'.cell? (af Bx 0)=some (ac fb)/\w'.cell? (af fb 2)=some (ae kb nN nN)/\w'.cell? (af wr.heap.size 1)=some (ab n)/\w'.cell? (af kb (n*4+3))=some (.int .u32 b.follow)/\w'.cell? (af kb (m*4+3))=some (.int .u32 a.follow)/\w'.frozen? (af kb (n*4+3))=false/\Below W1.heap.size W1 w') y1Z y1Z ⟨dx,ex,nx,cx,ax,zx,bdr (Below.refl _ _)⟩ (fun hH=>?_);simp only[AC,BM,AO];refine tB 0 hH ?_;refine tB 1 hH ?_;refine tB 2 hH ?_;refine tB 3 hH ?_;refine tB 4 hH ?_;refine tB 5 hH ?_;refine tB 6 hH ?_;refine tB 7 hH ?_;refine tB 8 hH ?_;refine tB 9 hH ?_;refine tB 10 hH ?_;refine tB 11 hH ?_;refine tB 12 hH ?_;refine tB 13 hH ?_;refine tB 14 hH ?_;refine tB 15 hH ?_;refine tB 16 hH ?_;refine tB 17 hH ?_;refine tL ?_;refine tS 18 fun K hK=>?_
    refine tM ?_;rw[if_pos (by rfl)];go_simp;refine HCA.out.mono ?_;rintro e w2 ⟨rfl,hb2⟩;refine hK.out _ _ ?_ fun hH=>?_
    ·exact⟨(hb2.cell (by exact hBx1)).trans hH.1,(hb2.cell (by exact hfw1)).trans hH.2.1,(hb2.cell (by exact hnw1)).trans hH.2.2.1,(hb2.cell (by exact hkw1)).trans hH.2.2.2.1,(hb2.cell (by exact hkw1)).trans hH.2.2.2.2.1,(World.frozen?_of_block (w:=W1.drew) (a:=(af kb (n*4+3))) (hb2.block kb hkw1)).trans hH.2.2.2.2.2.1,hH.2.2.2.2.2.2.trans hb2⟩
    clear hK K;refine tB 19 hH ?_;refine tB 20 hH ?_;refine tB 21 hH ?_;refine tB 22 hH ?_;refine tL ?_;refine wpAnyH_done y1Z ?_ _;have HB2:=hid hH.2.2.2.2.2.2;have zz:=hH.2.2.2.2.2.1;have zc:=hH.2.2.2.1;clear hH hb2 zx cx ax nx ex dx;show wpList _ _ _ _ _ _;go_wp2
    go_roundw
    case rel=>
     obtain⟨h3,h4⟩:=KnV.follow (HV.out.keeps (HW.out.trans (A1.of_below HB2.out [])) (by simp)) hn HAB.out.2 c;exact⟨j+1,_,by omega,by go_num,HE2,h3,hid (HK.out.trans (((HW.out.trans (A1.of_below HB2.out [])).mono (fun k h=>by cases h)).trans h4))⟩
    case measure=>simp[intOf];omega
  ·have HE2:Hid (BV m ps k=kj):=hid (by
    rw[HE.out.1,List.drop_eq_nil_of_le y45Z];rfl)
   go_wp2
   go_end0
   exact⟨rfl,by rw[HE2.out];exact HV.out,HK.out⟩
theorem QB (w:World) (n₀ fb kb:Nat) (N:NG) (tws:List ByteArray) (pg:List Nm) (adT:Option Addr) (capT gN capN:Nat) (k0:List Fa) (h:FcM w n₀ fb kb N tws pg adT capT gN capN k0) (h0:∀n,AL k0 n=0):
  Calls Tryz.prog 39 #[ac fb] w fun e w'=>e=.returned (.tuple #[])/\A1 w w' [kb]/\∃k,I4 N k0 k/\(∀r∈N.rules,EE k r=k)/\KnV w' kb N.nN k:=by
 have hkb:=h.kn.lt;obtain⟨W1,hW1⟩:=qE (w.alloc (.cells #[ac fb] 149));have hK1:A1 w W1 [kb]:=by rw[<-hW1];exact(A1.refl w [kb]).alloc _
 have h3:KnV W1 kb N.nN k0:=by rw[<-hW1];exact h.kn.keeps ((A1.refl w []).alloc _) (by simp)
 have hb:W1.cell? (af w.heap.size 0)=some (ac fb):=by rw[<-hW1];exact GJ w _ _
 have hbs:w.heap.size<W1.heap.size:=World.block_lt_of_cell? W1 _ hb;have hX:=h.keeps hK1 h3;have CS:=MM N tws pg adT capT gN capN kb fb n₀ W1 hX.gr hX.n0 hX.lf hX.ne hX.ln hX.f0 hX.f1 hX.f2 69 #[ac w.heap.size] (enters_of Tryz.func69 y1Z rfl)
  EE (FU ZG) (I4 N k0) (fun k hk r hr=>ZY hX.gr.ok hX.gr.leT hk hr)
  (fun W k r v hW hk hI hr hv=>iH W n₀ fb kb N tws pg adT capT gN capN k (hX.keeps hW hk) hI.lt w.heap.size ((hW.cell (by exact hbs) y21Z).trans hb) v r hr hv)
  hX.gr.ok.pos k0 hX.kn (dH h.kn.1 h0)
 have HCS:=hid CS;have HK1:=hid hK1;clear CS hX hK1 h3 h h0
 go_enter Tryz.func39,Tryz.ntmps39
 go_wp2_with (go_at_call 61;refine HCS.out.mono ?_;rintro e w2 ⟨rfl,hk2,hr2⟩;have HR:=hid (And.intro hk2 hr2);clear hk2 hr2)
 go_end0
 exact⟨rfl,HK1.out.trans HR.out.1,HR.out.2⟩
theorem ZO (W1:World) (n₀ fb kb:Nat) (N:NG) (tws:List ByteArray) (pg:List Nm) (adT:Option Addr) (capT gN capN:Nat) (k0 k1:List Fa) (hX:FcM W1 n₀ fb kb N tws pg adT capT gN capN k1) (hI1:F9 N k0 k1) (Bx:Nat) (hBk:Bx≠kb) (hb:W1.cell? (af Bx 0)=some (ac fb)):
  Calls Tryz.prog 61 #[ac fb,.func (.func 72) #[] #[ac Bx]] W1 fun e w'=>e=.returned (.tuple #[])/\A1 W1 w' [kb]/\∃k,F9 N k0 k/\(∀r∈N.rules,EK k r=k)/\KnV w' kb N.nN k:=
 MM N tws pg adT capT gN capN kb fb n₀ W1 hX.gr hX.n0 hX.lf hX.ne hX.ln hX.f0 hX.f1 hX.f2 72 #[ac Bx] (enters_of Tryz.func72 y1Z rfl)
  EK (FU NI) (F9 N k0) (fun k hk r hr=>ZB hX.gr.ok hX.gr.leT hk hr)
  (fun W k r v hW hk hI hr hv=>dG W n₀ fb kb N tws pg adT capT gN capN k (hX.keeps hW hk) hI.hlt hI.lt Bx ((hW.cell (by exact World.block_lt_of_cell? W1 _ hb) (by simpa using hBk)).trans hb) hBk v r hr hv)
  hX.gr.ok.pos k1 hX.kn hI1
theorem MO (w:World) (adT:Option Addr) (nT capT gN nN capN:Nat):Calls Tryz.prog 31 #[.agg #[.slice adT nT capT,ae gN nN capN]] w fun e w'=>e=.returned (ab nT)/\Below w.heap.size w w':=by
 go_enter Tryz.func31,Tryz.ntmps31
 go_wp2;go_ret;exact⟨rfl,(Below.refl _ _).alloc (lR_ _) _⟩
theorem OH (w:World) (n₀ fb kb:Nat) (N:NG) (tws:List ByteArray) (pg:List Nm) (adT:Option Addr) (capT gN capN:Nat) (k0:List Fa) (h:FcM w n₀ fb kb N tws pg adT capT gN capN k0) (hh:∀n,AL k0 n<2 ^21) (h0:∀n,B2 k0 n=0):
  Calls Tryz.prog 40 #[ac fb] w fun e w'=>e=.returned (.tuple #[])/\A1 w w' [kb]/\∃k,F9 N k0 k/\(∀r∈N.rules,EK k r=k)/\KnV w' kb N.nN k:=by
 have hkb:=h.kn.lt;have hT20:=h.gr.leT;have hpos:=h.gr.ok.pos;have hFI:=bX h.gr.ok h.gr.leT h.kn.1 hh h0;obtain⟨a,ha⟩:∃a,k0[0]?=some a:=⟨_,gE (by rw[h.kn.1];exact hpos)⟩;obtain⟨W1,hW1⟩:=qE (w.alloc (.cells #[ac fb] 149));have hK1:A1 w W1 [kb]:=by rw[<-hW1];exact(A1.refl w [kb]).alloc _
 have h3:KnV W1 kb N.nN k0:=by rw[<-hW1];exact h.kn.keeps ((A1.refl w []).alloc _) (by simp)
 have hb:W1.cell? (af w.heap.size 0)=some (ac fb):=by rw[<-hW1];exact GJ w _ _
 have hbs:w.heap.size<W1.heap.size:=World.block_lt_of_cell? W1 _ hb;have hX:=h.keeps hK1 h3;have f0:=hX.f0;have f1:=hX.f1;have f2:=hX.f2;have hfw:=hX.lf;have hkw:=hX.kn.lt;have c3:W1.cell? (af kb 3)=some (.int .u32 a.follow):=by have:=(hX.kn.cells ha).2.2.2;simpa using this
 have fz:W1.frozen? (af kb 3)=false:=hX.kn.free 3;have HX:=hid hX;have HK1:=hid hK1;obtain⟨nN,hn1⟩:=qF (N.nN);obtain⟨nT,hn2⟩:=qF (N.nT);rw[<-hn1]at f1 f2 hpos;rw[<-hn2]at f0 hT20 hFI;obtain⟨x,hx⟩:∃x:Nat,1<<<nT=x:=⟨_,rfl⟩;have CO:=fun W=>TF W nT hT20
 rw[hx]at hFI CO;have HFI:=hid hFI;have HCO:=hid CO;have HN1:Hid (nN=N.nN):=hid hn1;clear hX hK1 h3 h h0 hh ha hFI hn1 hn2 CO hx
 go_enter Tryz.func40,Tryz.ntmps40
 go_wp2;refine AE (fun w'=>w'.cell? (af w.heap.size 0)=some (ac fb)/\w'.cell? (af fb 0)=some (.slice adT nT capT)/\w'.cell? (af fb 1)=some (ae gN nN capN)/\w'.cell? (af fb 2)=some (ae kb nN nN)/\w'.cell? (af kb 3)=some (.int .u32 a.follow)/\w'.frozen? (af kb 3)=false/\Below W1.heap.size W1 w') y1Z y1Z ⟨hb,f0,f1,f2,c3,fz,bdr (Below.refl _ _)⟩ (fun hH=>?_);simp only[AC,BM,AO];refine tB 0 hH ?_;refine tB 1 hH ?_;refine tB 2 hH ?_;refine tB 3 hH ?_;refine tB 4 hH ?_;refine tB 5 hH ?_;refine tB 6 hH ?_;refine tB 7 hH ?_;refine tL ?_;refine tS 8 fun K hK=>?_
 refine tM ?_;rw[if_pos (by rfl)];go_simp;refine(MO _ _ _ _ _ _ _).mono ?_;rintro e w2 ⟨rfl,hb2⟩;refine hK.out _ _ ?_ fun hH=>?_
 ·exact⟨(hb2.cell (by exact hbs)).trans hH.1,(hb2.cell (by exact hfw)).trans hH.2.1,(hb2.cell (by exact hfw)).trans hH.2.2.1,(hb2.cell (by exact hfw)).trans hH.2.2.2.1,(hb2.cell (by exact hkw)).trans hH.2.2.2.2.1,(World.frozen?_of_block (w:=W1.drew) (a:=(af kb 3)) (hb2.block kb hkw)).trans hH.2.2.2.2.2.1,hH.2.2.2.2.2.2.trans hb2⟩
 clear hK K;refine tL ?_;refine tS 9 fun K hK=>?_
 refine tM ?_;rw[if_pos (by rfl)];go_simp;refine(HCO.out _).mono ?_;rintro e w3 ⟨rfl,rfl⟩;refine hK.out _ _ ?_ fun hH=>?_
 ·exact hH
 clear hK K;refine tB 10 hH ?_;refine tB 11 hH ?_;refine tB 12 hH ?_;refine tL ?_;refine wpAnyH_done y1Z ?_ _;have HB2:=hid hH.2.2.2.2.2.2;have zz:=hH.2.2.2.2.2.1;have zc:=hH.2.2.2.2.1;have zb:=hH.1;clear hH hb2 f0 f1 f2 c3 fz hb;obtain⟨h4,h5⟩:=(HX.out.kn.keeps (A1.of_below HB2.out []) (by simp)).put HX.out.gr.ok.pos (fun a=>{a with follow:=x}) 3 (by omega) (.int .u32 x) (fun a _=>rfl);rw[Nat.zero_mul,Nat.zero_add]at h4 h5;have HKX:=hid ((A1.of_below HB2.out [kb]).trans h5);have HV4:=hid h4;have hz:w.heap.size≠kb:=by omega
 have hzb:(w2.setCell (af kb 3) (.int .u32 x)).cell? (af w.heap.size 0)=some (ac fb):=(h5.cell (by exact World.block_lt_of_cell? w2 _ zb) (by simpa using hz)).trans zb;have CS:=ZO (w2.setCell (af kb 3) (.int .u32 x)) n₀ fb kb N tws pg adT capT gN capN k0 _ (HX.out.keeps HKX.out HV4.out) HFI.out w.heap.size hz hzb;have HCS:=hid CS;clear h4 h5 hzb CS;show wpList _ _ _ _ _ _
 go_wp2_with (go_at_call 61;refine HCS.out.mono ?_;rintro e w3 ⟨rfl,hk2,hr2⟩;have HR:=hid (And.intro hk2 hr2);clear hk2 hr2)
 go_end0
 exact⟨rfl,HK1.out.trans (HKX.out.trans HR.out.1),HR.out.2⟩
section
attribute [local go_sem] Oper.semAt_some
def B1 (x:Nat):List Nat:=(List.range 21).filter fun i=>x.testBit i
theorem NY {α:Type}{p:α->Bool}{l:List α} (h:∀a∈l,p a=false):l.filter p=[]:=by
 rw[List.filter_eq_nil_iff];intro a ha;rw[h a ha];simp
theorem j4 {y k:Nat} (hk:k<21) (hb:x.testBit k=true) (hl:∀i,i<k->x.testBit i=false) (hy:∀i,y.testBit i=(x.testBit i&&decide (i≠k))):B1 x=k::B1 y:=by
 obtain⟨d,e⟩:∃d,21=k+1+d:=⟨20 - k,by omega⟩;unfold B1;rw[e,List.range_add,List.range_succ];simp only[List.filter_append];have h1:(List.range k).filter (fun i=>x.testBit i)=[]:=NY fun i hi=>hl i (List.mem_range.1 hi)
 have h2:(List.range k).filter (fun i=>y.testBit i)=[]:=NY fun i hi=>by rw[hy,hl i (List.mem_range.1 hi)];rfl
 have h3:((List.range d).map (k+1+ ·)).filter (fun i=>y.testBit i)=((List.range d).map (k+1+ ·)).filter (fun i=>x.testBit i):=by
  apply List.filter_congr;intro i hi;obtain⟨j,_,rfl⟩:=List.mem_map.1 hi;rw[hy];simp;omega
 rw[h1,h2,h3];have h4:y.testBit k=false:=by rw[hy];simp
 simp[hb,h4]
theorem dA:B1 0=[]:=NY fun i _=>Nat.zero_testBit i
theorem rS (k m:Nat):(∀i,i<k->(2 ^k*(2*m+1)).testBit i=false)/\(2 ^k*(2*m+1)).testBit k=true/\∀i,((2 ^k*(2*m+1))&&& (2 ^k*(2*m+1) - 1)).testBit i=((2 ^k*(2*m+1)).testBit i&&decide (i≠k)):=by
 have h1:∀i,i<k->(2 ^k*(2*m+1)).testBit i=false:=fun i hi=>by
  rw[Nat.mul_comm,Nat.testBit_mul_two_pow];simp;omega
 have hp:0<2 ^k:=Nat.pow_pos (by decide);have hd1:(2 ^k*(2*m+1)) / 2 ^k=2*m+1:=Nat.mul_div_cancel_left _ hp;have hd2:(2 ^k*(2*m+1) - 1) / 2 ^k=2*m:=by
  rw[Nat.div_eq_iff hp];rw[Nat.mul_add,Nat.mul_one,Nat.mul_comm (2 ^k)];omega
 refine⟨h1,?_,fun i=>?_⟩
 ·have h:((2 ^k*(2*m+1)) / 2 ^k).testBit 0=(2 ^k*(2*m+1)).testBit (0+k):=Nat.testBit_div_two_pow _ _
  rw[hd1,Nat.zero_add]at h;rw[<-h];simp
 ·rw[Nat.testBit_and]
  by_cases hi:i<k
  ·rw[h1 i hi];simp
  ·obtain⟨j,rfl⟩:∃j,i=j+k:=⟨i - k,by omega⟩
   have e1:((2 ^k*(2*m+1)) / 2 ^k).testBit j=(2 ^k*(2*m+1)).testBit (j+k):=Nat.testBit_div_two_pow _ _;have e2:((2 ^k*(2*m+1) - 1) / 2 ^k).testBit j=(2 ^k*(2*m+1) - 1).testBit (j+k):=Nat.testBit_div_two_pow _ _;rw[hd1]at e1;rw[hd2]at e2;cases j with
   |zero=>
    simp only[Nat.zero_add]at e1 e2 ⊢;rw[<-e2];simp
   |succ j=>
    rw[<-e1,<-e2,Nat.testBit_succ,Nat.testBit_succ,show(2*m+1) / 2=m from by omega,show 2*m / 2=m from by omega];simp
theorem dQ  (h0:x≠0) (hx:x<2 ^21):B1 x=Lib.ctz 32 x::B1 (x&&& (x - 1))/\Lib.ctz 32 x<21:=by
 have he:Lib.ctz 32 x=Lib.ctzFrom 32 x:=by unfold Lib.ctz;rw[if_neg h0]
 rw[he];obtain⟨m,hm,_⟩:=Lib.ctzFrom_spec 32 x (by omega) (by omega);obtain⟨k,hk⟩:=qE (Lib.ctzFrom 32 x);rw[hk]at hm ⊢;have hk21:k<21:=by
  apply Nat.lt_of_not_le;intro hle;have h1:2 ^21<=2 ^k:=Nat.pow_le_pow_right (by decide) hle;have h2:2 ^k<=2 ^k*(2*m+1):=Nat.le_mul_of_pos_right _ (by omega);omega
 subst hm;obtain⟨l1,l2,l3⟩:=rS k m;exact⟨j4 hk21 l2 l1 l3,hk21⟩
theorem vA  (h:x<2 ^21):x&&& (x - 1)<2 ^21:=Nat.lt_of_le_of_lt Nat.and_le_left h
theorem sQ (x k idx:Nat) (w:World) (hx0:((x:Int)==0)=false)
  (key:bits BinOp.and IntKind.u32 (x:Int) (-(x:Int) % 4294967296)*125613361 % 4294967296 / 134217728=(idx:Int))
  (hi:idx<32) (hk:k<32) (hcell:w.cell? (af 0 idx)=some (.int .u8 k)):
  Calls Tryz.prog 75 #[.int .u32 x] w fun e w'=>e=.returned (ab k)/\w=w':=by
 go_enter Tryz.func75,Tryz.ntmps75
 go_wp2_with (simp only[key])
 go_ret;exact⟨rfl,rfl⟩
theorem vO (x:Nat) (hx0:x≠0) (hx:x<4294967296) (w:World) (hT:TabAt 0 Lib.deBruijn32tab w):
  Calls Tryz.prog 75 #[.int .u32 x] w fun e w'=>e=.returned (ab (Lib.ctz 32 x))/\w=w':=by
 obtain⟨hlow,hk⟩:=Lib.lowest_bit 32 x hx0 hx;obtain⟨hi,htab⟩:=Lib.deBruijn32_at _ hk;have hcell:=hT _ hi;rw[htab]at hcell;exact sQ x _ _ w y2Z (tz32_key x _ hx hx0 hlow) hi hk hcell
theorem TabAt.below {g:Nat}{tab:List Nat}{w':World}{B:Nat} (h:TabAt g tab w) (hb:Below B w w') (hg:g<B):TabAt g tab w':=fun j hj=>(hb.cell y12Z).trans (h j hj)
theorem YS (F:Fence) (n:Nat) (hF:F.fn 42) (hro:F.round=none) (s:Int) (w:World):
  CallsIn F n Tryz.prog 42 #[.int .u32 s] w fun e w'=>e=.returned (.func (.func 74) #[] #[ac w.heap.size])/\w'=w.alloc (.cells #[.int .u32 s] 118):=by
 refine callsIn_of_wp Tryz.func42 rfl hF ?_ hro;simp only[Tryz.ntmps42,List.size_toArray,lC,List.length_nil,Nat.reduceAdd,Nat.reduceSub,Array.replicate_succ,Array.replicate_zero,List.push_toArray,List.append_toArray,List.nil_append,List.cons_append]
 gi_wp2
 go_ret;exact⟨rfl,rfl⟩
end
section
attribute [local go_sem] Oper.semAt_some
abbrev TI (s:Nat):={t:Nat // t∈B1 s}
def jT {s:Nat} (t:TI s):Array Value:= #[ab (t.1:Int)]
theorem sP (n:Nat) (hn:1<=n) (l Bn n₀ s:Nat) (hs:s<2 ^21) (hn0:0<n₀) (J Jx:List (TI s)->World->Prop) (W:World) (hJ:AbidesFrom W.heap.size J) (hT:TabAt 0 Lib.deBruijn32tab W)
  (hY:∀pre x W,J pre W->pre.length< (B1 s).length->YieldAt Fence.wide (n - 1) Tryz.prog l (jT x) W fun e W'=>
   (e=.returned (.bool true)/\J (pre++ [x]) W'/\Below n₀ W W')\/(e=.returned (.bool false)/\Jx (pre++ [x]) W'))
  (hBn:W.cell? (af Bn 0)=some (.int .u32 s)) (h0:J [] W):
  CallsIn Fence.wide n Tryz.prog 74 #[.func (.yield l) #[] #[],ac Bn] W fun e W'=>(∃v,e=.returned v)/\
   ((∃ys:List (TI s),ys.map (·.1)=B1 s/\J ys W')\/(∃pre:List (TI s),(∃rest,B1 s=pre.map (·.1)++rest)/\Jx pre W')):=by
 have HJ:=hid hJ;have HY:=hid hY;have HT:=hid hT;have HJ0:Hid (J [] W):=hid h0;have HS:Hid (s<2 ^21):=hid hs;clear hJ hY hT h0 hs;refine callsIn_of_wp Tryz.func74 rfl trivial ?_ rfl;simp only[Tryz.ntmps74,List.size_toArray,lC,List.length_nil,Nat.reduceAdd,Nat.reduceSub,Array.replicate_succ,Array.replicate_zero,List.push_toArray,List.append_toArray,List.nil_append,List.cons_append]
 gi_wp2
 gi_loopg [3] (s) (fun g p wr=>∃(x:Nat) (pre:List (TI s)),x=g/\p=.int .u32 x/\Hid (x<2 ^21)/\Hid (B1 s=pre.map (·.1)++B1 x)/\Hid (J pre wr)/\Hid (TabAt 0 Lib.deBruijn32tab wr))
 case atStart=>exact⟨s,[],rfl,rfl,HS,rfl,HJ0,HT⟩
 case round=>
  obtain⟨x,pre,rfl,rfl,hx,hpre,hJs,hTw⟩:=hrel
  by_cases hz:x=0
  ·subst hz
   have HE:Hid (pre.map (·.1)=B1 s):=hid (by have h1:=hpre.out;rw[dA,List.append_nil]at h1;exact h1.symm)
   gi_wp2
   go_end0
   exact⟨⟨_,rfl⟩,.inl ⟨pre,HE.out,hJs.out⟩⟩
  ·obtain⟨hb1,hb2⟩:=dQ hz hx.out
   have hlen:pre.length< (B1 s).length:=by rw[hpre.out,hb1];simp
   have hmem:Lib.ctz 32 x∈B1 s:=by rw[hpre.out,hb1];simp
   have CT:=(callsIn_wide (n:=n - 1)).2 (vO x hz (by have:=hx.out;omega) wr hTw.out);have hxx:=hx.out;obtain⟨t,ht⟩:=qE (Lib.ctz 32 x);rw[ht]at hb1 hb2 CT hmem;obtain⟨fn,tmps,assign,body,hy,hR⟩:=HY.out pre ⟨t,hmem⟩ wr hJs.out hlen;have hy:(Instr.yield l #[ab (t:Int)]).run Tryz.prog wr=.ok (.round l fn tmps assign body) wr:=hy;have HPre:Hid (B1 s=(pre++ [(⟨t,hmem⟩:TI s)]).map (·.1)++B1 (x&&& (x - 1))):=hid (hpre.out.trans (by rw[hb1];simp));have hand:bits .and .u32 (x:Int) ((x:Int) - 1)=((x&&& (x - 1):Nat):Int):=by
    rw[show(x:Int) - 1=((x - 1:Nat):Int) from by omega];exact bits_and_u32_nat x (x - 1) (by omega) (by omega)
   have hxz:((x:Int)==0)=false:=by simp;omega
   have HR:=hid hR;have HX2:Hid (x&&& (x - 1)<2 ^21/\x&&& (x - 1)<x):=hid ⟨vA hxx,by have:x&&& (x - 1)<=x - 1:=Nat.and_le_right;omega⟩;clear hR hlen hb1 ht
   gi_wp2_with (refine⟨trivial,?_⟩;gi_at_call 75;refine CT.mono ?_;rintro e w2 ⟨rfl,rfl⟩;clear CT)
   refine HR.out.mono ?_;rintro e W3 (⟨rfl,hJ3,hk3⟩ | ⟨rfl,hJx3⟩)
   ·have HJ3:=hid hJ3
    have HT3:=hid (TabAt.below hTw.out hk3 hn0);clear hJ3 hk3
    gi_wp2
    gi_roundg (x&&& (x - 1))
    case measure=>exact HX2.out.2
    case rel=>exact⟨_,pre++ [⟨t,hmem⟩],rfl,by go_num,HX2.out.1,HPre,HJ3,HT3⟩
   ·gi_wp2
    refine bodyPost_ret (results_none rfl _ _ _) rfl ?_;exact⟨⟨_,rfl⟩,.inr ⟨pre++ [⟨t,hmem⟩],⟨_,HPre.out⟩,hJx3⟩⟩
theorem YG (n:Nat) (hn:1<=n) (Bn n₀ s:Nat) (hs:s<2 ^21) (hn0:0<n₀) (w:World) (hB:Bn<w.heap.size) (hT:TabAt 0 Lib.deBruijn32tab w) (hBn:w.cell? (af Bn 0)=some (.int .u32 s)):
  SeqStopsK Fence.wide n Tryz.prog 74 #[ac Bn] (jT (s:=s)) (Below n₀) (fun ys=>ys.map (·.1)=B1 s) (fun pre=>∃rest,B1 s=pre.map (·.1)++rest) (B1 s).length w:=fun l J Jx W hW hJ _ hY h0=>by
 refine(sP n hn l Bn n₀ s hs hn0 J Jx W hJ (TabAt.below hT hW (World.block_lt_of_cell? _ _ (hT 0 (by decide)))) hY ((hW.cell (p:=(af Bn 0)) hB).trans hBn) h0).mono ?_;rintro e W' ⟨h1,h2⟩;exact⟨h1,h2⟩
end
theorem iL {P:Program}{Q:Exit->Act->World->Prop}{S:World->Prop}{l:List Oper}{a:Act} (hB:MK l=true) (hS:S w.drew)
  (h:S w.drew->wpAnyH P .any (AC l).toArray (ER fun a w=>wpList P #[AO l] Q [AO l] a w) S l.length (Array.replicate l.length false) a w.drew):wpAny P .any l.toArray Q l.length (Array.replicate l.length false) a w.drew:=by
 have ho:l.getLast?=some (AO l):=by
  refine LV l ?_;intro e;subst e;cases hB
 have hpos:0<l.length:=by cases l with |nil=>simp at ho |cons _ _=>simp
 refine T3 ho hB _ _ _ _ (by simp) ?_ ?_ (wpAny_of_held _ _ _ _ (h hS))
 ·intro k o' hk hl
  rw[Array.getD_eq_getD_getElem?]at hl
  rcases Nat.lt_or_ge k l.length with h' |h'
  ·simp[h']at hl
  ·simp[h']at hl
 rw[Array.getD_eq_getD_getElem?,Array.getElem?_eq_getElem y2Z];simp
theorem C3 {lp n:Nat}{P:Program}{id:Nat}{l:List Oper}{Q:Exit->Act->World->Prop}{a:Act} (S:World->Prop) (hm:P.follows .mixedOrders=true) (hd:UD l.toArray=true) (hQ:¬LetsOut Q) (hB:MK l=true) (hS:S w.drew)
  (h:S w.drew->wpAnyH P .any (AC l).toArray (ER fun a w=>wpList P #[AO l] Q [AO l] a w) S l.length (Array.replicate l.length false) a w.drew):(Code.region id l.toArray true).wpIn (Fence.wide.inRound lp) n P Q a w:=
 wpIn_region_any hm (T0 hd hQ _ _ _ _ (by rw[List.size_toArray];exact iL hB hS h))
def CX (tws:List ByteArray) (nT t:Nat):ByteArray:=if t=nT then ByteArray.empty else nth tws t
theorem PE (w:World) (n₀:Nat) (N:NG) (tws:List ByteArray) (pg:List Nm) (adT:Option Addr) (capT gN capN:Nat) (h:PGr w n₀ N tws pg adT capT gN capN) (hn:n₀<=w.heap.size) (t:Nat) (ht:t<=N.nT):
  Calls Tryz.prog 43 #[.agg #[.slice adT N.nT capT,ae gN N.nN capN],ab t] w fun e w'=>e=.returned (.string (CX tws N.nT t))/\Below w.heap.size w w':=by
 have hT20:=h.leT;have CE:=MO (w.alloc (.cells #[.slice adT N.nT capT,ae gN N.nN capN] 69)) adT N.nT capT gN N.nN capN;have H:=hid h;clear h;obtain⟨nT,hn1⟩:=qF (N.nT);rw[<-hn1]at ht hT20 CE ⊢;obtain⟨nN,hn2⟩:=qF (N.nN);rw[<-hn2]at CE ⊢;have HCE:=hid CE;have HN:Hid (nT=N.nT):=hid hn1;clear hn1 hn2 CE
 by_cases he:t=nT
 ·have HR:Hid (CX tws nT t=ByteArray.empty):=hid (by unfold CX;rw[if_pos he])
  subst he
  go_enter Tryz.func43,Tryz.ntmps43
  go_wp2_with (go_at_call 31;refine HCE.out.mono ?_;rintro e w2 ⟨rfl,hb2⟩;have HB:=hid hb2;clear hb2)
  go_ret;exact⟨by rw[HR.out];rfl,((Below.refl _ _).alloc (lR_ _) _).trans (HB.out.mono (by simp))⟩
 ·have hlt:t<nT:=by omega
  obtain⟨gT,rfl,hg,hc,_⟩:=H.out.toks t y63Z;have hgw:gT<w.heap.size:=by omega
  have HR:Hid (CX tws nT t=nth tws t):=hid (by unfold CX;rw[if_neg he]);have hne:((t:Int)==(nT:Int))=false:=by simp;omega
  obtain⟨s,hs⟩:=qE (nth tws t);rw[hs]at hc HR;clear hs
  go_enter Tryz.func43,Tryz.ntmps43
  go_wp2_with (go_at_call 31;refine HCE.out.mono ?_;rintro e w2 ⟨rfl,hb2⟩;have HB:=hid hb2;have hx:=(hb2.cell (p:=(af w.heap.size 0)) (by simp)).trans (BG w #[ae gT nT capT,ae gN nN capN] 69 0);have hy:=(hb2.cell (p:=(af gT (t*4))) y2Z).trans (A2 (.cells #[ae gT nT capT,ae gN nN capN] 69) hc);clear hb2)
  go_ret;exact⟨by rw[HR.out];rfl,((Below.refl _ _).alloc (lR_ _) _).trans (HB.out.mono (by simp))⟩
def DB (p:Fa->Bool) (k:List Fa):Int:=match k.findIdx? p with
 |some i=>i
 |none=> -1
theorem eU {p:Fa->Bool}{k:List Fa}{j:Nat}{a:Fa} (ha:k[j]?=some a) (hp:p a=true) (hno:∀m b,m<j->k[m]?=some b->p b=false):DB p k=j:=by
 obtain⟨hj,he⟩:=gS_.1 ha;have h:k.findIdx? p=some j:=by
  rw[List.findIdx?_eq_some_iff_getElem];refine⟨hj,by rw[he];exact hp,fun m hm=>?_⟩;have:=hno m _ hm (gE (by omega));rw[this];simp
 unfold DB;rw[h]
theorem eV {p:Fa->Bool}{k:List Fa} (hno:∀(m:Nat) b,k[m]?=some b->p b=false):DB p k= -1:=by
 have h:k.findIdx? p=none:=by
  rw[List.findIdx?_eq_none_iff];intro a ha;obtain⟨i,hi,rfl⟩:=List.mem_iff_getElem.1 ha;exact hno i _ (gE hi)
 unfold DB;rw[h]
def faV (a:Fa):Value:=.agg #[ab a.least,.bool a.reached,.int .u32 a.first,.int .u32 a.follow]
theorem PW (w:World) (kb n:Nat) (k:List Fa) (hK:KnV w kb n k) (hn:n<=20) (cf:Nat) (p:Fa->Bool) (he:∀args W,(callFunc cf args).run Tryz.prog W=.ok (.enter cf args) W)
  (hcf:∀W a,Calls Tryz.prog cf #[faV a] W fun e w'=>e=.returned (.bool (p a))/\Below W.heap.size W w'):
  Calls Tryz.prog 68 #[ae kb n n,.func (.func cf) #[] #[]] w fun e w'=>e=.returned (ab (DB p k))/\Below w.heap.size w w':=by
 have HK:=hid hK;have HC:=hid hcf;clear hK hcf
 go_enter Tryz.func68,Tryz.ntmps68
 go_wp2
 go_loopw [8] (fun i wr=>∃j:Nat,j<=n/\i=ab j/\Hid (∀m b,m<j->k[m]?=some b->p b=false)/\Hid (Below w.heap.size w wr)) (fun i _=>n - (intOf i).toNat)
 case atStart=>exact⟨0,Nat.zero_le _,rfl,fun m b h=>by omega,Below.refl _ _⟩
 case round=>
  obtain⟨j,hj,rfl,hno,hB⟩:=hrel
  by_cases hlt:j<n
  ·have HKr:Hid (KnV wr kb n k):=hid (HK.out.keeps (A1.of_below hB.out []) (by simp))
   obtain⟨a,ha⟩:∃a,k[j]?=some a:=⟨_,gE (by rw[HK.out.1];exact hlt)⟩;obtain⟨c0,c1,c2,c3⟩:=HKr.out.cells ha;have CC:=HC.out wr a;unfold faV at CC;have HA:Hid (k[j]?=some a):=hid ha;clear ha;cases hp:p a
   ·rw[hp]at CC
    have HE:Hid (∀m b,m<j+1->k[m]?=some b->p b=false):=hid fun m b hm hb=>by
     rcases Nat.lt_or_ge m j with h |h
     ·exact hno.out m b h hb
     ·obtain rfl:m=j:=by omega
      rw[HA.out]at hb;injection hb with hb;rw[<-hb];exact hp
    go_wp2_with (refine CC.mono ?_;rintro e w2 ⟨rfl,hb2⟩;have HB2:=hid (hB.out.trans (hb2.mono hB.out.size));clear hb2 CC)
    go_roundw
    case rel=>exact⟨j+1,by omega,by go_num,HE,HB2⟩
    case measure=>simp[intOf];omega
   ·rw[hp]at CC
    have HE:Hid (DB p k=j):=hid (eU HA.out hp hno.out)
    go_wp2_with (refine CC.mono ?_;rintro e w2 ⟨rfl,hb2⟩;have HB2:=hid (hB.out.trans (hb2.mono hB.out.size));clear hb2 CC)
    go_ret;exact⟨by rw[HE.out];rfl,HB2.out⟩
  ·have HE:Hid (DB p k= -1):=hid (eV fun m b hb=>hno.out m b (by have h1:=(gS_.1 hb).1;have h2:=HK.out.1;omega) hb)
   go_wp2;go_ret;exact⟨by rw[HE.out];rfl,hB.out⟩
theorem iA (W:World) (a:Fa):Calls Tryz.prog 65 #[faV a] W fun e w'=>e=.returned (.bool ((a.least:Int)==202))/\Below W.heap.size W w':=by
 unfold faV
 go_enter Tryz.func65,Tryz.ntmps65
 go_wp2;go_ret;exact⟨rfl,(Below.refl _ _).alloc (lR_ _) _⟩
theorem jN (W:World) (a:Fa):Calls Tryz.prog 66 #[faV a] W fun e w'=>e=.returned (.bool (!a.reached))/\Below W.heap.size W w':=by
 unfold faV
 go_enter Tryz.func66,Tryz.ntmps66
 go_wp2;go_ret;exact⟨rfl,(Below.refl _ _).alloc (lR_ _) _⟩
theorem jH (W:World) (a:Fa):Calls Tryz.prog 67 #[faV a] W fun e w'=>e=.returned (.bool ((a.least:Int)==201))/\Below W.heap.size W w':=by
 unfold faV
 go_enter Tryz.func67,Tryz.ntmps67
 go_wp2;go_ret;exact⟨rfl,(Below.refl _ _).alloc (lR_ _) _⟩
end Go.Proofs.YtjjggdcnpndgjabGreatDoor
