import Derived.Test.YtjjggdcnpndgjaaGreatDoorCJ12
import Derived.Laws.BitsAllLaws
set_option linter.unusedSimpArgs false
set_option maxHeartbeats 2000000
set_option maxRecDepth 100000
namespace Go.Proofs.YtjjggdcnpndgjaaGreatDoor
abbrev dy:=@Go.wp_region_held_drew
abbrev zo:=@Nat.lt_of_le_of_lt
abbrev zq:=@List.getElem?_drop
open Go.RowKit Go.Shelf
variable {N:NG}{k k0:List Fa}{w:World}
def E7 (k:List Fa) (ps:List Pt) (fo:Nat):Nat:=if(BF k ps 0).2=true then(BF k ps 0).1|||fo else(BF k ps 0).1
theorem K2 (k:List Fa) (ps:List Pt) (fo t:Nat):(E7 k ps fo).testBit t=(E5 (Bh k) (λn=>(AQ k n).testBit t) t ps||(FN (Bh k) ps&&fo.testBit t)):=by
 obtain⟨h1,h2⟩:=JO k ps 0;unfold E7;rw[h1];cases hb:FN (Bh k) ps
 ·simp[h2]
 ·simp[h2]
theorem RA  (hT:N.nT<=20)  (hk:∀n,AQ k n<2 ^21) {ps:List Pt} (hp:BE N ps) {fo:Nat} (hf:fo<2 ^21):E7 k ps fo<2 ^21:=by
 have h1:=LF hT hk ps 0 hp (by decide);unfold E7;split
 ·exact uh h1 hf
 ·exact h1
def Fp (x:Nat) (a:Fa):Fa:={a with follow:=a.follow|||x}
theorem VM (k:List Fa) (n m x:Nat):BC (k.modify n (Fp x)) m=if n=m/\m<k.length then BC k m|||x else BC k m:=xQ k n m x
def CJ (m:Nat):List Pt->List Fa->List Fa
 | [],k=>k
 | .tok _::ps,k=>CJ m ps k
 | .zi n::ps,k=>CJ m ps (k.modify n (Fp (E7 k ps (BC k m))))
def EZ (k:List Fa) (r:Nat × List Pt):List Fa:=CJ r.1 r.2 k
theorem d6 (m:Nat):∀(ps:List Pt) (k:List Fa),(CJ m ps k).length=k.length/\(∀n,BB (CJ m ps k) n=BB k n)/\(∀n,F6 (CJ m ps k) n=F6 k n)/\(∀n,AQ (CJ m ps k) n=AQ k n):=by
 intro ps
 induction ps with
 |nil=>intro k;exact⟨rfl,λ_=>rfl,λ_=>rfl,λ_=>rfl⟩
 |cons p ps ih=>
  intro k;cases p with
  |tok t=>exact ih k
  |zi n=>
   unfold CJ;obtain⟨h1,h2,h3,h4⟩:=ih (k.modify n (Fp (E7 k ps (BC k m))));exact⟨by rw[h1,tq],λq=>by rw[h2,LQ (f:=Fp _) (λ_=>rfl)],λq=>by rw[h3,XU (f:=Fp _) (λ_=>rfl)],λq=>by rw[h4,KX (f:=Fp _) (λ_=>rfl)]⟩
theorem mO  (hT:N.nT<=20)  (hh:∀n,AQ k n<2 ^21) (ho:∀n,BC k n<2 ^21) {ps:List Pt} (hp:BE N ps) (m n:Nat):
  (k.modify n (Fp (E7 k ps (BC k m)))=k\/GD O1 (k.modify n (Fp (E7 k ps (BC k m))))<GD O1 k)/\∀q,BC (k.modify n (Fp (E7 k ps (BC k m)))) q<2 ^21:=by
 have hb:=RA hT hh hp (ho m);refine⟨NW λa ha=>?_,λq=>?_⟩
 ·have ha2:a.follow<2 ^21:=by
   have:=ho n;unfold BC at this;rw[ha]at this;exact this
  have hle:a.follow<=a.follow|||E7 k ps (BC k m):=Nat.left_le_or;have hlt:=uh ha2 hb
  by_cases he:a.follow|||E7 k ps (BC k m)=a.follow
  ·left;unfold Fp;rw[he]
  ·right;unfold O1 Fp;simp only;omega
 ·rw[VM]
  split
  ·exact uh (ho q) hb
  ·exact ho q
theorem TB  (hT:N.nT<=20) (m:Nat):∀(ps:List Pt) (k:List Fa),BE N ps->(∀n,AQ k n<2 ^21)->(∀n,BC k n<2 ^21)->
  ((CJ m ps k=k/\∀pre n post,ps=pre++Pt.zi n::post->n<k.length->BC k n|||E7 k post (BC k m)=BC k n)\/GD O1 (CJ m ps k)<GD O1 k)/\∀n,BC (CJ m ps k) n<2 ^21:=by
 intro ps
 induction ps with
 |nil=>intro k _ _ ho;exact⟨.inl ⟨rfl,λpre n post h=>by simp at h⟩,ho⟩
 |cons p ps ih=>
  intro k hp hh ho;cases p with
  |tok t=>
   obtain⟨h1,h2⟩:=ih k hp.tail hh ho;refine⟨h1.imp (λh=>⟨h.1,λpre n post e hl=>?_⟩) id,h2⟩;cases pre with
   |nil=>simp at e
   |cons q pre=>exact h.2 pre n post (by simpa using (zw e).2) hl
  |zi n=>
   unfold CJ;obtain⟨h3,h4⟩:=mO hT hh ho hp.tail m n;have hh':∀q,AQ (k.modify n (Fp (E7 k ps (BC k m)))) q<2 ^21:=λq=>by rw[KX (f:=Fp _) (λ_=>rfl)];exact hh q
   obtain⟨h1,h2⟩:=ih _ hp.tail hh' h4;refine⟨?_,h2⟩
   rcases h3 with h3 |h3
   ·rw[h3]at h1 ⊢
    refine h1.imp (λh=>⟨h.1,λpre n' post e hl=>?_⟩) id;cases pre with
    |nil=>
     have e1:=zw e;obtain⟨e1,e2⟩:=e1;injection e1 with e1
     subst e1;subst e2;have h5:=congrArg (λq=>BC q n) h3;rw[VM,ay ⟨rfl,hl⟩]at h5;exact h5
    |cons q pre=>exact h.2 pre n' post (by simpa using (zw e).2) hl
   ·rcases h1 with⟨h1,_⟩ |h1
    ·right;rw[h1];exact h3
    ·right;omega
theorem jW (m:Nat) (t:Nat):∀(ps:List Pt) (k:List Fa) (n:Nat),(BC k n).testBit t=true->(BC (CJ m ps k) n).testBit t=true:=by
 intro ps
 induction ps with
 |nil=>intro k n h;exact h
 |cons p ps ih=>
  intro k n h;cases p with
  |tok u=>exact ih k n h
  |zi q=>
   unfold CJ;refine ih _ n ?_;rw[VM];split
   ·rw[vg,h];rfl
   ·exact h
theorem ZV {m t:Nat}{E H T:Nat->Bool}:∀(ps:List Pt) (k:List Fa),Bh k=E->(λn=>(AQ k n).testBit t)=H->(∀n,(BC k n).testBit t=true->T n=true)->
  (∀pre n post,ps=pre++Pt.zi n::post->(E5 E H t post||(FN E post&&T m))=true->T n=true)->∀n,(BC (CJ m ps k) n).testBit t=true->T n=true:=by
 intro ps
 induction ps with
 |nil=>intro k _ _ h _ n hn;exact h n hn
 |cons p ps ih=>
  intro k hE hH h hp;have hp':∀pre n post,ps=pre++Pt.zi n::post->(E5 E H t post||(FN E post&&T m))=true->T n=true:=λpre n post e=>hp (p::pre) n post aaP
  cases p with
  |tok u=>exact ih k hE hH h hp'
  |zi n=>
   unfold CJ;refine ih _ ?_ ?_ (λq hq=>?_) hp'
   ·rw[<-hE];funext q;unfold Bh;rw[LQ (f:=Fp _) (λ_=>rfl)]
   ·rw[<-hH];funext q;rw[KX (f:=Fp _) (λ_=>rfl)]
   ·rw[VM]at hq
    split at hq
    ·rename_i h1
     rw[vg,oq]at hq
     rcases hq with hq |hq
     ·exact h q hq
     ·rw[K2,hE,hH]at hq
      rw[<-h1.1];refine hp [] n ps rfl ?_;simp only[oq,gz]at hq ⊢;exact hq.imp id (λhq=>⟨hq.1,h m hq.2⟩)
    ·exact h q hq
structure FM (N:NG) (k0 k:List Fa):Prop where
 len:k.length=N.nN
 fl:∀n,BB k n=BB k0 n
 fr:∀n,F6 k n=F6 k0 n
 fh:∀n,AQ k n=AQ k0 n
 hlt:∀n,AQ k n<2 ^21
 lt:∀n,BC k n<2 ^21
 z:(BC k 0).testBit N.nT=true
 sound:∀t T,XL N (Bh k0) (λn=>(AQ k0 n).testBit t) t T->∀n,(BC k n).testBit t=true->T n=true
theorem ND  (h:∀n,BB k n=BB k0 n):Bh k=Bh k0:=by funext n;unfold Bh;rw[h]
theorem ZT  (hN:N.Ok) (hT:N.nT<=20)  (h:FM N k0 k) {r:Nat × List Pt} (hr:r∈N.rules):(EZ k r=k\/GD O1 (EZ k r)<GD O1 k)/\FM N k0 (EZ k r):=by
 obtain⟨h1,h2⟩:=TB hT r.1 r.2 k (hN.ps hr) h.hlt h.lt;obtain⟨h3,h4,h5,h6⟩:=d6 r.1 r.2 k;exact⟨h1.imp (λh=>h.1) id,by unfold EZ;rw[h3];exact h.len,λn=>(h4 n).trans (h.fl n),λn=>(h5 n).trans (h.fr n),λn=>(h6 n).trans (h.fh n),λn=>(by show AQ (CJ r.1 r.2 k) n<_;rw[h6];exact h.hlt n),h2,jW _ _ _ _ _ h.z,
  λt T hC=>ZV r.2 k (ND h.fl) (by funext n;rw[h.fh]) (h.sound t T hC) (λpre n post e he=>hC.2 r hr pre n post e he)⟩
theorem fE  (hN:N.Ok) (hT:N.nT<=20)  (h:FM N k0 k) (hst:∀r∈N.rules,EZ k r=k) (t:Nat):Ng (XL N (Bh k0) (λn=>(AQ k0 n).testBit t) t) (λn=>(BC k n).testBit t):=by
 refine⟨⟨λe=>by rw[e];exact h.z,λr hr pre n post e he=>?_⟩,h.sound t⟩;obtain⟨h1,_⟩:=TB hT r.1 r.2 k (hN.ps hr) h.hlt h.lt
 rcases h1 with⟨_,h2⟩ |h2
 ·have hn:n<k.length:=by rw[h.len];exact hN.pn r hr n Mv
  have h3:=congrArg (λx=>x.testBit t) (h2 pre n post e hn);rw[vg,K2,ND h.fl,show(λn=>(AQ k n).testBit t)=(λn=>(AQ k0 n).testBit t) from by funext q;rw[h.fh],he]at h3;simpa using h3.symm
 ·have:=hst r hr
  unfold EZ at this;rw[this]at h2;omega
theorem bA  (hN:N.Ok) (hT:N.nT<=20)  (hl:k0.length=N.nN) (hh:∀n,AQ k0 n<2 ^21) (h0:∀n,BC k0 n=0):FM N k0 (k0.modify 0 λa=>{a with follow:=1<<<N.nT}):=by
 have hp:(1:Nat)<<<N.nT<2 ^21:=by rw[qx];exact yY (by omega) (by omega)
 have ho:∀n,BC (k0.modify 0 λa=>{a with follow:=1<<<N.nT}) n=if 0=n/\n<k0.length then 1<<<N.nT else 0:=λn=>by
  rw[R8];split
  ·rename_i h1
   rw[gE h1.2];rfl
  ·exact h0 n
 refine⟨by rw[tq];exact hl,LQ (λ_=>rfl),XU (λ_=>rfl),KX (λ_=>rfl),λn=>by rw[KX (f:=λa=>{a with follow:=1<<<N.nT}) (λ_=>rfl)];exact hh n,λn=>?_,?_,λt T hC n hn=>?_⟩
 ·rw[ho]
  split
  ·exact hp
  ·decide
 ·rw[ho,ay ⟨rfl,by rw[hl];exact hN.pos⟩,qx,xq];simp
 ·rw[ho]at hn
  split at hn
  ·rename_i h1
   rw[qx,xq]at hn;rw[<-h1.1];exact hC.1 (kg hn).symm
  ·simp at hn
theorem ad9 {P:Prop} (h:P:=by
  go_wp2
  go_roundw
  case rel=>exact⟨j+1,kj,by omega,by go_num,Ba,hid (HV.out.keeps ((A5.refl _ []).alloc _) (by simp)),hid (HK.out.alloc _)⟩
  case measure=>simp[intOf];omega):P:=h
theorem jD (w:World) (n₀ fb kb:Nat) (N:NG) (zy:List ByteArray) (pg:List Nm) (yZ:Option Addr) (yT gN yQ:Nat) (k:List Fa) (h:Aw w n₀ fb kb N zy pg yZ yT gN yQ k)
  (Bx:Nat) (Pk:w.cell? (af Bx 0)=some (ac fb)) (hBk:Bx≠kb) (v:Value) (r:Nat × List Pt) (hr:r∈N.rules) (hv:D1 w n₀ v r.2):
  Calls Tryz.prog 156 #[.pointer (some (af kb (r.1*4))),v,ac Bx] w λe w'=>e=.returned (.tuple #[])/\zY w' kb N.nN (GR k r)/\A5 w w' [kb]:=by
 obtain⟨m,ps⟩:=r;have hm:m<N.nN:=h.gr.ok.lt _ hr;simp only at hv ⊢;have hps:BE N ps:=h.gr.ok.ps hr;have hlen:ps.length<=8:=h.gr.ok.parts _ hr;have zW:=h.kn.lt;have hfw:=h.lf;have hne:=h.ne;have Bz:=h.ln;have hnk:=h.n0;have h2:=h.f2;have hBw:Bx<w.heap.size:=bu w _ Pk;obtain⟨ad,cap,rfl,hcap,hcs⟩:=hv;obtain⟨L,hL⟩:=qF (ps.length);rw[<-hL]at hcap hcs hlen ⊢;obtain⟨nN,hn1⟩:=qF (N.nN);have Bi:=h.gr.Dm;have hkn:=h.kn;rw[<-hn1]at h2 hm Bi hkn ⊢;have HN:Hid (nN=N.nN):=hid hn1;have HKN:Hid (zY w kb nN k):=hid hkn;have HL:Hid (L=ps.length):=hid hL;have HC:=hid hcs;have HP:Hid (BE N ps):=hid hps;have Ah:Hid (w.cell? (af Bx 0)=some (ac fb)):=hid Pk;have HF0:Hid (w.cell? (af fb 2)=some (ae kb nN nN)):=hid h2;clear h hr hL hcs hps hn1 hkn Pk h2;show Calls _ _ _ _ λe w'=>e=.returned (.tuple #[])/\zY w' kb nN (DU m ps k)/\A5 w w' [kb]
 go_enter Tryz.func156,Tryz.ntmps156
 go_wp2
 go_loopw [9] (λi wr=>∃(j:Nat) (kj:List Fa),j<=L/\i=ab j/\Hid (DU m ps k=DU m (ps.drop j) kj)/\Hid (zY wr kb nN kj)/\Hid (A5 w wr [kb])) (λi _=>L - (intOf i).toNat)
 case atStart=>exact⟨0,k,dh _,rfl,rfl,HKN,A5.refl _ _⟩
 case round=>
  obtain⟨j,kj,hj,rfl,HE,HV,HK⟩:=hrel
  by_cases hlt:j<L
  ·obtain⟨p,hp⟩:∃p,ps[j]?=some p:=⟨_,gE aaF⟩
   obtain⟨g,off,rfl,hg,hcl⟩:=HC.out (by omega);have Wc:=HK.out.size;have Iw:g<wr.heap.size:=by omega
   have Uf:g∉ [kb]:=by simp;omega
   have p0:=(HK.out.cell (p:=(af g (off+j*2))) Jt Uf).trans (hcl j p hp).1;have p1:=(HK.out.cell (p:=(af g (off+j*2+1))) Jt Uf).trans (hcl j p hp).2;have bx:=(HK.out.cell (p:=(af Bx 0)) (by exact hBw) (by simpa using hBk)).trans Ah.out;have fx:=(HK.out.cell (p:=(af fb 2)) (by exact hfw) abh).trans HF0.out;have Ca:=HP.out.at hp;have HD:Hid (ps.drop j=p::ps.drop (j+1)):=hid (SH hp);obtain⟨a,ha⟩:∃a,kj[m]?=some a:=⟨_,gE (by rw[HV.out.1];exact hm)⟩;have c1:=(HV.out.cells ha).2.1;clear hcl hp;cases p with
   |tok t=>
    simp only[AW,AV]at p0 p1;have Ba:Hid (DU m ps k=DU m (ps.drop (j+1)) kj):=hid (by rw[HE.out,HD.out];rfl);clear Ca ha;exact ad9
   |zi n=>
    simp only[AW,AV]at p0 p1;have hn:n<nN:=by rw[HN.out];exact Ca
    have Mh:=tN ha;obtain⟨b,hb⟩:∃b,kj[n]?=some b:=⟨_,gE (by rw[HV.out.1];exact hn)⟩;have cb:=(HV.out.cells hb).2.1;have fz:=HV.out.free (n*4+1);have hkr:=HV.out.lt;cases Da:a.reached
    ·rw[Da]at c1 Mh
     have Ba:Hid (DU m ps k=DU m (ps.drop (j+1)) kj):=hid (by rw[HE.out,HD.out];simp only[DU];rw[aq (by rw[Mh];decide)]);clear Ca ha Mh hb;exact ad9
    ·rw[Da]at c1 Mh
     have Ba:Hid (DU m ps k=DU m (ps.drop (j+1)) (kj.modify n J2)):=hid (by rw[HE.out,HD.out];simp only[DU];rw[ay Mh]);clear Ca ha Mh hb;go_wp2;have dx:=A6 (.cells #[.bool true,ab n] 235) bx;have ex:=A6 (.cells #[.bool true,ab n] 235) fx;have nx:=BK wr #[.bool true,ab n] 235 1;have cx:=A6 (.cells #[.bool true,ab n] 235) cb;have zx:(wr.alloc (.cells #[.bool true,ab n] 235)).frozen? (af kb (n*4+1))=false:=(og (w:=wr) (dw wr _ kb hkr)).trans fz;have HW:Hid (A5 wr (wr.alloc (.cells #[.bool true,ab n] 235)) []):=hid ((A5.refl _ _).alloc _);obtain⟨W1,hW1⟩:=qE (wr.alloc (.cells #[.bool true,ab n] 235));rw[hW1]at dx ex nx cx zx HW ⊢;clear hW1 bx fx cb fz c1 p0 p1;refine AH (λw'=>w'.cell? (af Bx 0)=some (ac fb)/\w'.cell? (af fb 2)=some (ae kb nN nN)/\w'.cell? (af wr.heap.size 1)=some (ab n)) yM yM ⟨dx,ex,nx⟩ (λhH=>?_);simp only[AG,BP,AR]
     refine tB 0 hH ?_;refine tB 1 hH ?_;refine tB 2 hH ?_;refine tB 3 hH ?_;refine tB 4 hH ?_;refine tB 5 hH ?_;refine tB 6 hH ?_;refine tB 7 hH ?_;refine tB 8 hH ?_;refine tL ?_;refine bq yM ?_ _;clear hH;show wpList _ _ _ _ _ _;go_wp2
     go_roundw
     case rel=>
      obtain⟨h3,h4⟩:=(HV.out.keeps (HW.out.drew) (by simp)).put hn J2 1 (by omega) (.bool true) (λa _=>rfl);exact⟨j+1,_,by omega,by go_num,Ba,h3,hid (HK.out.trans ((HW.out.drew.mono (λk h=>by cases h)).trans h4))⟩
     case measure=>simp[intOf];omega
  ·have Ba:Hid (DU m ps k=kj):=hid (by
    rw[HE.out,oc aaI];rfl)
   go_wp2
   go_end0
   exact⟨rfl,by rw[Ba.out];exact HV.out,HK.out⟩
theorem NU (w:World) (n₀ fb kb:Nat) (N:NG) (zy:List ByteArray) (pg:List Nm) (yZ:Option Addr) (yT gN yQ:Nat) (k0:List Fa) (h:Aw w n₀ fb kb N zy pg yZ yT gN yQ k0) (h0:∀n,F6 k0 n=false):
  Calls Tryz.prog 107 #[ac fb] w λe w'=>e=.returned (.tuple #[])/\A5 w w' [kb]/\∃k,KH N k0 k/\(∀r∈N.rules,GR k r=k)/\zY w' kb N.nN k:=by
 have hlf:=h.lf;have h2:=h.f2;have zT:=h.gr.Dm;have hkb:=h.kn.lt;have hne:=h.ne;have hpos:=h.gr.ok.pos;obtain⟨a,ha⟩:∃a,k0[0]?=some a:=⟨_,gE (by rw[h.kn.1];exact hpos)⟩;have c1:w.cell? (af kb 1)=some (.bool a.reached):=by have:=(h.kn.cells ha).2.1;simpa using this
 have fz:w.frozen? (af kb 1)=false:=h.kn.free 1;have H:=hid h;obtain⟨nN,hn1⟩:=qF (N.nN);rw[<-hn1]at h2 zT hpos;have HN:Hid (nN=N.nN):=hid hn1;have H0:=hid h0;clear h hn1 ha h0;obtain⟨W1,hW1⟩:=qE ((w.alloc (.cells #[ac fb] 212)).setCell (af kb 1) (.bool true));obtain⟨h3,h4⟩:=(H.out.kn.keeps ((A5.refl w []).alloc (.cells #[ac fb] 212)) (by simp)).put H.out.gr.ok.pos J2 1 (by omega) (.bool true) (λa _=>rfl);rw[yy,ju,hW1]at h3 h4;have Pn:A5 w W1 [kb]:=((A5.refl w [kb]).alloc _).trans h4;have hb:W1.cell? (af w.heap.size 0)=some (ac fb):=(h4.cell (by simp) zG).trans (GX w _ _);have Pm:w.heap.size<W1.heap.size:=bu W1 _ hb;have hX:=H.out.keeps Pn h3;have CS:=MR N zy pg yZ yT gN yQ kb fb n₀ W1 hX.gr hX.n0 hX.lf hX.ne hX.ln hX.f0 hX.f1 hX.f2 156 #[ac w.heap.size] (rq Tryz.func156 yM rfl)
  GR (GD SB) (KH N k0) (λk hk r hr=>dF hk hr)
  (λW k r v hW hk hI hr hv=>jD W n₀ fb kb N zy pg yZ yT gN yQ k (hX.keeps hW hk) w.heap.size ((hW.cell (by exact Pm) aaB).trans hb) (by omega) v r hr hv)
  hX.gr.ok.pos (k0.modify 0 J2) hX.kn (eH hX.gr.ok H.out.kn.1 H0.out)
 have Dr:=hid CS;have Bt:=hid Pn;clear CS hX Pn h3 h4
 go_enter Tryz.func107,Tryz.ntmps107
 have h1:(0:Int)<nN:=by omega
 go_wp2_with (first
  | (rw[hW1];go_at_call 153;refine Dr.out.mono ?_;rintro e w2 ⟨rfl,hk2,hr2⟩;have HR:=hid (And.intro hk2 hr2);clear hk2 hr2)
  | (go_at_call 153;refine Dr.out.mono ?_;rintro e w2 ⟨rfl,hk2,hr2⟩;have HR:=hid (And.intro hk2 hr2);clear hk2 hr2))
 go_end0
 exact⟨rfl,Bt.out.trans HR.out.1,HR.out.2⟩
theorem U6 (w:World) (t:Nat) (ht:t<=20):Calls Tryz.prog 163 #[ab t] w λe w'=>e=.returned (.int .u32 ((1<<<t:Nat):Int))/\w=w':=by
 go_enter Tryz.func163,Tryz.ntmps163
 go_wp2;go_ret;refine⟨?_,rfl⟩;have h:(2:Nat) ^t<4294967296:=zo (qg (by omega) ht) (by decide);have h2:(2:Int) ^t % 4294967296=(((2:Nat) ^t:Nat):Int):=by
  rw[Int.natCast_pow];refine Int.emod_eq_of_lt (Int.pow_nonneg (show(0:Int)<=2 by decide)) ?_;have h2:(((2:Nat) ^t:Nat):Int)<4294967296:=by omega
  rw[Int.natCast_pow]at h2;exact h2
 rw[qx,<-h2];rfl
theorem bG (w:World) (a:Int) (b:Bool) (c d:Int):Calls Tryz.prog 111 #[.agg #[ab a,.bool b,.int .u32 c,.int .u32 d]] w λe w'=>e=.returned (.bool (a==0))/\Below w.heap.size w w':=by
 go_enter Tryz.func111,Tryz.ntmps111
 go_wp2;go_ret;exact⟨rfl,(ah _ _).alloc (zn _) _⟩
theorem SA {a b:Nat} (ha:a<2 ^21) (hb:b<2 ^21):bits .or .u32 (a:Int) (b:Int)=((a|||b:Nat):Int):=u32_or_nat a b (by omega) (by omega)
theorem pX {t:Nat} (h:t<=20):(1:Nat)<<<t<2 ^21:=by rw[qx];exact yY (by omega) (by omega)
theorem Aj {X:World}{o:Obj} (h:Below w.heap.size w X):Below w.heap.size w (X.alloc o):=h.alloc h.size _
theorem Cb {X:World} (h:Below w.heap.size w X):Below w.heap.size w X.drew:=⟨h.os,h.tape,h.output,h.size,h.block⟩
def EK (k:List Fa):Pt->Nat × Bool
 | .tok t=>(1<<<t,false)
 | .zi n=>(AQ k n,Bh k n)
theorem YX  (hT:N.nT<=20)  (hf:∀n,AQ k n<2 ^21) {p:Pt} (hp:JQ N p):(EK k p).1<2 ^21:=by
 cases p with
 |tok t=>have:t<N.nT:=hp;exact pX (by omega)
 |zi n=>exact hf n
theorem cW (k:List Fa) (p:Pt) (ps:List Pt) (f:Nat):BF k (p::ps) f=if(EK k p).2=true then BF k ps (f||| (EK k p).1)else(f||| (EK k p).1,false):=by
 cases p with
 |tok t=>rfl
 |zi n=>
  simp only[BF,EK,Bh,ir]
theorem UR (w:World) (n₀ fb kb:Nat) (N:NG) (zy:List ByteArray) (pg:List Nm) (yZ:Option Addr) (yT gN yQ:Nat) (k:List Fa) (h:Aw w n₀ fb kb N zy pg yZ yT gN yQ k) (p:Pt) (hp:JQ N p):
  Calls Tryz.prog 198 #[ac fb,.agg #[.bool (AW p),ab (AV p)]] w λe w'=>e=.returned (.tuple #[.int .u32 (EK k p).1,.bool (EK k p).2])/\Below w.heap.size w w':=by
 have Bz:=h.ln;have hlf:=h.lf;have zW:=h.kn.lt;have Dx:=h.gr.Ch;have Bi:=h.gr.Dm;cases p with
 |tok t=>
  have ht:t<N.nT:=hp;have CO:=U6 (w.alloc (.cells #[.bool false,ab t] 235)) t (by omega);obtain⟨x,hx⟩:∃x:Nat,1<<<t=x:=⟨_,rfl⟩;have HX:Hid (EK k (.tok t)=(x,false)):=hid (by rw[<-hx];rfl);rw[hx]at CO;simp only[AW,AV];clear h hp hx
  go_enter Tryz.func198,Tryz.ntmps198
  go_wp2_with (go_at_call 163;refine CO.mono ?_;rintro e w2 ⟨rfl,rfl⟩;clear CO)
  go_ret2
  exact⟨by rw[HX.out];rfl,Aj (ah _ _)⟩
 |zi n=>
  have hn:n<N.nN:=hp;have fx:=h.f2;obtain⟨a,ha⟩:∃a,k[n]?=some a:=⟨_,gE (by rw[h.kn.1];exact hn)⟩;obtain⟨c0,c1,c2,c3⟩:=h.kn.cells ha;have HX:Hid (EK k (.zi n)=(a.first,(a.least:Int)==0)):=hid (by
   show(AQ k n,Bh k n)=_;unfold Bh;rw[aE ha,kQ ha]
   congr 1
   rw[ow];simp)
  obtain⟨nN,hn1⟩:=qF (N.nN);rw[<-hn1]at fx Bi hn;simp only[AW,AV];clear h hp ha hn1
  go_enter Tryz.func198,Tryz.ntmps198
  go_wp2;refine AH (λw'=>w'.cell? (af fb 2)=some (ae kb nN nN)/\w'.cell? (af w.heap.size 1)=some (ab n)/\w'.cell? (af kb (n*4))=some (ab a.least)/\w'.cell? (af kb (n*4+1))=some (.bool a.reached)/\w'.cell? (af kb (n*4+2))=some (.int .u32 a.first)/\w'.cell? (af kb (n*4+3))=some (.int .u32 a.follow)) yM yM ⟨A6 _ fx,BK _ _ _ 1,A6 _ c0,A6 _ c1,A6 _ c2,A6 _ c3⟩ (λhH=>?_);simp only[AG,BP,AR];refine tB 0 hH ?_;refine tB 1 hH ?_;refine tB 2 hH ?_;refine tB 3 hH ?_;refine tB 4 hH ?_;refine tB 5 hH ?_;refine tB 6 hH ?_;refine tB 7 hH ?_;refine tL ?_;refine tS 8 λK hK=>?_
  refine tM ?_;go_simp;refine hK.out _ _ ?_ λhH=>?_
  ·go_keep
  clear hK K;refine tB 9 hH ?_;refine tL ?_;refine bq yM ?_ _;clear hH;show wpList _ _ _ _ _ _;go_wp2;obtain⟨W2,hW2⟩:=qE (((w.alloc (.cells #[.bool true,ab n] 235)).alloc (.cells #[ab a.least,.bool a.reached,.int .u32 a.first,.int .u32 a.follow] 216)).drew);have dd:∀j:Nat,W2.cell? (af (w.heap.size+1) j)=(#[ab a.least,.bool a.reached,.int .u32 a.first,.int .u32 a.follow]:Array Value)[j]?:=λj=>by
   rw[<-hW2];have h1:=BK (w.alloc (.cells #[.bool true,ab n] 235)) #[ab a.least,.bool a.reached,.int .u32 a.first,.int .u32 a.follow] 216 j;rw[bh]at h1;exact h1
  have d0:W2.cell? (af (w.heap.size+1) 0)=some (ab a.least):=dd 0;have d1:W2.cell? (af (w.heap.size+1) 1)=some (.bool a.reached):=dd 1;have d2:W2.cell? (af (w.heap.size+1) 2)=some (.int .u32 a.first):=dd 2;have d3:W2.cell? (af (w.heap.size+1) 3)=some (.int .u32 a.follow):=dd 3;have acP:Below w.heap.size w W2:=by rw[<-hW2];exact Cb (Aj (Aj (ah _ _)))
  have acQ:w.heap.size+1<W2.heap.size:=bu _ _ d0;rw[hW2];clear hW2 dd c0 c1 c2 c3 fx;refine dy (S:=λw'=>w'.cell? (af (w.heap.size+1) 0)=some (ab a.least)/\w'.cell? (af (w.heap.size+1) 1)=some (.bool a.reached)/\w'.cell? (af (w.heap.size+1) 2)=some (.int .u32 a.first)/\w'.cell? (af (w.heap.size+1) 3)=some (.int .u32 a.follow)/\Below w.heap.size w w') yM ⟨d0,d1,d2,d3,Cb acP⟩ (λhH=>?_);refine tB 0 hH ?_;refine tB 1 hH ?_;refine tB 2 hH ?_;refine tL ?_;refine tS 3 λK hK=>?_
  refine tM ?_
  go_simp;refine(bG _ _ _ _ _).mono ?_;rintro e w5 ⟨rfl,zP⟩;try dsimp only
  refine hK.out _ _ ?_ λhH=>?_
  ·exact⟨(zP.cell (by exact acQ)).trans hH.1,(zP.cell (by exact acQ)).trans hH.2.1,(zP.cell (by exact acQ)).trans hH.2.2.1,(zP.cell (by exact acQ)).trans hH.2.2.2.1,hH.2.2.2.2.trans (zP.mono hH.2.2.2.2.size)⟩
  clear hK K;refine tB 4 hH ?_;refine tB 5 hH ?_;refine tL ?_;refine bq yM ?_ _;have Rn:=hid hH.2.2.2.2;clear hH d0 d1 d2 d3 zP acP;go_wp2
  go_ret2
  exact⟨by rw[HX.out];rfl,Rn.out⟩
theorem QD (w:World) (n₀ fb kb:Nat) (N:NG) (zy:List ByteArray) (pg:List Nm) (yZ:Option Addr) (yT gN yQ:Nat) (k:List Fa) (h:Aw w n₀ fb kb N zy pg yZ yT gN yQ k) (Df:∀n,AQ k n<2 ^21) (v:Value) (ps:List Pt) (hv:D1 w n₀ v ps) (hps:BE N ps) (hlen:ps.length<=8):
  Calls Tryz.prog 162 #[ac fb,v] w λe w'=>e=.returned (.tuple #[.int .u32 (BF k ps 0).1,.bool (BF k ps 0).2])/\Below w.heap.size w w':=by
 obtain⟨ad,cap,rfl,hcap,hcs⟩:=hv;obtain⟨L,hL⟩:=qF (ps.length);rw[<-hL]at hcap hcs hlen ⊢;have Bz:=h.ln;have hlf:=h.lf;have zW:=h.kn.lt;have Dx:=h.gr.Ch;have Bi:=h.gr.Dm;have H:=hid h;have HL:Hid (L=ps.length):=hid hL;have HC:=hid hcs;have HP:Hid (BE N ps):=hid hps;have HF:Hid (∀n,AQ k n<2 ^21):=hid Df;obtain⟨nN,hn1⟩:=qF (N.nN);rw[<-hn1]at Bi;have HN:Hid (nN=N.nN):=hid hn1;clear h hL hcs hps Df hn1
 go_enter Tryz.func162,Tryz.ntmps162
 go_wp2
 go_loopw [6,13] (λs i wr=>∃j f:Nat,j<=L/\i=ab j/\s=.int .u32 f/\f<2 ^21/\Hid (BF k ps 0=BF k (ps.drop j) f)/\Hid (Below w.heap.size w wr)) (λ_ i _=>L - (intOf i).toNat)
 case atStart=>exact⟨0,0,dh _,rfl,rfl,by decide,rfl,ah _ _⟩
 case round=>
  obtain⟨j,f,hj,rfl,rfl,hf,HE,HB⟩:=hrel;have HFl:Hid (f<2 ^21):=hid hf;clear hf
  by_cases hlt:j<L
  ·obtain⟨p,hp⟩:∃p,ps[j]?=some p:=⟨_,gE aaF⟩
   obtain⟨g,off,rfl,hg,hcl⟩:=HC.out (by omega);have Wc:=HB.out.size;have Iw:g<wr.heap.size:=by omega
   have p0:=(HB.out.cell (p:=(af g (off+j*2))) Jt).trans (hcl j p hp).1;have p1:=(HB.out.cell (p:=(af g (off+j*2+1))) Jt).trans (hcl j p hp).2;have Ca:JQ N p:=by
    have:=HP.out.at hp;cases p with
    |tok t=>exact this
    |zi n=>exact this
   have hfl:=YX Dx HF.out Ca;have Ug:=SA HFl.out hfl;have HO:Hid (f||| (EK k p).1<2 ^21):=hid (uh HFl.out hfl);have hD:BF k ps 0=if(EK k p).2=true then BF k (ps.drop (j+1)) (f||| (EK k p).1)else(f||| (EK k p).1,false):=by
    rw[HE.out,SH hp,cW]
   have HD:=hid hD;have CF:Hid (Calls Tryz.prog 198 #[ac fb,.agg #[.bool (AW p),ab (AV p)]] (wr.alloc (.cells #[.bool (AW p),ab (AV p)] 235)) λe w'=>e=.returned (.tuple #[.int .u32 (EK k p).1,.bool (EK k p).2])/\Below (wr.alloc (.cells #[.bool (AW p),ab (AV p)] 235)).heap.size (wr.alloc (.cells #[.bool (AW p),ab (AV p)] 235)) w'):=hid (
    UR _ n₀ fb kb N zy pg yZ yT gN yQ k (H.out.below (Aj HB.out)) p Ca)
   obtain⟨pi,hpi⟩:=qE (AW p);obtain⟨pn,hpn⟩:=qE (AV p);obtain⟨x,e,hxe⟩:∃x e,EK k p=(x,e):=⟨_,_,rfl⟩;rw[hpi,hpn,hxe]at CF;rw[hxe]at HD HO Ug;rw[hpi]at p0;rw[hpn]at p1;simp only at CF HD HO Ug;clear hcl hp Ca hfl hD hpi hpn hxe;cases e
   ·have Ba:Hid (BF k ps 0=(f|||x,false)):=hid (by rw[HD.out];simp)
    go_wp2_with (go_at_call 198;refine CF.out.mono ?_;rintro e w2 ⟨rfl,hb2⟩;have zO:=hid (HB.out.trans (((Aj (ah _ _)).trans (hb2.mono (by simp))).mono HB.out.size));clear hb2 CF)
    go_ret2
    exact⟨by rw[Ba.out];rfl,zO.out⟩
   ·have Ba:Hid (BF k ps 0=BF k (ps.drop (j+1)) (f|||x)):=hid (by rw[HD.out];simp)
    go_wp2_with (go_at_call 198;refine CF.out.mono ?_;rintro e w2 ⟨rfl,hb2⟩;have zO:=hid (HB.out.trans (((Aj (ah _ _)).trans (hb2.mono (by simp))).mono HB.out.size));clear hb2 CF)
    go_roundw
    case rel=>exact⟨j+1,f|||x,by omega,by go_num,rfl,HO.out,Ba,zO⟩
    case measure=>simp[intOf];omega
  ·have Ba:Hid (BF k ps 0=(f,true)):=hid (by
    rw[HE.out,oc aaI];rfl)
   go_wp2
   go_ret2
   exact⟨by rw[Ba.out];rfl,HB.out⟩
theorem afW {P:Prop} (h:P:=by
  go_enter Tryz.func165,Tryz.ntmps165
  go_wp2_with (go_at_call 162;refine Hl.out.mono ?_;rintro e w2 ⟨rfl,hb2⟩;have HB:=hid hb2;clear hb2)
  go_ret;exact⟨by rw[Ba.out];rfl,HB.out⟩):P:=h
theorem YQ (w:World) (n₀ fb kb:Nat) (N:NG) (zy:List ByteArray) (pg:List Nm) (yZ:Option Addr) (yT gN yQ:Nat) (k:List Fa) (h:Aw w n₀ fb kb N zy pg yZ yT gN yQ k) (Df:∀n,AQ k n<2 ^21) (v:Value) (ps:List Pt) (hv:D1 w n₀ v ps) (hps:BE N ps) (hlen:ps.length<=8) (fo:Nat) (hfo:fo<2 ^21):
  Calls Tryz.prog 165 #[ac fb,v,.int .u32 fo] w λe w'=>e=.returned (.int .u32 (E7 k ps fo))/\Below w.heap.size w w':=by
 have CB:=QD w n₀ fb kb N zy pg yZ yT gN yQ k h Df v ps hv hps hlen;have hlt:=LF h.gr.Ch Df ps 0 hps (by decide);have Ug:=SA hlt hfo;have HE:Hid (E7 k ps fo=if(BF k ps 0).2=true then(BF k ps 0).1|||fo else(BF k ps 0).1):=hid rfl;obtain⟨ad,cap,rfl,_,_⟩:=hv;obtain⟨b,e,Kn⟩:∃b e,BF k ps 0=(b,e):=⟨_,_,rfl⟩;rw[Kn]at CB Ug HE;simp only at CB Ug HE;have Hl:=hid CB;clear h Df hps hlen hfo hlt CB Kn;cases e
 ·have Ba:Hid (E7 k ps fo=b):=hid (by rw[HE.out];simp)
  exact afW
 ·have Ba:Hid (E7 k ps fo=b|||fo):=hid (by rw[HE.out];simp)
  exact afW
theorem zY.first {w:World}{kb n:Nat}{k:List Fa} (h:zY w kb n k) {i:Nat} (hi:i<n) {a:Fa} (ha:k[i]?=some a) (x:Nat):
  zY (w.setCell (af kb (i*4+2)) (.int .u32 ((a.first|||x:Nat):Int))) kb n (k.modify i λa=>{a with first:=a.first|||x})/\A5 w (w.setCell (af kb (i*4+2)) (.int .u32 ((a.first|||x:Nat):Int))) [kb]:=
 h.put hi _ 2 (by omega) _ (λb hb=>by rw[ha]at hb;cases hb;rfl)
theorem zY.follow {kb n:Nat} (h:zY w kb n k) {i:Nat} (hi:i<n) {a:Fa} (ha:k[i]?=some a) (x:Nat):
  zY (w.setCell (af kb (i*4+3)) (.int .u32 ((a.follow|||x:Nat):Int))) kb n (k.modify i (Fp x))/\A5 w (w.setCell (af kb (i*4+3)) (.int .u32 ((a.follow|||x:Nat):Int))) [kb]:=
 h.put hi _ 3 (by omega) _ (λb hb=>by rw[ha]at hb;cases hb;rfl)
theorem kS (w:World) (n₀ fb kb:Nat) (N:NG) (zy:List ByteArray) (pg:List Nm) (yZ:Option Addr) (yT gN yQ:Nat) (k:List Fa) (h:Aw w n₀ fb kb N zy pg yZ yT gN yQ k) (Df:∀n,AQ k n<2 ^21)
  (Bx:Nat) (Pk:w.cell? (af Bx 0)=some (ac fb)) (v:Value) (r:Nat × List Pt) (hr:r∈N.rules) (hv:D1 w n₀ v r.2):
  Calls Tryz.prog 161 #[.pointer (some (af kb (r.1*4))),v,ac Bx] w λe w'=>e=.returned (.tuple #[])/\zY w' kb N.nN (EM k r)/\A5 w w' [kb]:=by
 obtain⟨m,ps⟩:=r;have hm:m<N.nN:=h.gr.ok.lt _ hr;simp only at hv ⊢;have hps:BE N ps:=h.gr.ok.ps hr;have CB:=QD w n₀ fb kb N zy pg yZ yT gN yQ k h Df v ps hv hps (h.gr.ok.parts _ hr);obtain⟨a,ha⟩:∃a,k[m]?=some a:=⟨_,gE (by rw[h.kn.1];exact hm)⟩;have hal:a.first<2 ^21:=by rw[<-kQ ha];exact Df m
 have Ug:=SA hal (LF h.gr.Ch Df ps 0 hps (by decide));have c2:=(h.kn.cells ha).2.2.1;have fz:=h.kn.free (m*4+2);have zW:=h.kn.lt;obtain⟨ad,cap,rfl,_,_⟩:=hv;have hst:EM k (m,ps)=k.modify m λa=>{a with first:=a.first||| (BF k ps 0).1}:=rfl
 obtain⟨b,e,Kn⟩:∃b e,BF k ps 0=(b,e):=⟨_,_,rfl⟩;rw[Kn]at CB Ug hst;simp only at CB Ug hst;have Hl:=hid CB;have HST:=hid hst;have HA:=hid ha;have HM:Hid (m<N.nN):=hid hm;have H:=hid h;clear h Df hr hps hal CB hst ha Kn hm
 go_enter Tryz.func161,Tryz.ntmps161
 go_wp2_with (go_at_call 162;refine Hl.out.mono ?_;rintro e w2 ⟨rfl,hb2⟩;replace c2:=(hb2.cell (p:=(af kb (m*4+2))) (by exact zW)).trans c2;replace fz:=(og (w:=w) (a:=(af kb (m*4+2))) (hb2.block kb zW)).trans fz;have HB:=hid hb2;clear hb2)
 go_end0
 obtain⟨h1,h2⟩:=zY.first (H.out.kn.keeps (A5.zQ HB.out []) (by simp)) HM.out HA.out b;exact⟨rfl,by rw[HST.out];exact h1,(A5.zQ HB.out _).trans h2⟩
theorem fK (w:World) (n₀ fb kb:Nat) (N:NG) (zy:List ByteArray) (pg:List Nm) (yZ:Option Addr) (yT gN yQ:Nat) (k:List Fa) (h:Aw w n₀ fb kb N zy pg yZ yT gN yQ k) (Df:∀n,AQ k n<2 ^21) (hfo:∀n,BC k n<2 ^21)
  (Bx:Nat) (Pk:w.cell? (af Bx 0)=some (ac fb)) (hBk:Bx≠kb) (v:Value) (r:Nat × List Pt) (hr:r∈N.rules) (hv:D1 w n₀ v r.2):
  Calls Tryz.prog 164 #[.pointer (some (af kb (r.1*4))),v,ac Bx] w λe w'=>e=.returned (.tuple #[])/\zY w' kb N.nN (EZ k r)/\A5 w w' [kb]:=by
 obtain⟨m,ps⟩:=r;have hm:m<N.nN:=h.gr.ok.lt _ hr;simp only at hv ⊢;have hps:BE N ps:=h.gr.ok.ps hr;have hlen:ps.length<=8:=h.gr.ok.parts _ hr;have zW:=h.kn.lt;have hfw:=h.lf;have hne:=h.ne;have Bz:=h.ln;have hnk:=h.n0;have h2:=h.f2;have Dx:=h.gr.Ch;have hBw:Bx<w.heap.size:=bu w _ Pk;have Ro:Hid (D1 w n₀ v ps):=hid hv;obtain⟨ad,cap,rfl,hcap,hcs⟩:=hv;obtain⟨L,hL⟩:=qF (ps.length);rw[<-hL]at hcap hcs hlen Ro ⊢;obtain⟨nN,hn1⟩:=qF (N.nN);have Bi:=h.gr.Dm;have hkn:=h.kn;rw[<-hn1]at h2 hm Bi hkn ⊢;have H:=hid h;have HFF:Hid ((∀n,AQ k n<2 ^21)/\(∀n,BC k n<2 ^21)):=hid ⟨Df,hfo⟩;have HN:Hid (nN=N.nN):=hid hn1;have HKN:Hid (zY w kb nN k):=hid hkn;have HL:Hid (L=ps.length):=hid hL;have HC:=hid hcs;have HP:Hid (BE N ps):=hid hps;have Ah:Hid (w.cell? (af Bx 0)=some (ac fb)):=hid Pk;have HF0:Hid (w.cell? (af fb 2)=some (ae kb nN nN)):=hid h2;clear h hr hL hcs hps hn1 hkn Pk h2 Df hfo
 show Calls _ _ _ _ λe w'=>e=.returned (.tuple #[])/\zY w' kb nN (CJ m ps k)/\A5 w w' [kb]
 go_enter Tryz.func164,Tryz.ntmps164
 go_wp2
 go_loopw [9] (λi wr=>∃(j:Nat) (kj:List Fa),j<=L/\i=ab j/\Hid (CJ m ps k=CJ m (ps.drop j) kj/\(∀n,BB kj n=BB k n)/\(∀n,AQ kj n=AQ k n)/\(∀n,BC kj n<2 ^21))/\Hid (zY wr kb nN kj)/\Hid (A5 w wr [kb])) (λi _=>L - (intOf i).toNat)
 case atStart=>exact⟨0,k,dh _,rfl,⟨rfl,λ_=>rfl,λ_=>rfl,HFF.out.2⟩,HKN,A5.refl _ _⟩
 case round=>
  obtain⟨j,kj,hj,rfl,HE,HV,HK⟩:=hrel
  by_cases hlt:j<L
  ·obtain⟨p,hp⟩:∃p,ps[j]?=some p:=⟨_,gE aaF⟩
   obtain⟨g,off,rfl,hg,hcl⟩:=HC.out (by omega);have Wc:=HK.out.size;have Iw:g<wr.heap.size:=by omega
   have Uf:g∉ [kb]:=by simp;omega
   have p0:=(HK.out.cell (p:=(af g (off+j*2))) Jt Uf).trans (hcl j p hp).1;have p1:=(HK.out.cell (p:=(af g (off+j*2+1))) Jt Uf).trans (hcl j p hp).2;have bx:=(HK.out.cell (p:=(af Bx 0)) (by exact hBw) (by simpa using hBk)).trans Ah.out;have fx:=(HK.out.cell (p:=(af fb 2)) (by exact hfw) abh).trans HF0.out;have Ca:=HP.out.at hp;have HD:Hid (ps.drop j=p::ps.drop (j+1)):=hid (SH hp);have HCL:=hid hcl;clear hcl hp;cases p with
   |tok t=>
    simp only[AW,AV]at p0 p1;have Ba:Hid (CJ m ps k=CJ m (ps.drop (j+1)) kj/\(∀n,BB kj n=BB k n)/\(∀n,AQ kj n=AQ k n)/\(∀n,BC kj n<2 ^21)):=hid ⟨by rw[HE.out.1,HD.out];rfl,HE.out.2⟩;clear Ca;exact ad9
   |zi n=>
    simp only[AW,AV]at p0 p1;have hn:n<nN:=by rw[HN.out];exact Ca
    obtain⟨a,ha⟩:∃a,kj[m]?=some a:=⟨_,gE (by rw[HV.out.1];exact hm)⟩;obtain⟨b,hb⟩:∃b,kj[n]?=some b:=⟨_,gE (by rw[HV.out.1];exact hn)⟩;have ca:=(HV.out.cells ha).2.2.2;have cb:=(HV.out.cells hb).2.2.2;have fz:=HV.out.free (n*4+3);have hkr:=HV.out.lt;have HAB:Hid (kj[m]?=some a/\kj[n]?=some b):=hid ⟨ha,hb⟩;clear Ca ha hb;go_wp2;have hwr:IntKind.i64.wrap ((j:Int)+1)=(j:Int)+1:=by rw[Db];omega
    have hb1:(0:Int)<=(j:Int)+1:=by omega
    have hb2:(j:Int)+1<=(L:Int):=by omega
    have Lg:((j:Int)+1).toNat=j+1:=by omega
    obtain⟨AD,Dp⟩:=qE ((if cap=j+1 then some ((af g off):Addr)else some (af g (off+(j+1)*2))));have dx:=A6 (.cells #[.bool true,ab n] 235) bx;have ex:=A6 (.cells #[.bool true,ab n] 235) fx;have nx:=BK wr #[.bool true,ab n] 235 1;have ax:=A6 (.cells #[.bool true,ab n] 235) ca;have cx:=A6 (.cells #[.bool true,ab n] 235) cb;have zx:(wr.alloc (.cells #[.bool true,ab n] 235)).frozen? (af kb (n*4+3))=false:=(og (w:=wr) (dw wr _ kb hkr)).trans fz;have HW:Hid (A5 wr (wr.alloc (.cells #[.bool true,ab n] 235)) []):=hid ((A5.refl _ _).alloc _);have hs1:(wr.alloc (.cells #[.bool true,ab n] 235)).heap.size=wr.heap.size+1:=bh _ _;obtain⟨W1,hW1⟩:=qE (wr.alloc (.cells #[.bool true,ab n] 235));rw[hW1]at dx ex nx ax cx zx HW hs1 ⊢;clear hW1 bx fx ca cb fz p0 p1;have acR:A5 w W1.drew [kb]:=(HK.out.trans (HW.out.mono (λq h=>by cases h))).drew;have afX:zY W1.drew kb N.nN kj:=by have h1:=HV.out.keeps HW.out.drew (by simp);rw[HN.out]at h1;exact h1
    have hfa:a.follow<2 ^21:=by rw[<-VT HAB.out.1];exact HE.out.2.2.2 m
    have Rk:b.follow<2 ^21:=by rw[<-VT HAB.out.2];exact HE.out.2.2.2 n
    have acS:∀q,AQ kj q<2 ^21:=λq=>by rw[HE.out.2.2.1];exact HFF.out.1 q
    have Dc:BE N (ps.drop (j+1)):=⟨λq hq=>HP.out.1 q (yl hq),λq hq=>HP.out.2 q (yl hq)⟩;have Po:D1 W1.drew n₀ (.slice AD (L - (j+1)) (cap - (j+1))) (ps.drop (j+1)):=
     ⟨AD,cap - (j+1),by rw[lu,<-HL.out],by rw[lu,<-HL.out];omega,λh0=>⟨g,off+(j+1)*2,by rw[lu,<-HL.out]at h0;rw[<-Dp,aq (by omega)],hg,λi p hp=>by
      rw[zq]at hp;obtain⟨q0,q1⟩:=HCL.out (j+1+i) p hp;rw[show off+(j+1)*2+i*2=off+(j+1+i)*2 from by omega];exact⟨(acR.cell Jt Uf).trans q0,(acR.cell Jt Uf).trans q1⟩⟩⟩
    have CA:=YQ W1.drew n₀ fb kb N zy pg yZ yT gN yQ kj (H.out.keeps acR afX) acS (.slice AD (L - (j+1)) (cap - (j+1))) (ps.drop (j+1)) Po Dc (by rw[lu,<-HL.out];omega) a.follow hfa;have hcl:=RA H.out.gr.Ch acS Dc hfa;have En:=mO H.out.gr.Ch acS HE.out.2.2.2 Dc m n;have aea:CJ m ps k=CJ m (ps.drop (j+1)) (kj.modify n (Fp (E7 kj (ps.drop (j+1)) a.follow))):=by rw[HE.out.1,HD.out];simp only[CJ];rw[VT HAB.out.1]
    rw[VT HAB.out.1]at En;obtain⟨c,hc⟩:=qE (E7 kj (ps.drop (j+1)) a.follow);rw[hc]at CA hcl En aea;have Ug:=SA Rk hcl;have Ba:Hid (CJ m ps k=CJ m (ps.drop (j+1)) (kj.modify n (Fp c))/\(∀q,BB (kj.modify n (Fp c)) q=BB k q)/\(∀q,AQ (kj.modify n (Fp c)) q=AQ k q)/\(∀q,BC (kj.modify n (Fp c)) q<2 ^21)):=
     hid ⟨aea,λq=>(LQ (f:=Fp c) (λ_=>rfl) q).trans (HE.out.2.1 q),λq=>(KX (f:=Fp c) (λ_=>rfl) q).trans (HE.out.2.2.1 q),En.2⟩
    have HCA:=hid CA;have aiy:Bx<W1.heap.size:=bu W1 _ dx;have abx:fb<W1.heap.size:=bu W1 _ ex;have aeb:kb<W1.heap.size:=bu W1 _ cx;have aiz:wr.heap.size<W1.heap.size:=by omega
    clear CA hcl En aea hc Po Dc acS hfa Rk afX acR;refine AH (λw'=>w'.cell? (af Bx 0)=some (ac fb)/\w'.cell? (af fb 2)=some (ae kb nN nN)/\w'.cell? (af wr.heap.size 1)=some (ab n)/\w'.cell? (af kb (n*4+3))=some (.int .u32 b.follow)/\w'.cell? (af kb (m*4+3))=some (.int .u32 a.follow)/\w'.frozen? (af kb (n*4+3))=false/\Below W1.heap.size W1 w') yM yM ⟨dx,ex,nx,cx,ax,zx,Cb (ah _ _)⟩ (λhH=>?_);simp only[AG,BP,AR];refine tB 0 hH ?_;refine tB 1 hH ?_;refine tB 2 hH ?_;refine tB 3 hH ?_;refine tB 4 hH ?_;refine tB 5 hH ?_;refine tB 6 hH ?_;refine tB 7 hH ?_;refine tB 8 hH ?_;refine tB 9 hH ?_;refine tB 10 hH ?_;refine tB 11 hH ?_;refine tB 12 hH ?_;refine tB 13 hH ?_;refine tB 14 hH ?_;refine tB 15 hH ?_;refine tB 16 hH ?_;refine tB 17 hH ?_;refine tL ?_;refine tS 18 λK hK=>?_
    refine tM ?_;rw[ay (by rfl)];go_simp;refine HCA.out.mono ?_;rintro e w2 ⟨rfl,hb2⟩;refine hK.out _ _ ?_ λhH=>?_
    ·exact⟨(hb2.cell (by exact aiy)).trans hH.1,(hb2.cell (by exact abx)).trans hH.2.1,(hb2.cell (by exact aiz)).trans hH.2.2.1,(hb2.cell (by exact aeb)).trans hH.2.2.2.1,(hb2.cell (by exact aeb)).trans hH.2.2.2.2.1,(og (w:=W1.drew) (a:=(af kb (n*4+3))) (hb2.block kb aeb)).trans hH.2.2.2.2.2.1,hH.2.2.2.2.2.2.trans hb2⟩
    clear hK K;refine tB 19 hH ?_;refine tB 20 hH ?_;refine tB 21 hH ?_;refine tB 22 hH ?_;refine tL ?_;refine bq yM ?_ _;have zO:=hid hH.2.2.2.2.2.2;have zz:=hH.2.2.2.2.2.1;have zc:=hH.2.2.2.1;clear hH hb2 zx cx ax nx ex dx;show wpList _ _ _ _ _ _;go_wp2
    go_roundw
    case rel=>
     obtain⟨h3,h4⟩:=zY.follow (HV.out.keeps (HW.out.trans (A5.zQ zO.out [])) (by simp)) hn HAB.out.2 c;exact⟨j+1,_,by omega,by go_num,Ba,h3,hid (HK.out.trans (((HW.out.trans (A5.zQ zO.out [])).mono (λk h=>by cases h)).trans h4))⟩
    case measure=>simp[intOf];omega
  ·have Ba:Hid (CJ m ps k=kj):=hid (by
    rw[HE.out.1,oc aaI];rfl)
   go_wp2
   go_end0
   exact⟨rfl,by rw[Ba.out];exact HV.out,HK.out⟩
end Go.Proofs.YtjjggdcnpndgjaaGreatDoor
