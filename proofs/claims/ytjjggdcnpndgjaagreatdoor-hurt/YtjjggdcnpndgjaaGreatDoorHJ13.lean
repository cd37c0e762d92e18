import Derived.Test.YtjjggdcnpndgjaaGreatDoorHJ12
import Derived.Laws.BitsAllLaws
set_option linter.unusedSimpArgs false
set_option maxHeartbeats 2000000
set_option maxRecDepth 100000
namespace Go.Proofs.YtjjggdcnpndgjaaGreatDoor
abbrev dn:=@Go.wp_region_held_drew
abbrev qi:=@Nat.one_shiftLeft
abbrev su:=@Nat.or_lt_two_pow
abbrev uq:=@Nat.testBit_or
abbrev wu:=@Nat.testBit_two_pow
abbrev yt:=@Nat.pow_lt_pow_right
abbrev yG:=@Nat.lt_of_le_of_lt
open Go.RowKit Go.Shelf
variable {N:NG}{f:Fa->Fa}{k k0:List Fa}{n:Nat}{r:Nat × List Pt}{w:World}
theorem ada {P:Prop} (h:P:=by
  rw[JF]
  by_cases h:n=m
  ·subst h
   by_cases hl:n<k.length
   ·rw[aq rfl,aq ⟨rfl,hl⟩,gE hl];rfl
   ·rw[aq rfl,au (λh=>hl h.2),dy (by omega)];rfl
  ·rw[au h,au (λe=>h e.1)]):P:=h
theorem YE (k:List Fa) (n m:Nat) (f:Fa->Fa):ET (k.modify n f) m=if n=m/\m<k.length then(k[m]?.map λa=>(f a).reached).getD false else ET k m:=by
 unfold ET;exact ada
theorem XQ (k:List Fa) (n m:Nat) (f:Fa->Fa):AL (k.modify n f) m=if n=m/\m<k.length then(k[m]?.map λa=>(f a).first).getD 0 else AL k m:=by
 unfold AL;exact ada
theorem QF (k:List Fa) (n m:Nat) (f:Fa->Fa):B1 (k.modify n f) m=if n=m/\m<k.length then(k[m]?.map λa=>(f a).follow).getD 0 else B1 k m:=by
 unfold B1;exact ada
theorem LH  (h:∀a,(f a).least=a.least) (m:Nat):AZ (k.modify n f) m=AZ k m:=by
 rw[QN];split
 ·unfold AZ;simp[h]
 ·rfl
theorem WJ  (h:∀a,(f a).reached=a.reached) (m:Nat):ET (k.modify n f) m=ET k m:=by
 rw[YE];split
 ·unfold ET;simp[h]
 ·rfl
theorem KL  (h:∀a,(f a).first=a.first) (m:Nat):AL (k.modify n f) m=AL k m:=by
 rw[XQ];split
 ·unfold AL;simp[h]
 ·rfl
theorem VW  (h:∀a,(f a).follow=a.follow) (m:Nat):B1 (k.modify n f) m=B1 k m:=by
 rw[QF];split
 ·unfold B1;simp[h]
 ·rfl
def Bzq (a:Fa):Fa:={a with reached:=true}
def DK (m:Nat):List Pt->List Fa->List Fa
 | [],k=>k
 | .tok _::ps,k=>DK m ps k
 | .yB n::ps,k=>DK m ps (if ET k m=true then k.modify n Bzq else k)
def GF (k:List Fa) (r:Nat × List Pt):List Fa:=DK r.1 r.2 k
def QQ (a:Fa):Nat:=if a.reached then 0 else 1
theorem ON (k:List Fa) (n m:Nat):ET (k.modify n Bzq) m=if n=m/\m<k.length then true else ET k m:=by
 rw[YE];split
 ·rename_i h
  rw[gE h.2];rfl
 ·rfl
theorem qO (k:List Fa) (n:Nat):k.modify n Bzq=k\/FV QQ (k.modify n Bzq)<FV QQ k:=NJ λa _=>by
 cases h:a.reached
 ·right;simp[QQ,Bzq,h]
 ·left;unfold Bzq;cases a;simp at h;simp[h]
theorem VQ (m:Nat):∀(ps:List Pt) (k:List Fa),(DK m ps k=k/\(ET k m=true->∀n,Pt.yB n∈ps->n<k.length->ET k n=true))\/FV QQ (DK m ps k)<FV QQ k:=by
 intro ps
 induction ps with
 |nil=>intro k;exact .inl ⟨rfl,λ_ n h=>by cases h⟩
 |cons p ps ih=>
  intro k;cases p with
  |tok t=>
   refine(ih k).imp (λh=>⟨h.1,λhm n hn hl=>h.2 hm n ?_ hl⟩) id
   rcases bh.1 hn with hn |hn
   ·cases hn
   ·exact hn
  |yB n=>
   unfold DK
   by_cases hm:ET k m=true
   ·rw[aq hm]
    rcases qO k n with h1 |h1
    ·rw[h1]
     refine(ih k).imp (λh=>⟨h.1,λhm n' hn hl=>?_⟩) id
     rcases bh.1 hn with hn |hn
     ·injection hn with hn
      subst hn;rw[<-h1,ON,aq ⟨rfl,hl⟩]
     ·exact h.2 hm n' hn hl
    ·rcases ih (k.modify n Bzq)with⟨h2,_⟩ |h2
     ·right;rw[h2];exact h1
     ·right;omega
   ·rw[au hm]
    exact(ih k).imp (λh=>⟨h.1,λh'=>absurd h' hm⟩) id
theorem eC (m:Nat):∀(ps:List Pt) (k:List Fa),(DK m ps k).length=k.length/\(∀n,AZ (DK m ps k) n=AZ k n)/\(∀n,AL (DK m ps k) n=AL k n)/\(∀n,B1 (DK m ps k) n=B1 k n)/\(∀n,ET k n=true->ET (DK m ps k) n=true):=by
 intro ps
 induction ps with
 |nil=>intro k;exact⟨rfl,λ_=>rfl,λ_=>rfl,λ_=>rfl,λ_ h=>h⟩
 |cons p ps ih=>
  intro k;cases p with
  |tok t=>exact ih k
  |yB n=>
   unfold DK;split
   ·obtain⟨h1,h2,h3,h4,h5⟩:=ih (k.modify n Bzq)
    refine⟨by rw[h1,qz],λq=>by rw[h2,LH (f:=Bzq) (λ_=>rfl)],λq=>by rw[h3,KL (f:=Bzq) (λ_=>rfl)],λq=>by rw[h4,VW (f:=Bzq) (λ_=>rfl)],λq hq=>h5 q ?_⟩;rw[ON];split
    ·rfl
    ·exact hq
   ·exact ih k
theorem cX {m:Nat}{T:Nat->Bool}:∀(ps:List Pt) (k:List Fa),(∀n,ET k n=true->T n=true)->(T m=true->∀n,Pt.yB n∈ps->T n=true)->∀n,ET (DK m ps k) n=true->T n=true:=by
 intro ps
 induction ps with
 |nil=>intro k h _ n hn;exact h n hn
 |cons p ps ih=>
  intro k h hp;cases p with
  |tok t=>exact ih k h (λhm n hn=>hp hm n (fj _ hn))
  |yB n=>
   unfold DK;refine ih _ (λq hq=>?_) (λhm n hn=>hp hm n (fj _ hn));split at hq
   ·rename_i hm
    rw[ON]at hq;split at hq
    ·rename_i h1
     rw[<-h1.1];exact hp (h m hm) n (eo ..)
    ·exact h q hq
   ·exact h q hq
structure K6 (N:NG) (k0 k:List Fa):Prop where
 len:k.length=N.nN
 fl:∀n,AZ k n=AZ k0 n
 fh:∀n,AL k n=AL k0 n
 fo:∀n,B1 k n=B1 k0 n
 z:ET k 0=true
 sound:∀T,VV N T->∀n,ET k n=true->T n=true
theorem aC  (h:K6 N k0 k)  (hr:r∈N.rules):(GF k r=k\/FV QQ (GF k r)<FV QQ k)/\K6 N k0 (GF k r):=by
 obtain⟨h1,h2,h3,h4,h5⟩:=eC r.1 r.2 k;exact⟨(VQ r.1 r.2 k).imp (λh=>h.1) id,by unfold GF;rw[h1];exact h.len,λn=>(h2 n).trans (h.fl n),λn=>(h3 n).trans (h.fh n),λn=>(h4 n).trans (h.fo n),h5 0 h.z,λT hT=>cX r.2 k (h.sound T hT) (λhm n hn=>hT.2 r hr hm n hn)⟩
theorem kC  (hN:N.Ok)  (h:K6 N k0 k) (hst:∀r∈N.rules,GF k r=k):Lq (VV N) (ET k):=by
 refine⟨⟨h.z,λr hr hm n hn=>?_⟩,h.sound⟩
 rcases VQ r.1 r.2 k with⟨_,h2⟩ |h2
 ·exact h2 hm n hn (by rw[h.len];exact hN.pn r hr n hn)
 ·have:=hst r hr
  unfold GF at this;rw[this]at h2;omega
theorem eM  (hN:N.Ok)  (hl:k0.length=N.nN) (h0:∀n,ET k0 n=false):K6 N k0 (k0.modify 0 Bzq) where
 len:=by rw[qz];exact hl
 fl:=LH (f:=Bzq) (λ_=>rfl)
 fh:=KL (f:=Bzq) (λ_=>rfl)
 fo:=VW (f:=Bzq) (λ_=>rfl)
 z:=by rw[ON,aq ⟨rfl,by rw[hl];exact hN.pos⟩]
 sound:=λT hT n hn=>by
  rw[ON]at hn;split at hn
  ·rename_i h;rw[<-h.1];exact hT.1
  ·rw[h0]at hn;cases hn
def zT (k:List Fa) (n:Nat):Bool:=decide (AZ k n=0)
def B4 (k:List Fa):List Pt->Nat->Nat × Bool
 | [],f=>(f,true)
 | .tok t::_,f=>(f|||1<<<t,false)
 | .yB n::ps,f=>if AZ k n=0 then B4 k ps (f|||AL k n)else(f|||AL k n,false)
theorem J8 (k:List Fa):∀(ps:List Pt) (f:Nat),(B4 k ps f).2=FE (zT k) ps/\∀t,(B4 k ps f).1.testBit t=(f.testBit t||DQ (zT k) (λn=>(AL k n).testBit t) t ps)
 | [],f=>⟨rfl,λt=>by simp[B4,DQ]⟩
 | .tok u::ps,f=>⟨rfl,λt=>by
   simp only[B4,DQ,uq,qi,wu]
   congr 1⟩
 | .yB n::ps,f=>by
  simp only[B4]
  by_cases h:AZ k n=0
  ·rw[aq h]
   obtain⟨h1,h2⟩:=J8 k ps (f|||AL k n);refine⟨by rw[h1];simp[FE,zT,h],λt=>?_⟩;rw[h2];simp[DQ,zT,h,uq,Bool.or_assoc]
  ·rw[au h]
   refine⟨by simp[FE,zT,h],λt=>?_⟩;simp[DQ,zT,h,uq]
theorem KV {N:NG} (hT:N.nT<=20) {k:List Fa} (hk:∀n,AL k n<2 ^21):∀(ps:List Pt) (f:Nat),B3 N ps->f<2 ^21->(B4 k ps f).1<2 ^21
 | [],f,_,h=>h
 | .tok t::ps,f,hp,h=>by
  simp only[B4];refine su h ?_;rw[qi];exact yt (by omega) (by have:=hp.2 t (eo ..);omega)
 | .yB n::ps,f,hp,h=>by
  simp only[B4];have h1:=su h (hk n);split
  ·exact KV hT hk ps _ hp.tail h1
  ·exact h1
def EE (k:List Fa) (r:Nat × List Pt):List Fa:=k.modify r.1 λa=>{a with first:=a.first||| (B4 k r.2 0).1}
structure IA (N:NG) (k0 k:List Fa):Prop where
 len:k.length=N.nN
 fl:∀n,AZ k n=AZ k0 n
 fr:∀n,ET k n=ET k0 n
 fo:∀n,B1 k n=B1 k0 n
 lt:∀n,AL k n<2 ^21
 sound:∀t T,WE N (zT k0) t T->∀n,(AL k n).testBit t=true->T n=true
def ZF (a:Fa):Nat:=2 ^21 - a.first
def NF (a:Fa):Nat:=2 ^21 - a.follow
theorem jI (k:List Fa) (n m x:Nat):AL (k.modify n λa=>{a with first:=a.first|||x}) m=if n=m/\m<k.length then AL k m|||x else AL k m:=by
 rw[XQ];split
 ·rename_i h
  unfold AL;rw[gE h.2];rfl
 ·rfl
theorem xA (k:List Fa) (n m x:Nat):B1 (k.modify n λa=>{a with follow:=a.follow|||x}) m=if n=m/\m<k.length then B1 k m|||x else B1 k m:=by
 rw[QF];split
 ·rename_i h
  unfold B1;rw[gE h.2];rfl
 ·rfl
theorem bH  (hN:N.Ok) (hT:N.nT<=20)  (h:IA N k0 k)  (hr:r∈N.rules):(EE k r=k\/FV ZF (EE k r)<FV ZF k)/\IA N k0 (EE k r):=by
 have hb:=KV hT h.lt r.2 0 (hN.ps hr) (by decide);have hem:zT k=zT k0:=by funext n;unfold zT;rw[h.fl]
 refine⟨NJ λa ha=>?_,by unfold EE;rw[qz];exact h.len,λn=>(LH (f:=λa=>{a with first:=a.first||| (B4 k r.2 0).1}) (λ_=>rfl) n).trans (h.fl n),λn=>(WJ (f:=λa=>{a with first:=a.first||| (B4 k r.2 0).1}) (λ_=>rfl) n).trans (h.fr n),λn=>(VW (f:=λa=>{a with first:=a.first||| (B4 k r.2 0).1}) (λ_=>rfl) n).trans (h.fo n),λn=>?_,λt T hC n hn=>?_⟩
 ·have ha2:a.first<2 ^21:=by
   have:=h.lt r.1;unfold AL at this;rw[ha]at this;exact this
  have hle:a.first<=a.first||| (B4 k r.2 0).1:=Nat.left_le_or;have hlt:=su ha2 hb
  by_cases he:a.first||| (B4 k r.2 0).1=a.first
  ·left;rw[he]
  ·right;unfold ZF;simp only;omega
 ·unfold EE
  rw[jI];split
  ·exact su (h.lt n) hb
  ·exact h.lt n
 ·unfold EE at hn
  rw[jI]at hn;split at hn
  ·rename_i h1
   rw[uq,oa]at hn
   rcases hn with hn |hn
   ·exact h.sound t T hC n hn
   ·rw[(J8 k r.2 0).2 t,Nat.zero_testBit,yO,hem]at hn
    rw[<-h1.1];exact hC r hr (QG (λm hm=>h.sound t T hC m hm) _ hn)
  ·exact h.sound t T hC n hn
theorem jL  (hN:N.Ok)  (h:IA N k0 k) (hst:∀r∈N.rules,EE k r=k) (t:Nat):Lq (WE N (zT k0) t) (λn=>(AL k n).testBit t):=by
 refine⟨λr hr hb=>?_,h.sound t⟩;have hem:zT k=zT k0:=by funext n;unfold zT;rw[h.fl]
 have h1:=congrArg (λq=>(AL q r.1).testBit t) (hst r hr);simp only[EE]at h1;rw[jI,aq ⟨rfl,by rw[h.len];exact hN.lt r hr⟩,uq,(J8 k r.2 0).2 t,hem,hb]at h1;simpa using h1.symm
theorem eP  (hl:k0.length=N.nN) (h0:∀n,AL k0 n=0):IA N k0 k0 where
 len:=hl
 fl:=λ_=>rfl
 fr:=λ_=>rfl
 fo:=λ_=>rfl
 lt:=λn=>by rw[h0];decide
 sound:=λt T _ n hn=>by rw[h0]at hn;simp at hn
def DU (k:List Fa) (ps:List Pt) (fo:Nat):Nat:=if(B4 k ps 0).2=true then(B4 k ps 0).1|||fo else(B4 k ps 0).1
theorem JR (k:List Fa) (ps:List Pt) (fo t:Nat):(DU k ps fo).testBit t=(DQ (zT k) (λn=>(AL k n).testBit t) t ps||(FE (zT k) ps&&fo.testBit t)):=by
 obtain⟨h1,h2⟩:=J8 k ps 0;unfold DU;rw[h1];cases hb:FE (zT k) ps
 ·simp[h2]
 ·simp[h2]
theorem RM  (hT:N.nT<=20)  (hk:∀n,AL k n<2 ^21) {ps:List Pt} (hp:B3 N ps) {fo:Nat} (hf:fo<2 ^21):DU k ps fo<2 ^21:=by
 have h1:=KV hT hk ps 0 hp (by decide);unfold DU;split
 ·exact su h1 hf
 ·exact h1
def Du (x:Nat) (a:Fa):Fa:={a with follow:=a.follow|||x}
theorem UE (k:List Fa) (n m x:Nat):B1 (k.modify n (Du x)) m=if n=m/\m<k.length then B1 k m|||x else B1 k m:=xA k n m x
def BT (m:Nat):List Pt->List Fa->List Fa
 | [],k=>k
 | .tok _::ps,k=>BT m ps k
 | .yB n::ps,k=>BT m ps (k.modify n (Du (DU k ps (B1 k m))))
def EP (k:List Fa) (r:Nat × List Pt):List Fa:=BT r.1 r.2 k
theorem aW (m:Nat):∀(ps:List Pt) (k:List Fa),(BT m ps k).length=k.length/\(∀n,AZ (BT m ps k) n=AZ k n)/\(∀n,ET (BT m ps k) n=ET k n)/\(∀n,AL (BT m ps k) n=AL k n):=by
 intro ps
 induction ps with
 |nil=>intro k;exact⟨rfl,λ_=>rfl,λ_=>rfl,λ_=>rfl⟩
 |cons p ps ih=>
  intro k;cases p with
  |tok t=>exact ih k
  |yB n=>
   unfold BT;obtain⟨h1,h2,h3,h4⟩:=ih (k.modify n (Du (DU k ps (B1 k m))));exact⟨by rw[h1,qz],λq=>by rw[h2,LH (f:=Du _) (λ_=>rfl)],λq=>by rw[h3,WJ (f:=Du _) (λ_=>rfl)],λq=>by rw[h4,KL (f:=Du _) (λ_=>rfl)]⟩
theorem o9  (hT:N.nT<=20)  (hh:∀n,AL k n<2 ^21) (ho:∀n,B1 k n<2 ^21) {ps:List Pt} (hp:B3 N ps) (m n:Nat):
  (k.modify n (Du (DU k ps (B1 k m)))=k\/FV NF (k.modify n (Du (DU k ps (B1 k m))))<FV NF k)/\∀q,B1 (k.modify n (Du (DU k ps (B1 k m)))) q<2 ^21:=by
 have hb:=RM hT hh hp (ho m);refine⟨NJ λa ha=>?_,λq=>?_⟩
 ·have ha2:a.follow<2 ^21:=by
   have:=ho n;unfold B1 at this;rw[ha]at this;exact this
  have hle:a.follow<=a.follow|||DU k ps (B1 k m):=Nat.left_le_or;have hlt:=su ha2 hb
  by_cases he:a.follow|||DU k ps (B1 k m)=a.follow
  ·left;unfold Du;rw[he]
  ·right;unfold NF Du;simp only;omega
 ·rw[UE]
  split
  ·exact su (ho q) hb
  ·exact ho q
theorem SN  (hT:N.nT<=20) (m:Nat):∀(ps:List Pt) (k:List Fa),B3 N ps->(∀n,AL k n<2 ^21)->(∀n,B1 k n<2 ^21)->
  ((BT m ps k=k/\∀pre n post,ps=pre++Pt.yB n::post->n<k.length->B1 k n|||DU k post (B1 k m)=B1 k n)\/FV NF (BT m ps k)<FV NF k)/\∀n,B1 (BT m ps k) n<2 ^21:=by
 intro ps
 induction ps with
 |nil=>intro k _ _ ho;exact⟨.inl ⟨rfl,λpre n post h=>by simp at h⟩,ho⟩
 |cons p ps ih=>
  intro k hp hh ho;cases p with
  |tok t=>
   obtain⟨h1,h2⟩:=ih k hp.tail hh ho;refine⟨h1.imp (λh=>⟨h.1,λpre n post e hl=>?_⟩) id,h2⟩;cases pre with
   |nil=>simp at e
   |cons q pre=>exact h.2 pre n post (by simpa using (yK e).2) hl
  |yB n=>
   unfold BT;obtain⟨h3,h4⟩:=o9 hT hh ho hp.tail m n;have hh':∀q,AL (k.modify n (Du (DU k ps (B1 k m)))) q<2 ^21:=λq=>by rw[KL (f:=Du _) (λ_=>rfl)];exact hh q
   obtain⟨h1,h2⟩:=ih _ hp.tail hh' h4;refine⟨?_,h2⟩
   rcases h3 with h3 |h3
   ·rw[h3]at h1 ⊢
    refine h1.imp (λh=>⟨h.1,λpre n' post e hl=>?_⟩) id;cases pre with
    |nil=>
     have e1:=yK e;obtain⟨e1,e2⟩:=e1;injection e1 with e1
     subst e1;subst e2;have h5:=congrArg (λq=>B1 q n) h3;rw[UE,aq ⟨rfl,hl⟩]at h5;exact h5
    |cons q pre=>exact h.2 pre n' post (by simpa using (yK e).2) hl
   ·rcases h1 with⟨h1,_⟩ |h1
    ·right;rw[h1];exact h3
    ·right;omega
theorem gV (m:Nat) (t:Nat):∀(ps:List Pt) (k:List Fa) (n:Nat),(B1 k n).testBit t=true->(B1 (BT m ps k) n).testBit t=true:=by
 intro ps
 induction ps with
 |nil=>intro k n h;exact h
 |cons p ps ih=>
  intro k n h;cases p with
  |tok u=>exact ih k n h
  |yB q=>
   unfold BT;refine ih _ n ?_;rw[UE];split
   ·rw[uq,h];rfl
   ·exact h
theorem Z0 {m t:Nat}{E H T:Nat->Bool}:∀(ps:List Pt) (k:List Fa),zT k=E->(λn=>(AL k n).testBit t)=H->(∀n,(B1 k n).testBit t=true->T n=true)->
  (∀pre n post,ps=pre++Pt.yB n::post->(DQ E H t post||(FE E post&&T m))=true->T n=true)->∀n,(B1 (BT m ps k) n).testBit t=true->T n=true:=by
 intro ps
 induction ps with
 |nil=>intro k _ _ h _ n hn;exact h n hn
 |cons p ps ih=>
  intro k hE hH h hp;have hp':∀pre n post,ps=pre++Pt.yB n::post->(DQ E H t post||(FE E post&&T m))=true->T n=true:=λpre n post e=>hp (p::pre) n post aab
  cases p with
  |tok u=>exact ih k hE hH h hp'
  |yB n=>
   unfold BT;refine ih _ ?_ ?_ (λq hq=>?_) hp'
   ·rw[<-hE];funext q;unfold zT;rw[LH (f:=Du _) (λ_=>rfl)]
   ·rw[<-hH];funext q;rw[KL (f:=Du _) (λ_=>rfl)]
   ·rw[UE]at hq
    split at hq
    ·rename_i h1
     rw[uq,oa]at hq
     rcases hq with hq |hq
     ·exact h q hq
     ·rw[JR,hE,hH]at hq
      rw[<-h1.1];refine hp [] n ps rfl ?_;simp only[oa,fu]at hq ⊢;exact hq.imp id (λhq=>⟨hq.1,h m hq.2⟩)
    ·exact h q hq
structure FD (N:NG) (k0 k:List Fa):Prop where
 len:k.length=N.nN
 fl:∀n,AZ k n=AZ k0 n
 fr:∀n,ET k n=ET k0 n
 fh:∀n,AL k n=AL k0 n
 hlt:∀n,AL k n<2 ^21
 lt:∀n,B1 k n<2 ^21
 z:(B1 k 0).testBit N.nT=true
 sound:∀t T,WY N (zT k0) (λn=>(AL k0 n).testBit t) t T->∀n,(B1 k n).testBit t=true->T n=true
theorem MT  (h:∀n,AZ k n=AZ k0 n):zT k=zT k0:=by funext n;unfold zT;rw[h]
theorem YT  (hN:N.Ok) (hT:N.nT<=20)  (h:FD N k0 k)  (hr:r∈N.rules):(EP k r=k\/FV NF (EP k r)<FV NF k)/\FD N k0 (EP k r):=by
 obtain⟨h1,h2⟩:=SN hT r.1 r.2 k (hN.ps hr) h.hlt h.lt;obtain⟨h3,h4,h5,h6⟩:=aW r.1 r.2 k;exact⟨h1.imp (λh=>h.1) id,by unfold EP;rw[h3];exact h.len,λn=>(h4 n).trans (h.fl n),λn=>(h5 n).trans (h.fr n),λn=>(h6 n).trans (h.fh n),λn=>(by show AL (BT r.1 r.2 k) n<_;rw[h6];exact h.hlt n),h2,gV _ _ _ _ _ h.z,
  λt T hC=>Z0 r.2 k (MT h.fl) (by funext n;rw[h.fh]) (h.sound t T hC) (λpre n post e he=>hC.2 r hr pre n post e he)⟩
theorem dU  (hN:N.Ok) (hT:N.nT<=20)  (h:FD N k0 k) (hst:∀r∈N.rules,EP k r=k) (t:Nat):Lq (WY N (zT k0) (λn=>(AL k0 n).testBit t) t) (λn=>(B1 k n).testBit t):=by
 refine⟨⟨λe=>by rw[e];exact h.z,λr hr pre n post e he=>?_⟩,h.sound t⟩;obtain⟨h1,_⟩:=SN hT r.1 r.2 k (hN.ps hr) h.hlt h.lt
 rcases h1 with⟨_,h2⟩ |h2
 ·have hn:n<k.length:=by rw[h.len];exact hN.pn r hr n Ld
  have h3:=congrArg (λx=>x.testBit t) (h2 pre n post e hn);rw[uq,JR,MT h.fl,show(λn=>(AL k n).testBit t)=(λn=>(AL k0 n).testBit t) from by funext q;rw[h.fh],he]at h3;simpa using h3.symm
 ·have:=hst r hr
  unfold EP at this;rw[this]at h2;omega
theorem bJ  (hN:N.Ok) (hT:N.nT<=20)  (hl:k0.length=N.nN) (hh:∀n,AL k0 n<2 ^21) (h0:∀n,B1 k0 n=0):FD N k0 (k0.modify 0 λa=>{a with follow:=1<<<N.nT}):=by
 have hp:(1:Nat)<<<N.nT<2 ^21:=by rw[qi];exact yt (by omega) (by omega)
 have ho:∀n,B1 (k0.modify 0 λa=>{a with follow:=1<<<N.nT}) n=if 0=n/\n<k0.length then 1<<<N.nT else 0:=λn=>by
  rw[QF];split
  ·rename_i h1
   rw[gE h1.2];rfl
  ·exact h0 n
 refine⟨by rw[qz];exact hl,LH (λ_=>rfl),WJ (λ_=>rfl),KL (λ_=>rfl),λn=>by rw[KL (f:=λa=>{a with follow:=1<<<N.nT}) (λ_=>rfl)];exact hh n,λn=>?_,?_,λt T hC n hn=>?_⟩
 ·rw[ho]
  split
  ·exact hp
  ·decide
 ·rw[ho,aq ⟨rfl,by rw[hl];exact hN.pos⟩,qi,wu];simp
 ·rw[ho]at hn
  split at hn
  ·rename_i h1
   rw[qi,wu]at hn;rw[<-h1.1];exact hC.1 (kf hn).symm
  ·simp at hn
theorem afk {P:Prop} (h:P:=by
  go_wp2
  go_roundw
  case rel=>exact⟨j+1,kj,by omega,by go_num,zN,hid (HV.out.keeps ((A1.refl _ []).alloc _) (by simp)),hid (HK.out.alloc _)⟩
  case measure=>simp[intOf];omega):P:=h
theorem jW (w:World) (n₀ fb kb:Nat) (N:NG) (yL:List ByteArray) (pg:List Nm) (yu:Option Addr) (yl gN xY:Nat) (k:List Fa) (h:zK w n₀ fb kb N yL pg yu yl gN xY k)
  (Bx:Nat) (Ni:w.cell? (af Bx 0)=some (ac fb)) (hBk:Bx≠kb) (v:Value) (r:Nat × List Pt) (hr:r∈N.rules) (hv:C0 w n₀ v r.2):
  Calls Tryz.prog 156 #[.pointer (some (af kb (r.1*4))),v,ac Bx] w λe w'=>e=.returned (.tuple #[])/\y8 w' kb N.nN (GF k r)/\A1 w w' [kb]:=by
 obtain⟨m,ps⟩:=r;have hm:m<N.nN:=h.gr.ok.lt _ hr;simp only at hv ⊢;have hps:B3 N ps:=h.gr.ok.ps hr;have hlen:ps.length<=8:=h.gr.ok.parts _ hr;have y7:=h.kn.lt;have hfw:=h.lf;have hne:=h.ne;have Ad:=h.ln;have hnk:=h.n0;have h2:=h.f2;have hBw:Bx<w.heap.size:=bq w _ Ni;obtain⟨ad,cap,rfl,hcap,hcs⟩:=hv;obtain⟨L,hL⟩:=qF (ps.length);rw[<-hL]at hcap hcs hlen ⊢;obtain⟨nN,hn1⟩:=qF (N.nN);have zU:=h.gr.Bt;have hkn:=h.kn;rw[<-hn1]at h2 hm zU hkn ⊢;have HN:Hid (nN=N.nN):=hid hn1;have HKN:Hid (y8 w kb nN k):=hid hkn;have HL:Hid (L=ps.length):=hid hL;have HC:=hid hcs;have HP:Hid (B3 N ps):=hid hps;have zv:Hid (w.cell? (af Bx 0)=some (ac fb)):=hid Ni;have HF0:Hid (w.cell? (af fb 2)=some (ae kb nN nN)):=hid h2;clear h hr hL hcs hps hn1 hkn Ni h2;show Calls _ _ _ _ λe w'=>e=.returned (.tuple #[])/\y8 w' kb nN (DK m ps k)/\A1 w w' [kb]
 go_enter Tryz.func156,Tryz.ntmps156
 go_wp2
 go_loopw [9] (λi wr=>∃(j:Nat) (kj:List Fa),j<=L/\i=ab j/\Hid (DK m ps k=DK m (ps.drop j) kj)/\Hid (y8 wr kb nN kj)/\Hid (A1 w wr [kb])) (λi _=>L - (intOf i).toNat)
 case atStart=>exact⟨0,k,bu _,rfl,rfl,HKN,A1.refl _ _⟩
 case round=>
  obtain⟨j,kj,hj,rfl,HE,HV,HK⟩:=hrel
  by_cases hlt:j<L
  ·obtain⟨p,hp⟩:∃p,ps[j]?=some p:=⟨_,gE Zs⟩
   obtain⟨g,off,rfl,hg,hcl⟩:=HC.out (by omega);have Tq:=HK.out.size;have Hl:g<wr.heap.size:=by omega
   have Nk:g∉ [kb]:=by simp;omega
   have p0:=(HK.out.cell (p:=(af g (off+j*2))) Hj Nk).trans (hcl j p hp).1;have p1:=(HK.out.cell (p:=(af g (off+j*2+1))) Hj Nk).trans (hcl j p hp).2;have bx:=(HK.out.cell (p:=(af Bx 0)) (by exact hBw) (by simpa using hBk)).trans zv.out;have fx:=(HK.out.cell (p:=(af fb 2)) (by exact hfw) aaB).trans HF0.out;have Ae:=HP.out.at hp;have HD:Hid (ps.drop j=p::ps.drop (j+1)):=hid (RW hp);obtain⟨a,ha⟩:∃a,kj[m]?=some a:=⟨_,gE (by rw[HV.out.1];exact hm)⟩;have c1:=(HV.out.cells ha).2.1;clear hcl hp;cases p with
   |tok t=>
    simp only[AQ,AP]at p0 p1;have zN:Hid (DK m ps k=DK m (ps.drop (j+1)) kj):=hid (by rw[HE.out,HD.out];rfl);clear Ae ha;exact afk
   |yB n=>
    simp only[AQ,AP]at p0 p1;have hn:n<nN:=by rw[HN.out];exact Ae
    have Kl:=sR ha;obtain⟨b,hb⟩:∃b,kj[n]?=some b:=⟨_,gE (by rw[HV.out.1];exact hn)⟩;have cb:=(HV.out.cells hb).2.1;have fz:=HV.out.free (n*4+1);have hkr:=HV.out.lt;cases Bb:a.reached
    ·rw[Bb]at c1 Kl
     have zN:Hid (DK m ps k=DK m (ps.drop (j+1)) kj):=hid (by rw[HE.out,HD.out];simp only[DK];rw[au (by rw[Kl];decide)]);clear Ae ha Kl hb;exact afk
    ·rw[Bb]at c1 Kl
     have zN:Hid (DK m ps k=DK m (ps.drop (j+1)) (kj.modify n Bzq)):=hid (by rw[HE.out,HD.out];simp only[DK];rw[aq Kl]);clear Ae ha Kl hb;go_wp2;have dx:=A2 (.cells #[.bool true,ab n] 235) bx;have ex:=A2 (.cells #[.bool true,ab n] 235) fx;have nx:=BF wr #[.bool true,ab n] 235 1;have cx:=A2 (.cells #[.bool true,ab n] 235) cb;have zx:(wr.alloc (.cells #[.bool true,ab n] 235)).frozen? (af kb (n*4+1))=false:=(ni (w:=wr) (dm wr _ kb hkr)).trans fz;have HW:Hid (A1 wr (wr.alloc (.cells #[.bool true,ab n] 235)) []):=hid ((A1.refl _ _).alloc _);obtain⟨W1,hW1⟩:=qE (wr.alloc (.cells #[.bool true,ab n] 235));rw[hW1]at dx ex nx cx zx HW ⊢;clear hW1 bx fx cb fz c1 p0 p1;refine AE (λw'=>w'.cell? (af Bx 0)=some (ac fb)/\w'.cell? (af fb 2)=some (ae kb nN nN)/\w'.cell? (af wr.heap.size 1)=some (ab n)) yg yg ⟨dx,ex,nx⟩ (λhH=>?_);simp only[AB,BM,AO]
     refine tB 0 hH ?_;refine tB 1 hH ?_;refine tB 2 hH ?_;refine tB 3 hH ?_;refine tB 4 hH ?_;refine tB 5 hH ?_;refine tB 6 hH ?_;refine tB 7 hH ?_;refine tB 8 hH ?_;refine tL ?_;refine bk yg ?_ _;clear hH;show wpList _ _ _ _ _ _;go_wp2
     go_roundw
     case rel=>
      obtain⟨h3,h4⟩:=(HV.out.keeps (HW.out.drew) (by simp)).put hn Bzq 1 (by omega) (.bool true) (λa _=>rfl);exact⟨j+1,_,by omega,by go_num,zN,h3,hid (HK.out.trans ((HW.out.drew.mono (λk h=>by cases h)).trans h4))⟩
     case measure=>simp[intOf];omega
  ·have zN:Hid (DK m ps k=kj):=hid (by
    rw[HE.out,nh Zv];rfl)
   go_wp2
   go_end0
   exact⟨rfl,by rw[zN.out];exact HV.out,HK.out⟩
theorem ND (w:World) (n₀ fb kb:Nat) (N:NG) (yL:List ByteArray) (pg:List Nm) (yu:Option Addr) (yl gN xY:Nat) (k0:List Fa) (h:zK w n₀ fb kb N yL pg yu yl gN xY k0) (h0:∀n,ET k0 n=false):
  Calls Tryz.prog 107 #[ac fb] w λe w'=>e=.returned (.tuple #[])/\A1 w w' [kb]/\∃k,K6 N k0 k/\(∀r∈N.rules,GF k r=k)/\y8 w' kb N.nN k:=by
 have hlf:=h.lf;have h2:=h.f2;have yY:=h.gr.Bt;have hkb:=h.kn.lt;have hne:=h.ne;have hpos:=h.gr.ok.pos;obtain⟨a,ha⟩:∃a,k0[0]?=some a:=⟨_,gE (by rw[h.kn.1];exact hpos)⟩;have c1:w.cell? (af kb 1)=some (.bool a.reached):=by have:=(h.kn.cells ha).2.1;simpa using this
 have fz:w.frozen? (af kb 1)=false:=h.kn.free 1;have H:=hid h;obtain⟨nN,hn1⟩:=qF (N.nN);rw[<-hn1]at h2 yY hpos;have HN:Hid (nN=N.nN):=hid hn1;have H0:=hid h0;clear h hn1 ha h0;obtain⟨W1,hW1⟩:=qE ((w.alloc (.cells #[ac fb] 212)).setCell (af kb 1) (.bool true));obtain⟨h3,h4⟩:=(H.out.kn.keeps ((A1.refl w []).alloc (.cells #[ac fb] 212)) (by simp)).put H.out.gr.ok.pos Bzq 1 (by omega) (.bool true) (λa _=>rfl);rw[Nat.zero_mul,jl,hW1]at h3 h4;have Nl:A1 w W1 [kb]:=((A1.refl w [kb]).alloc _).trans h4;have hb:W1.cell? (af w.heap.size 0)=some (ac fb):=(h4.cell (by simp) yM).trans (GL w _ _);have Nj:w.heap.size<W1.heap.size:=bq W1 _ hb;have hX:=H.out.keeps Nl h3;have CS:=ML N yL pg yu yl gN xY kb fb n₀ W1 hX.gr hX.n0 hX.lf hX.ne hX.ln hX.f0 hX.f1 hX.f2 156 #[ac w.heap.size] (qo Tryz.func156 yg rfl)
  GF (FV QQ) (K6 N k0) (λk hk r hr=>aC hk hr)
  (λW k r v hW hk hI hr hv=>jW W n₀ fb kb N yL pg yu yl gN xY k (hX.keeps hW hk) w.heap.size ((hW.cell (by exact Nj) Zn).trans hb) (by omega) v r hr hv)
  hX.gr.ok.pos (k0.modify 0 Bzq) hX.kn (eM hX.gr.ok H.out.kn.1 H0.out)
 have Bw:=hid CS;have Aa:=hid Nl;clear CS hX Nl h3 h4
 go_enter Tryz.func107,Tryz.ntmps107
 have h1:(0:Int)<nN:=by omega
 go_wp2_with (first
  | (rw[hW1];go_at_call 153;refine Bw.out.mono ?_;rintro e w2 ⟨rfl,hk2,hr2⟩;have HR:=hid (And.intro hk2 hr2);clear hk2 hr2)
  | (go_at_call 153;refine Bw.out.mono ?_;rintro e w2 ⟨rfl,hk2,hr2⟩;have HR:=hid (And.intro hk2 hr2);clear hk2 hr2))
 go_end0
 exact⟨rfl,Aa.out.trans HR.out.1,HR.out.2⟩
theorem TV (w:World) (t:Nat) (ht:t<=20):Calls Tryz.prog 163 #[ab t] w λe w'=>e=.returned (.int .u32 ((1<<<t:Nat):Int))/\w=w':=by
 go_enter Tryz.func163,Tryz.ntmps163
 go_wp2;go_ret;refine⟨?_,rfl⟩;have h:(2:Nat) ^t<4294967296:=yG (ox (by omega) ht) (by decide);have h2:(2:Int) ^t % 4294967296=(((2:Nat) ^t:Nat):Int):=by
  rw[Int.natCast_pow];refine Int.emod_eq_of_lt (Int.pow_nonneg (show(0:Int)<=2 by decide)) ?_;have h2:(((2:Nat) ^t:Nat):Int)<4294967296:=by omega
  rw[Int.natCast_pow]at h2;exact h2
 rw[qi,<-h2];rfl
theorem cK (w:World) (a:Int) (b:Bool) (c d:Int):Calls Tryz.prog 111 #[.agg #[ab a,.bool b,.int .u32 c,.int .u32 d]] w λe w'=>e=.returned (.bool (a==0))/\Below w.heap.size w w':=by
 go_enter Tryz.func111,Tryz.ntmps111
 go_wp2;go_ret;exact⟨rfl,(ah _ _).alloc (yF _) _⟩
theorem QW {a b:Nat} (ha:a<2 ^21) (hb:b<2 ^21):bits .or .u32 (a:Int) (b:Int)=((a|||b:Nat):Int):=u32_or_nat a b (by omega) (by omega)
theorem pA {t:Nat} (h:t<=20):(1:Nat)<<<t<2 ^21:=by rw[qi];exact yt (by omega) (by omega)
theorem zl {X:World}{o:Obj} (h:Below w.heap.size w X):Below w.heap.size w (X.alloc o):=h.alloc h.size _
theorem Af {X:World} (h:Below w.heap.size w X):Below w.heap.size w X.drew:=⟨h.os,h.tape,h.output,h.size,h.block⟩
def E6 (k:List Fa):Pt->Nat × Bool
 | .tok t=>(1<<<t,false)
 | .yB n=>(AL k n,zT k n)
theorem YI  (hT:N.nT<=20)  (hf:∀n,AL k n<2 ^21) {p:Pt} (hp:J5 N p):(E6 k p).1<2 ^21:=by
 cases p with
 |tok t=>have:t<N.nT:=hp;exact pA (by omega)
 |yB n=>exact hf n
theorem ZX (k:List Fa) (p:Pt) (ps:List Pt) (f:Nat):B4 k (p::ps) f=if(E6 k p).2=true then B4 k ps (f||| (E6 k p).1)else(f||| (E6 k p).1,false):=by
 cases p with
 |tok t=>rfl
 |yB n=>
  simp only[B4,E6,zT,ia]
theorem UG (w:World) (n₀ fb kb:Nat) (N:NG) (yL:List ByteArray) (pg:List Nm) (yu:Option Addr) (yl gN xY:Nat) (k:List Fa) (h:zK w n₀ fb kb N yL pg yu yl gN xY k) (p:Pt) (hp:J5 N p):
  Calls Tryz.prog 198 #[ac fb,.agg #[.bool (AQ p),ab (AP p)]] w λe w'=>e=.returned (.tuple #[.int .u32 (E6 k p).1,.bool (E6 k p).2])/\Below w.heap.size w w':=by
 have Ad:=h.ln;have hlf:=h.lf;have y7:=h.kn.lt;have Cj:=h.gr.Aj;have zU:=h.gr.Bt;cases p with
 |tok t=>
  have ht:t<N.nT:=hp;have CO:=TV (w.alloc (.cells #[.bool false,ab t] 235)) t (by omega);obtain⟨x,hx⟩:∃x:Nat,1<<<t=x:=⟨_,rfl⟩;have HX:Hid (E6 k (.tok t)=(x,false)):=hid (by rw[<-hx];rfl);rw[hx]at CO;simp only[AQ,AP];clear h hp hx
  go_enter Tryz.func198,Tryz.ntmps198
  go_wp2_with (go_at_call 163;refine CO.mono ?_;rintro e w2 ⟨rfl,rfl⟩;clear CO)
  go_ret2
  exact⟨by rw[HX.out];rfl,zl (ah _ _)⟩
 |yB n=>
  have hn:n<N.nN:=hp;have fx:=h.f2;obtain⟨a,ha⟩:∃a,k[n]?=some a:=⟨_,gE (by rw[h.kn.1];exact hn)⟩;obtain⟨c0,c1,c2,c3⟩:=h.kn.cells ha;have HX:Hid (E6 k (.yB n)=(a.first,(a.least:Int)==0)):=hid (by
   show(AL k n,zT k n)=_;unfold zT;rw[ZC ha,kJ ha]
   congr 1
   rw[og];simp)
  obtain⟨nN,hn1⟩:=qF (N.nN);rw[<-hn1]at fx zU hn;simp only[AQ,AP];clear h hp ha hn1
  go_enter Tryz.func198,Tryz.ntmps198
  go_wp2;refine AE (λw'=>w'.cell? (af fb 2)=some (ae kb nN nN)/\w'.cell? (af w.heap.size 1)=some (ab n)/\w'.cell? (af kb (n*4))=some (ab a.least)/\w'.cell? (af kb (n*4+1))=some (.bool a.reached)/\w'.cell? (af kb (n*4+2))=some (.int .u32 a.first)/\w'.cell? (af kb (n*4+3))=some (.int .u32 a.follow)) yg yg ⟨A2 _ fx,BF _ _ _ 1,A2 _ c0,A2 _ c1,A2 _ c2,A2 _ c3⟩ (λhH=>?_);simp only[AB,BM,AO];refine tB 0 hH ?_;refine tB 1 hH ?_;refine tB 2 hH ?_;refine tB 3 hH ?_;refine tB 4 hH ?_;refine tB 5 hH ?_;refine tB 6 hH ?_;refine tB 7 hH ?_;refine tL ?_;refine tS 8 λK hK=>?_
  refine tM ?_;go_simp;refine hK.out _ _ ?_ λhH=>?_
  ·go_keep
  clear hK K;refine tB 9 hH ?_;refine tL ?_;refine bk yg ?_ _;clear hH;show wpList _ _ _ _ _ _;go_wp2;obtain⟨W2,hW2⟩:=qE (((w.alloc (.cells #[.bool true,ab n] 235)).alloc (.cells #[ab a.least,.bool a.reached,.int .u32 a.first,.int .u32 a.follow] 216)).drew);have dd:∀j:Nat,W2.cell? (af (w.heap.size+1) j)=(#[ab a.least,.bool a.reached,.int .u32 a.first,.int .u32 a.follow]:Array Value)[j]?:=λj=>by
   rw[<-hW2];have h1:=BF (w.alloc (.cells #[.bool true,ab n] 235)) #[ab a.least,.bool a.reached,.int .u32 a.first,.int .u32 a.follow] 216 j;rw[bg]at h1;exact h1
  have d0:W2.cell? (af (w.heap.size+1) 0)=some (ab a.least):=dd 0;have d1:W2.cell? (af (w.heap.size+1) 1)=some (.bool a.reached):=dd 1;have d2:W2.cell? (af (w.heap.size+1) 2)=some (.int .u32 a.first):=dd 2;have d3:W2.cell? (af (w.heap.size+1) 3)=some (.int .u32 a.follow):=dd 3;have ab1:Below w.heap.size w W2:=by rw[<-hW2];exact Af (zl (zl (ah _ _)))
  have ab2:w.heap.size+1<W2.heap.size:=bq _ _ d0;rw[hW2];clear hW2 dd c0 c1 c2 c3 fx;refine dn (S:=λw'=>w'.cell? (af (w.heap.size+1) 0)=some (ab a.least)/\w'.cell? (af (w.heap.size+1) 1)=some (.bool a.reached)/\w'.cell? (af (w.heap.size+1) 2)=some (.int .u32 a.first)/\w'.cell? (af (w.heap.size+1) 3)=some (.int .u32 a.follow)/\Below w.heap.size w w') yg ⟨d0,d1,d2,d3,Af ab1⟩ (λhH=>?_);refine tB 0 hH ?_;refine tB 1 hH ?_;refine tB 2 hH ?_;refine tL ?_;refine tS 3 λK hK=>?_
  refine tM ?_
  go_simp;refine(cK _ _ _ _ _).mono ?_;rintro e w5 ⟨rfl,yT⟩;try dsimp only
  refine hK.out _ _ ?_ λhH=>?_
  ·exact⟨(yT.cell (by exact ab2)).trans hH.1,(yT.cell (by exact ab2)).trans hH.2.1,(yT.cell (by exact ab2)).trans hH.2.2.1,(yT.cell (by exact ab2)).trans hH.2.2.2.1,hH.2.2.2.2.trans (yT.mono hH.2.2.2.2.size)⟩
  clear hK K;refine tB 4 hH ?_;refine tB 5 hH ?_;refine tL ?_;refine bk yg ?_ _;have Pp:=hid hH.2.2.2.2;clear hH d0 d1 d2 d3 yT ab1;go_wp2
  go_ret2
  exact⟨by rw[HX.out];rfl,Pp.out⟩
theorem OU (w:World) (n₀ fb kb:Nat) (N:NG) (yL:List ByteArray) (pg:List Nm) (yu:Option Addr) (yl gN xY:Nat) (k:List Fa) (h:zK w n₀ fb kb N yL pg yu yl gN xY k) (Bi:∀n,AL k n<2 ^21) (v:Value) (ps:List Pt) (hv:C0 w n₀ v ps) (hps:B3 N ps) (hlen:ps.length<=8):
  Calls Tryz.prog 162 #[ac fb,v] w λe w'=>e=.returned (.tuple #[.int .u32 (B4 k ps 0).1,.bool (B4 k ps 0).2])/\Below w.heap.size w w':=by
 obtain⟨ad,cap,rfl,hcap,hcs⟩:=hv;obtain⟨L,hL⟩:=qF (ps.length);rw[<-hL]at hcap hcs hlen ⊢;have Ad:=h.ln;have hlf:=h.lf;have y7:=h.kn.lt;have Cj:=h.gr.Aj;have zU:=h.gr.Bt;have H:=hid h;have HL:Hid (L=ps.length):=hid hL;have HC:=hid hcs;have HP:Hid (B3 N ps):=hid hps;have HF:Hid (∀n,AL k n<2 ^21):=hid Bi;obtain⟨nN,hn1⟩:=qF (N.nN);rw[<-hn1]at zU;have HN:Hid (nN=N.nN):=hid hn1;clear h hL hcs hps Bi hn1
 go_enter Tryz.func162,Tryz.ntmps162
 go_wp2
 go_loopw [6,13] (λs i wr=>∃j f:Nat,j<=L/\i=ab j/\s=.int .u32 f/\f<2 ^21/\Hid (B4 k ps 0=B4 k (ps.drop j) f)/\Hid (Below w.heap.size w wr)) (λ_ i _=>L - (intOf i).toNat)
 case atStart=>exact⟨0,0,bu _,rfl,rfl,by decide,rfl,ah _ _⟩
 case round=>
  obtain⟨j,f,hj,rfl,rfl,hf,HE,HB⟩:=hrel;have HFl:Hid (f<2 ^21):=hid hf;clear hf
  by_cases hlt:j<L
  ·obtain⟨p,hp⟩:∃p,ps[j]?=some p:=⟨_,gE Zs⟩
   obtain⟨g,off,rfl,hg,hcl⟩:=HC.out (by omega);have Tq:=HB.out.size;have Hl:g<wr.heap.size:=by omega
   have p0:=(HB.out.cell (p:=(af g (off+j*2))) Hj).trans (hcl j p hp).1;have p1:=(HB.out.cell (p:=(af g (off+j*2+1))) Hj).trans (hcl j p hp).2;have Ae:J5 N p:=by
    have:=HP.out.at hp;cases p with
    |tok t=>exact this
    |yB n=>exact this
   have hfl:=YI Cj HF.out Ae;have Rq:=QW HFl.out hfl;have HO:Hid (f||| (E6 k p).1<2 ^21):=hid (su HFl.out hfl);have hD:B4 k ps 0=if(E6 k p).2=true then B4 k (ps.drop (j+1)) (f||| (E6 k p).1)else(f||| (E6 k p).1,false):=by
    rw[HE.out,RW hp,ZX]
   have HD:=hid hD;have CF:Hid (Calls Tryz.prog 198 #[ac fb,.agg #[.bool (AQ p),ab (AP p)]] (wr.alloc (.cells #[.bool (AQ p),ab (AP p)] 235)) λe w'=>e=.returned (.tuple #[.int .u32 (E6 k p).1,.bool (E6 k p).2])/\Below (wr.alloc (.cells #[.bool (AQ p),ab (AP p)] 235)).heap.size (wr.alloc (.cells #[.bool (AQ p),ab (AP p)] 235)) w'):=hid (
    UG _ n₀ fb kb N yL pg yu yl gN xY k (H.out.below (zl HB.out)) p Ae)
   obtain⟨pi,hpi⟩:=qE (AQ p);obtain⟨pn,hpn⟩:=qE (AP p);obtain⟨x,e,hxe⟩:∃x e,E6 k p=(x,e):=⟨_,_,rfl⟩;rw[hpi,hpn,hxe]at CF;rw[hxe]at HD HO Rq;rw[hpi]at p0;rw[hpn]at p1;simp only at CF HD HO Rq;clear hcl hp Ae hfl hD hpi hpn hxe;cases e
   ·have zN:Hid (B4 k ps 0=(f|||x,false)):=hid (by rw[HD.out];simp)
    go_wp2_with (go_at_call 198;refine CF.out.mono ?_;rintro e w2 ⟨rfl,hb2⟩;have yV:=hid (HB.out.trans (((zl (ah _ _)).trans (hb2.mono (by simp))).mono HB.out.size));clear hb2 CF)
    go_ret2
    exact⟨by rw[zN.out];rfl,yV.out⟩
   ·have zN:Hid (B4 k ps 0=B4 k (ps.drop (j+1)) (f|||x)):=hid (by rw[HD.out];simp)
    go_wp2_with (go_at_call 198;refine CF.out.mono ?_;rintro e w2 ⟨rfl,hb2⟩;have yV:=hid (HB.out.trans (((zl (ah _ _)).trans (hb2.mono (by simp))).mono HB.out.size));clear hb2 CF)
    go_roundw
    case rel=>exact⟨j+1,f|||x,by omega,by go_num,rfl,HO.out,zN,yV⟩
    case measure=>simp[intOf];omega
  ·have zN:Hid (B4 k ps 0=(f,true)):=hid (by
    rw[HE.out,nh Zv];rfl)
   go_wp2
   go_ret2
   exact⟨by rw[zN.out];rfl,HB.out⟩
theorem afl {P:Prop} (h:P:=by
  go_enter Tryz.func165,Tryz.ntmps165
  go_wp2_with (go_at_call 162;refine Fe.out.mono ?_;rintro e w2 ⟨rfl,hb2⟩;have HB:=hid hb2;clear hb2)
  go_ret;exact⟨by rw[zN.out];rfl,HB.out⟩):P:=h
theorem XE (w:World) (n₀ fb kb:Nat) (N:NG) (yL:List ByteArray) (pg:List Nm) (yu:Option Addr) (yl gN xY:Nat) (k:List Fa) (h:zK w n₀ fb kb N yL pg yu yl gN xY k) (Bi:∀n,AL k n<2 ^21) (v:Value) (ps:List Pt) (hv:C0 w n₀ v ps) (hps:B3 N ps) (hlen:ps.length<=8) (fo:Nat) (hfo:fo<2 ^21):
  Calls Tryz.prog 165 #[ac fb,v,.int .u32 fo] w λe w'=>e=.returned (.int .u32 (DU k ps fo))/\Below w.heap.size w w':=by
 have CB:=OU w n₀ fb kb N yL pg yu yl gN xY k h Bi v ps hv hps hlen;have hlt:=KV h.gr.Aj Bi ps 0 hps (by decide);have Rq:=QW hlt hfo;have HE:Hid (DU k ps fo=if(B4 k ps 0).2=true then(B4 k ps 0).1|||fo else(B4 k ps 0).1):=hid rfl;obtain⟨ad,cap,rfl,_,_⟩:=hv;obtain⟨b,e,Hz⟩:∃b e,B4 k ps 0=(b,e):=⟨_,_,rfl⟩;rw[Hz]at CB Rq HE;simp only at CB Rq HE;have Fe:=hid CB;clear h Bi hps hlen hfo hlt CB Hz;cases e
 ·have zN:Hid (DU k ps fo=b):=hid (by rw[HE.out];simp)
  exact afl
 ·have zN:Hid (DU k ps fo=b|||fo):=hid (by rw[HE.out];simp)
  exact afl
theorem y8.first {w:World}{kb n:Nat}{k:List Fa} (h:y8 w kb n k) {i:Nat} (hi:i<n) {a:Fa} (ha:k[i]?=some a) (x:Nat):
  y8 (w.setCell (af kb (i*4+2)) (.int .u32 ((a.first|||x:Nat):Int))) kb n (k.modify i λa=>{a with first:=a.first|||x})/\A1 w (w.setCell (af kb (i*4+2)) (.int .u32 ((a.first|||x:Nat):Int))) [kb]:=
 h.put hi _ 2 (by omega) _ (λb hb=>by rw[ha]at hb;cases hb;rfl)
theorem y8.follow {kb:Nat} (h:y8 w kb n k) {i:Nat} (hi:i<n) {a:Fa} (ha:k[i]?=some a) (x:Nat):
  y8 (w.setCell (af kb (i*4+3)) (.int .u32 ((a.follow|||x:Nat):Int))) kb n (k.modify i (Du x))/\A1 w (w.setCell (af kb (i*4+3)) (.int .u32 ((a.follow|||x:Nat):Int))) [kb]:=
 h.put hi _ 3 (by omega) _ (λb hb=>by rw[ha]at hb;cases hb;rfl)
theorem kA (w:World) (n₀ fb kb:Nat) (N:NG) (yL:List ByteArray) (pg:List Nm) (yu:Option Addr) (yl gN xY:Nat) (k:List Fa) (h:zK w n₀ fb kb N yL pg yu yl gN xY k) (Bi:∀n,AL k n<2 ^21)
  (Bx:Nat) (Ni:w.cell? (af Bx 0)=some (ac fb)) (v:Value) (r:Nat × List Pt) (hr:r∈N.rules) (hv:C0 w n₀ v r.2):
  Calls Tryz.prog 161 #[.pointer (some (af kb (r.1*4))),v,ac Bx] w λe w'=>e=.returned (.tuple #[])/\y8 w' kb N.nN (EE k r)/\A1 w w' [kb]:=by
 obtain⟨m,ps⟩:=r;have hm:m<N.nN:=h.gr.ok.lt _ hr;simp only at hv ⊢;have hps:B3 N ps:=h.gr.ok.ps hr;have CB:=OU w n₀ fb kb N yL pg yu yl gN xY k h Bi v ps hv hps (h.gr.ok.parts _ hr);obtain⟨a,ha⟩:∃a,k[m]?=some a:=⟨_,gE (by rw[h.kn.1];exact hm)⟩;have hal:a.first<2 ^21:=by rw[<-kJ ha];exact Bi m
 have Rq:=QW hal (KV h.gr.Aj Bi ps 0 hps (by decide));have c2:=(h.kn.cells ha).2.2.1;have fz:=h.kn.free (m*4+2);have y7:=h.kn.lt;obtain⟨ad,cap,rfl,_,_⟩:=hv;have hst:EE k (m,ps)=k.modify m λa=>{a with first:=a.first||| (B4 k ps 0).1}:=rfl
 obtain⟨b,e,Hz⟩:∃b e,B4 k ps 0=(b,e):=⟨_,_,rfl⟩;rw[Hz]at CB Rq hst;simp only at CB Rq hst;have Fe:=hid CB;have HST:=hid hst;have HA:=hid ha;have HM:Hid (m<N.nN):=hid hm;have H:=hid h;clear h Bi hr hps hal CB hst ha Hz hm
 go_enter Tryz.func161,Tryz.ntmps161
 go_wp2_with (go_at_call 162;refine Fe.out.mono ?_;rintro e w2 ⟨rfl,hb2⟩;replace c2:=(hb2.cell (p:=(af kb (m*4+2))) (by exact y7)).trans c2;replace fz:=(ni (w:=w) (a:=(af kb (m*4+2))) (hb2.block kb y7)).trans fz;have HB:=hid hb2;clear hb2)
 go_end0
 obtain⟨h1,h2⟩:=y8.first (H.out.kn.keeps (A1.yX HB.out []) (by simp)) HM.out HA.out b;exact⟨rfl,by rw[HST.out];exact h1,(A1.yX HB.out _).trans h2⟩
end Go.Proofs.YtjjggdcnpndgjaaGreatDoor
