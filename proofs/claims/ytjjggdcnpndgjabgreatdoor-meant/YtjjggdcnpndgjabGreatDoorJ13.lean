import Derived.Test.YtjjggdcnpndgjabGreatDoorJ12
import Derived.Laws.BitsAllLaws
set_option linter.unusedSimpArgs false
set_option maxHeartbeats 2000000
set_option maxRecDepth 100000
namespace Go.Proofs.YtjjggdcnpndgjabGreatDoor
open Go.RowKit Go.Shelf
variable {N:NG}{f:Fa->Fa}{k k0:List Fa}{n:Nat}{r:Nat × List Pt}{w:World}
theorem Mz11 {P:Prop} (h:P:=by
  rw[J5]
  by_cases h:n=m
  ·subst h
   by_cases hl:n<k.length
   ·rw[if_pos rfl,if_pos ⟨rfl,hl⟩,gE hl];rfl
   ·rw[if_pos rfl,if_neg (fun h=>hl h.2),List.getElem?_eq_none (by omega)];rfl
  ·rw[if_neg h,if_neg (fun e=>h e.1)]):P:=h
theorem XT (k:List Fa) (n m:Nat) (f:Fa->Fa):EP (k.modify n f) m=if n=m/\m<k.length then(k[m]?.map fun a=>(f a).reached).getD false else EP k m:=by
 unfold EP;exact Mz11
theorem XY (k:List Fa) (n m:Nat) (f:Fa->Fa):AL (k.modify n f) m=if n=m/\m<k.length then(k[m]?.map fun a=>(f a).first).getD 0 else AL k m:=by
 unfold AL;exact Mz11
theorem RN (k:List Fa) (n m:Nat) (f:Fa->Fa):B2 (k.modify n f) m=if n=m/\m<k.length then(k[m]?.map fun a=>(f a).follow).getD 0 else B2 k m:=by
 unfold B2;exact Mz11
theorem LG  (h:∀a,(f a).least=a.least) (m:Nat):B3 (k.modify n f) m=B3 k m:=by
 rw[QT];split
 ·unfold B3;simp[h]
 ·rfl
theorem WR  (h:∀a,(f a).reached=a.reached) (m:Nat):EP (k.modify n f) m=EP k m:=by
 rw[XT];split
 ·unfold EP;simp[h]
 ·rfl
theorem KH  (h:∀a,(f a).first=a.first) (m:Nat):AL (k.modify n f) m=AL k m:=by
 rw[XY];split
 ·unfold AL;simp[h]
 ·rfl
theorem WX  (h:∀a,(f a).follow=a.follow) (m:Nat):B2 (k.modify n f) m=B2 k m:=by
 rw[RN];split
 ·unfold B2;simp[h]
 ·rfl
def II (a:Fa):Fa:={a with reached:=true}
def DL (m:Nat):List Pt->List Fa->List Fa
 | [],k=>k
 | .tok _::ps,k=>DL m ps k
 | .nam n::ps,k=>DL m ps (if EP k m=true then k.modify n II else k)
def GG (k:List Fa) (r:Nat × List Pt):List Fa:=DL r.1 r.2 k
def QO (a:Fa):Nat:=if a.reached then 0 else 1
theorem OO (k:List Fa) (n m:Nat):EP (k.modify n II) m=if n=m/\m<k.length then true else EP k m:=by
 rw[XT];split
 ·rename_i h
  rw[gE h.2];rfl
 ·rfl
theorem pN (k:List Fa) (n:Nat):k.modify n II=k\/FU QO (k.modify n II)<FU QO k:=NE fun a _=>by
 cases h:a.reached
 ·right;simp[QO,II,h]
 ·left;unfold II;cases a;simp at h;simp[h]
theorem UB (m:Nat):∀(ps:List Pt) (k:List Fa),(DL m ps k=k/\(EP k m=true->∀n,Pt.nam n∈ps->n<k.length->EP k n=true))\/FU QO (DL m ps k)<FU QO k:=by
 intro ps
 induction ps with
 |nil=>intro k;exact .inl ⟨rfl,fun _ n h=>by cases h⟩
 |cons p ps ih=>
  intro k;cases p with
  |tok t=>
   refine(ih k).imp (fun h=>⟨h.1,fun hm n hn hl=>h.2 hm n ?_ hl⟩) id
   rcases List.mem_cons.1 hn with hn |hn
   ·cases hn
   ·exact hn
  |nam n=>
   unfold DL
   by_cases hm:EP k m=true
   ·rw[if_pos hm]
    rcases pN k n with h1 |h1
    ·rw[h1]
     refine(ih k).imp (fun h=>⟨h.1,fun hm n' hn hl=>?_⟩) id
     rcases List.mem_cons.1 hn with hn |hn
     ·injection hn with hn
      subst hn;rw[<-h1,OO,if_pos ⟨rfl,hl⟩]
     ·exact h.2 hm n' hn hl
    ·rcases ih (k.modify n II)with⟨h2,_⟩ |h2
     ·right;rw[h2];exact h1
     ·right;omega
   ·rw[if_neg hm]
    exact(ih k).imp (fun h=>⟨h.1,fun h'=>absurd h' hm⟩) id
theorem dC (m:Nat):∀(ps:List Pt) (k:List Fa),(DL m ps k).length=k.length/\(∀n,B3 (DL m ps k) n=B3 k n)/\(∀n,AL (DL m ps k) n=AL k n)/\(∀n,B2 (DL m ps k) n=B2 k n)/\(∀n,EP k n=true->EP (DL m ps k) n=true):=by
 intro ps
 induction ps with
 |nil=>intro k;exact⟨rfl,fun _=>rfl,fun _=>rfl,fun _=>rfl,fun _ h=>h⟩
 |cons p ps ih=>
  intro k;cases p with
  |tok t=>exact ih k
  |nam n=>
   unfold DL;split
   ·obtain⟨h1,h2,h3,h4,h5⟩:=ih (k.modify n II)
    refine⟨by rw[h1,List.length_modify],fun q=>by rw[h2,LG (f:=II) (fun _=>rfl)],fun q=>by rw[h3,KH (f:=II) (fun _=>rfl)],fun q=>by rw[h4,WX (f:=II) (fun _=>rfl)],fun q hq=>h5 q ?_⟩;rw[OO];split
    ·rfl
    ·exact hq
   ·exact ih k
theorem cJ {m:Nat}{T:Nat->Bool}:∀(ps:List Pt) (k:List Fa),(∀n,EP k n=true->T n=true)->(T m=true->∀n,Pt.nam n∈ps->T n=true)->∀n,EP (DL m ps k) n=true->T n=true:=by
 intro ps
 induction ps with
 |nil=>intro k h _ n hn;exact h n hn
 |cons p ps ih=>
  intro k h hp;cases p with
  |tok t=>exact ih k h (fun hm n hn=>hp hm n (List.mem_cons_of_mem _ hn))
  |nam n=>
   unfold DL;refine ih _ (fun q hq=>?_) (fun hm n hn=>hp hm n (List.mem_cons_of_mem _ hn));split at hq
   ·rename_i hm
    rw[OO]at hq;split at hq
    ·rename_i h1
     rw[<-h1.1];exact hp (h m hm) n (List.mem_cons_self ..)
    ·exact h q hq
   ·exact h q hq
structure KA (N:NG) (k0 k:List Fa):Prop where
 len:k.length=N.nN
 fl:∀n,B3 k n=B3 k0 n
 fh:∀n,AL k n=AL k0 n
 fo:∀n,B2 k n=B2 k0 n
 z:EP k 0=true
 sound:∀T,VU N T->∀n,EP k n=true->T n=true
theorem ZS  (h:KA N k0 k)  (hr:r∈N.rules):(GG k r=k\/FU QO (GG k r)<FU QO k)/\KA N k0 (GG k r):=by
 obtain⟨h1,h2,h3,h4,h5⟩:=dC r.1 r.2 k;exact⟨(UB r.1 r.2 k).imp (fun h=>h.1) id,by unfold GG;rw[h1];exact h.len,fun n=>(h2 n).trans (h.fl n),fun n=>(h3 n).trans (h.fh n),fun n=>(h4 n).trans (h.fo n),h5 0 h.z,fun T hT=>cJ r.2 k (h.sound T hT) (fun hm n hn=>hT.2 r hr hm n hn)⟩
theorem i8  (hN:N.Ok)  (h:KA N k0 k) (hst:∀r∈N.rules,GG k r=k):Lfp (VU N) (EP k):=by
 refine⟨⟨h.z,fun r hr hm n hn=>?_⟩,h.sound⟩
 rcases UB r.1 r.2 k with⟨_,h2⟩ |h2
 ·exact h2 hm n hn (by rw[h.len];exact hN.pn r hr n hn)
 ·have:=hst r hr
  unfold GG at this;rw[this]at h2;omega
theorem eO  (hN:N.Ok)  (hl:k0.length=N.nN) (h0:∀n,EP k0 n=false):KA N k0 (k0.modify 0 II) where
 len:=by rw[List.length_modify];exact hl
 fl:=LG (f:=II) (fun _=>rfl)
 fh:=KH (f:=II) (fun _=>rfl)
 fo:=WX (f:=II) (fun _=>rfl)
 z:=by rw[OO,if_pos ⟨rfl,by rw[hl];exact hN.pos⟩]
 sound:=fun T hT n hn=>by
  rw[OO]at hn;split at hn
  ·rename_i h;rw[<-h.1];exact hT.1
  ·rw[h0]at hn;cases hn
def emP (k:List Fa) (n:Nat):Bool:=decide (B3 k n=0)
def BA (k:List Fa):List Pt->Nat->Nat × Bool
 | [],f=>(f,true)
 | .tok t::_,f=>(f|||1<<<t,false)
 | .nam n::ps,f=>if B3 k n=0 then BA k ps (f|||AL k n)else(f|||AL k n,false)
theorem JC (k:List Fa):∀(ps:List Pt) (f:Nat),(BA k ps f).2=FA (emP k) ps/\∀t,(BA k ps f).1.testBit t=(f.testBit t||DT (emP k) (fun n=>(AL k n).testBit t) t ps)
 | [],f=>⟨rfl,fun t=>by simp[BA,DT]⟩
 | .tok u::ps,f=>⟨rfl,fun t=>by
   simp only[BA,DT,Nat.testBit_or,Nat.one_shiftLeft,Nat.testBit_two_pow]
   congr 1⟩
 | .nam n::ps,f=>by
  simp only[BA]
  by_cases h:B3 k n=0
  ·rw[if_pos h]
   obtain⟨h1,h2⟩:=JC k ps (f|||AL k n);refine⟨by rw[h1];simp[FA,emP,h],fun t=>?_⟩;rw[h2];simp[DT,emP,h,Nat.testBit_or,Bool.or_assoc]
  ·rw[if_neg h]
   refine⟨by simp[FA,emP,h],fun t=>?_⟩;simp[DT,emP,h,Nat.testBit_or]
theorem KL {N:NG} (hT:N.nT<=20) {k:List Fa} (hk:∀n,AL k n<2 ^21):∀(ps:List Pt) (f:Nat),AY N ps->f<2 ^21->(BA k ps f).1<2 ^21
 | [],f,_,h=>h
 | .tok t::ps,f,hp,h=>by
  simp only[BA];refine Nat.or_lt_two_pow h ?_;rw[Nat.one_shiftLeft];exact Nat.pow_lt_pow_right (by omega) (by have:=hp.2 t (List.mem_cons_self ..);omega)
 | .nam n::ps,f,hp,h=>by
  simp only[BA];have h1:=Nat.or_lt_two_pow h (hk n);split
  ·exact KL hT hk ps _ hp.tail h1
  ·exact h1
def EE (k:List Fa) (r:Nat × List Pt):List Fa:=k.modify r.1 fun a=>{a with first:=a.first||| (BA k r.2 0).1}
structure I4 (N:NG) (k0 k:List Fa):Prop where
 len:k.length=N.nN
 fl:∀n,B3 k n=B3 k0 n
 fr:∀n,EP k n=EP k0 n
 fo:∀n,B2 k n=B2 k0 n
 lt:∀n,AL k n<2 ^21
 sound:∀t T,WY N (emP k0) t T->∀n,(AL k n).testBit t=true->T n=true
def ZG (a:Fa):Nat:=2 ^21 - a.first
def NI (a:Fa):Nat:=2 ^21 - a.follow
theorem gI (k:List Fa) (n m x:Nat):AL (k.modify n fun a=>{a with first:=a.first|||x}) m=if n=m/\m<k.length then AL k m|||x else AL k m:=by
 rw[XY];split
 ·rename_i h
  unfold AL;rw[gE h.2];rfl
 ·rfl
theorem wO (k:List Fa) (n m x:Nat):B2 (k.modify n fun a=>{a with follow:=a.follow|||x}) m=if n=m/\m<k.length then B2 k m|||x else B2 k m:=by
 rw[RN];split
 ·rename_i h
  unfold B2;rw[gE h.2];rfl
 ·rfl
theorem ZY  (hN:N.Ok) (hT:N.nT<=20)  (h:I4 N k0 k)  (hr:r∈N.rules):(EE k r=k\/FU ZG (EE k r)<FU ZG k)/\I4 N k0 (EE k r):=by
 have hb:=KL hT h.lt r.2 0 (hN.ps hr) (by decide);have hem:emP k=emP k0:=by funext n;unfold emP;rw[h.fl]
 refine⟨NE fun a ha=>?_,by unfold EE;rw[List.length_modify];exact h.len,fun n=>(LG (f:=fun a=>{a with first:=a.first||| (BA k r.2 0).1}) (fun _=>rfl) n).trans (h.fl n),fun n=>(WR (f:=fun a=>{a with first:=a.first||| (BA k r.2 0).1}) (fun _=>rfl) n).trans (h.fr n),fun n=>(WX (f:=fun a=>{a with first:=a.first||| (BA k r.2 0).1}) (fun _=>rfl) n).trans (h.fo n),fun n=>?_,fun t T hC n hn=>?_⟩
 ·have ha2:a.first<2 ^21:=by
   have:=h.lt r.1;unfold AL at this;rw[ha]at this;exact this
  have hle:a.first<=a.first||| (BA k r.2 0).1:=Nat.left_le_or;have hlt:=Nat.or_lt_two_pow ha2 hb
  by_cases he:a.first||| (BA k r.2 0).1=a.first
  ·left;rw[he]
  ·right;unfold ZG;simp only;omega
 ·unfold EE
  rw[gI];split
  ·exact Nat.or_lt_two_pow (h.lt n) hb
  ·exact h.lt n
 ·unfold EE at hn
  rw[gI]at hn;split at hn
  ·rename_i h1
   rw[Nat.testBit_or,Bool.or_eq_true]at hn
   rcases hn with hn |hn
   ·exact h.sound t T hC n hn
   ·rw[(JC k r.2 0).2 t,Nat.zero_testBit,Bool.false_or,hem]at hn
    rw[<-h1.1];exact hC r hr (R7 (fun m hm=>h.sound t T hC m hm) _ hn)
  ·exact h.sound t T hC n hn
theorem jR  (hN:N.Ok)  (h:I4 N k0 k) (hst:∀r∈N.rules,EE k r=k) (t:Nat):Lfp (WY N (emP k0) t) (fun n=>(AL k n).testBit t):=by
 refine⟨fun r hr hb=>?_,h.sound t⟩;have hem:emP k=emP k0:=by funext n;unfold emP;rw[h.fl]
 have h1:=congrArg (fun q=>(AL q r.1).testBit t) (hst r hr);simp only[EE]at h1;rw[gI,if_pos ⟨rfl,by rw[h.len];exact hN.lt r hr⟩,Nat.testBit_or,(JC k r.2 0).2 t,hem,hb]at h1;simpa using h1.symm
theorem dH  (hl:k0.length=N.nN) (h0:∀n,AL k0 n=0):I4 N k0 k0 where
 len:=hl
 fl:=fun _=>rfl
 fr:=fun _=>rfl
 fo:=fun _=>rfl
 lt:=fun n=>by rw[h0];decide
 sound:=fun t T _ n hn=>by rw[h0]at hn;simp at hn
def DU (k:List Fa) (ps:List Pt) (fo:Nat):Nat:=if(BA k ps 0).2=true then(BA k ps 0).1|||fo else(BA k ps 0).1
theorem JP (k:List Fa) (ps:List Pt) (fo t:Nat):(DU k ps fo).testBit t=(DT (emP k) (fun n=>(AL k n).testBit t) t ps||(FA (emP k) ps&&fo.testBit t)):=by
 obtain⟨h1,h2⟩:=JC k ps 0;unfold DU;rw[h1];cases hb:FA (emP k) ps
 ·simp[h2]
 ·simp[h2]
theorem QY  (hT:N.nT<=20)  (hk:∀n,AL k n<2 ^21) {ps:List Pt} (hp:AY N ps) {fo:Nat} (hf:fo<2 ^21):DU k ps fo<2 ^21:=by
 have h1:=KL hT hk ps 0 hp (by decide);unfold DU;split
 ·exact Nat.or_lt_two_pow h1 hf
 ·exact h1
def orF (x:Nat) (a:Fa):Fa:={a with follow:=a.follow|||x}
theorem UN (k:List Fa) (n m x:Nat):B2 (k.modify n (orF x)) m=if n=m/\m<k.length then B2 k m|||x else B2 k m:=wO k n m x
def BV (m:Nat):List Pt->List Fa->List Fa
 | [],k=>k
 | .tok _::ps,k=>BV m ps k
 | .nam n::ps,k=>BV m ps (k.modify n (orF (DU k ps (B2 k m))))
def EK (k:List Fa) (r:Nat × List Pt):List Fa:=BV r.1 r.2 k
theorem cO (m:Nat):∀(ps:List Pt) (k:List Fa),(BV m ps k).length=k.length/\(∀n,B3 (BV m ps k) n=B3 k n)/\(∀n,EP (BV m ps k) n=EP k n)/\(∀n,AL (BV m ps k) n=AL k n):=by
 intro ps
 induction ps with
 |nil=>intro k;exact⟨rfl,fun _=>rfl,fun _=>rfl,fun _=>rfl⟩
 |cons p ps ih=>
  intro k;cases p with
  |tok t=>exact ih k
  |nam n=>
   unfold BV;obtain⟨h1,h2,h3,h4⟩:=ih (k.modify n (orF (DU k ps (B2 k m))));exact⟨by rw[h1,List.length_modify],fun q=>by rw[h2,LG (f:=orF _) (fun _=>rfl)],fun q=>by rw[h3,WR (f:=orF _) (fun _=>rfl)],fun q=>by rw[h4,KH (f:=orF _) (fun _=>rfl)]⟩
theorem mF  (hT:N.nT<=20)  (hh:∀n,AL k n<2 ^21) (ho:∀n,B2 k n<2 ^21) {ps:List Pt} (hp:AY N ps) (m n:Nat):
  (k.modify n (orF (DU k ps (B2 k m)))=k\/FU NI (k.modify n (orF (DU k ps (B2 k m))))<FU NI k)/\∀q,B2 (k.modify n (orF (DU k ps (B2 k m)))) q<2 ^21:=by
 have hb:=QY hT hh hp (ho m);refine⟨NE fun a ha=>?_,fun q=>?_⟩
 ·have ha2:a.follow<2 ^21:=by
   have:=ho n;unfold B2 at this;rw[ha]at this;exact this
  have hle:a.follow<=a.follow|||DU k ps (B2 k m):=Nat.left_le_or;have hlt:=Nat.or_lt_two_pow ha2 hb
  by_cases he:a.follow|||DU k ps (B2 k m)=a.follow
  ·left;unfold orF;rw[he]
  ·right;unfold NI orF;simp only;omega
 ·rw[UN]
  split
  ·exact Nat.or_lt_two_pow (ho q) hb
  ·exact ho q
theorem SL  (hT:N.nT<=20) (m:Nat):∀(ps:List Pt) (k:List Fa),AY N ps->(∀n,AL k n<2 ^21)->(∀n,B2 k n<2 ^21)->
  ((BV m ps k=k/\∀pre n post,ps=pre++Pt.nam n::post->n<k.length->B2 k n|||DU k post (B2 k m)=B2 k n)\/FU NI (BV m ps k)<FU NI k)/\∀n,B2 (BV m ps k) n<2 ^21:=by
 intro ps
 induction ps with
 |nil=>intro k _ _ ho;exact⟨.inl ⟨rfl,fun pre n post h=>by simp at h⟩,ho⟩
 |cons p ps ih=>
  intro k hp hh ho;cases p with
  |tok t=>
   obtain⟨h1,h2⟩:=ih k hp.tail hh ho;refine⟨h1.imp (fun h=>⟨h.1,fun pre n post e hl=>?_⟩) id,h2⟩;cases pre with
   |nil=>simp at e
   |cons q pre=>exact h.2 pre n post (by simpa using (List.cons.inj e).2) hl
  |nam n=>
   unfold BV;obtain⟨h3,h4⟩:=mF hT hh ho hp.tail m n;have hh':∀q,AL (k.modify n (orF (DU k ps (B2 k m)))) q<2 ^21:=fun q=>by rw[KH (f:=orF _) (fun _=>rfl)];exact hh q
   obtain⟨h1,h2⟩:=ih _ hp.tail hh' h4;refine⟨?_,h2⟩
   rcases h3 with h3 |h3
   ·rw[h3]at h1 ⊢
    refine h1.imp (fun h=>⟨h.1,fun pre n' post e hl=>?_⟩) id;cases pre with
    |nil=>
     have e1:=List.cons.inj e;obtain⟨e1,e2⟩:=e1;injection e1 with e1
     subst e1;subst e2;have h5:=congrArg (fun q=>B2 q n) h3;rw[UN,if_pos ⟨rfl,hl⟩]at h5;exact h5
    |cons q pre=>exact h.2 pre n' post (by simpa using (List.cons.inj e).2) hl
   ·rcases h1 with⟨h1,_⟩ |h1
    ·right;rw[h1];exact h3
    ·right;omega
theorem gU (m:Nat) (t:Nat):∀(ps:List Pt) (k:List Fa) (n:Nat),(B2 k n).testBit t=true->(B2 (BV m ps k) n).testBit t=true:=by
 intro ps
 induction ps with
 |nil=>intro k n h;exact h
 |cons p ps ih=>
  intro k n h;cases p with
  |tok u=>exact ih k n h
  |nam q=>
   unfold BV;refine ih _ n ?_;rw[UN];split
   ·rw[Nat.testBit_or,h];rfl
   ·exact h
theorem YW {m t:Nat}{E H T:Nat->Bool}:∀(ps:List Pt) (k:List Fa),emP k=E->(fun n=>(AL k n).testBit t)=H->(∀n,(B2 k n).testBit t=true->T n=true)->
  (∀pre n post,ps=pre++Pt.nam n::post->(DT E H t post||(FA E post&&T m))=true->T n=true)->∀n,(B2 (BV m ps k) n).testBit t=true->T n=true:=by
 intro ps
 induction ps with
 |nil=>intro k _ _ h _ n hn;exact h n hn
 |cons p ps ih=>
  intro k hE hH h hp;have hp':∀pre n post,ps=pre++Pt.nam n::post->(DT E H t post||(FA E post&&T m))=true->T n=true:=fun pre n post e=>hp (p::pre) n post y79Z
  cases p with
  |tok u=>exact ih k hE hH h hp'
  |nam n=>
   unfold BV;refine ih _ ?_ ?_ (fun q hq=>?_) hp'
   ·rw[<-hE];funext q;unfold emP;rw[LG (f:=orF _) (fun _=>rfl)]
   ·rw[<-hH];funext q;rw[KH (f:=orF _) (fun _=>rfl)]
   ·rw[UN]at hq
    split at hq
    ·rename_i h1
     rw[Nat.testBit_or,Bool.or_eq_true]at hq
     rcases hq with hq |hq
     ·exact h q hq
     ·rw[JP,hE,hH]at hq
      rw[<-h1.1];refine hp [] n ps rfl ?_;simp only[Bool.or_eq_true,Bool.and_eq_true]at hq ⊢;exact hq.imp id (fun hq=>⟨hq.1,h m hq.2⟩)
    ·exact h q hq
structure F9 (N:NG) (k0 k:List Fa):Prop where
 len:k.length=N.nN
 fl:∀n,B3 k n=B3 k0 n
 fr:∀n,EP k n=EP k0 n
 fh:∀n,AL k n=AL k0 n
 hlt:∀n,AL k n<2 ^21
 lt:∀n,B2 k n<2 ^21
 z:(B2 k 0).testBit N.nT=true
 sound:∀t T,VV N (emP k0) (fun n=>(AL k0 n).testBit t) t T->∀n,(B2 k n).testBit t=true->T n=true
theorem MZ  (h:∀n,B3 k n=B3 k0 n):emP k=emP k0:=by funext n;unfold emP;rw[h]
theorem ZB  (hN:N.Ok) (hT:N.nT<=20)  (h:F9 N k0 k)  (hr:r∈N.rules):(EK k r=k\/FU NI (EK k r)<FU NI k)/\F9 N k0 (EK k r):=by
 obtain⟨h1,h2⟩:=SL hT r.1 r.2 k (hN.ps hr) h.hlt h.lt;obtain⟨h3,h4,h5,h6⟩:=cO r.1 r.2 k;exact⟨h1.imp (fun h=>h.1) id,by unfold EK;rw[h3];exact h.len,fun n=>(h4 n).trans (h.fl n),fun n=>(h5 n).trans (h.fr n),fun n=>(h6 n).trans (h.fh n),fun n=>(by show AL (BV r.1 r.2 k) n<_;rw[h6];exact h.hlt n),h2,gU _ _ _ _ _ h.z,
  fun t T hC=>YW r.2 k (MZ h.fl) (by funext n;rw[h.fh]) (h.sound t T hC) (fun pre n post e he=>hC.2 r hr pre n post e he)⟩
theorem dI  (hN:N.Ok) (hT:N.nT<=20)  (h:F9 N k0 k) (hst:∀r∈N.rules,EK k r=k) (t:Nat):Lfp (VV N (emP k0) (fun n=>(AL k0 n).testBit t) t) (fun n=>(B2 k n).testBit t):=by
 refine⟨⟨fun e=>by rw[e];exact h.z,fun r hr pre n post e he=>?_⟩,h.sound t⟩;obtain⟨h1,_⟩:=SL hT r.1 r.2 k (hN.ps hr) h.hlt h.lt
 rcases h1 with⟨_,h2⟩ |h2
 ·have hn:n<k.length:=by rw[h.len];exact hN.pn r hr n y27Z
  have h3:=congrArg (fun x=>x.testBit t) (h2 pre n post e hn);rw[Nat.testBit_or,JP,MZ h.fl,show(fun n=>(AL k n).testBit t)=(fun n=>(AL k0 n).testBit t) from by funext q;rw[h.fh],he]at h3;simpa using h3.symm
 ·have:=hst r hr
  unfold EK at this;rw[this]at h2;omega
theorem bX  (hN:N.Ok) (hT:N.nT<=20)  (hl:k0.length=N.nN) (hh:∀n,AL k0 n<2 ^21) (h0:∀n,B2 k0 n=0):F9 N k0 (k0.modify 0 fun a=>{a with follow:=1<<<N.nT}):=by
 have hp:(1:Nat)<<<N.nT<2 ^21:=by rw[Nat.one_shiftLeft];exact Nat.pow_lt_pow_right (by omega) (by omega)
 have ho:∀n,B2 (k0.modify 0 fun a=>{a with follow:=1<<<N.nT}) n=if 0=n/\n<k0.length then 1<<<N.nT else 0:=fun n=>by
  rw[RN];split
  ·rename_i h1
   rw[gE h1.2];rfl
  ·exact h0 n
 refine⟨by rw[List.length_modify];exact hl,LG (fun _=>rfl),WR (fun _=>rfl),KH (fun _=>rfl),fun n=>by rw[KH (f:=fun a=>{a with follow:=1<<<N.nT}) (fun _=>rfl)];exact hh n,fun n=>?_,?_,fun t T hC n hn=>?_⟩
 ·rw[ho]
  split
  ·exact hp
  ·decide
 ·rw[ho,if_pos ⟨rfl,by rw[hl];exact hN.pos⟩,Nat.one_shiftLeft,Nat.testBit_two_pow];simp
 ·rw[ho]at hn
  split at hn
  ·rename_i h1
   rw[Nat.one_shiftLeft,Nat.testBit_two_pow]at hn;rw[<-h1.1];exact hC.1 (of_decide_eq_true hn).symm
  ·simp at hn
theorem Mz13 {P:Prop} (h:P:=by
  go_wp2
  go_roundw
  case rel=>exact⟨j+1,kj,by omega,by go_num,HE2,hid (HV.out.keeps ((A1.refl _ []).alloc _) (by simp)),hid (HK.out.alloc _)⟩
  case measure=>simp[intOf];omega):P:=h
theorem gY (w:World) (n₀ fb kb:Nat) (N:NG) (tws:List ByteArray) (pg:List Nm) (adT:Option Addr) (capT gN capN:Nat) (k:List Fa) (h:FcM w n₀ fb kb N tws pg adT capT gN capN k)
  (Bx:Nat) (hBx:w.cell? (af Bx 0)=some (ac fb)) (hBk:Bx≠kb) (v:Value) (r:Nat × List Pt) (hr:r∈N.rules) (hv:C0 w n₀ v r.2):
  Calls Tryz.prog 64 #[.pointer (some (af kb (r.1*4))),v,ac Bx] w fun e w'=>e=.returned (.tuple #[])/\KnV w' kb N.nN (GG k r)/\A1 w w' [kb]:=by
 obtain⟨m,ps⟩:=r;have hm:m<N.nN:=h.gr.ok.lt _ hr;simp only at hv ⊢;have hps:AY N ps:=h.gr.ok.ps hr;have hlen:ps.length<=8:=h.gr.ok.parts _ hr;have hkw:=h.kn.lt;have hfw:=h.lf;have hne:=h.ne;have hlw:=h.ln;have hnk:=h.n0;have h2:=h.f2;have hBw:Bx<w.heap.size:=World.block_lt_of_cell? w _ hBx;obtain⟨ad,cap,rfl,hcap,hcs⟩:=hv;obtain⟨L,hL⟩:=qF (ps.length);rw[<-hL]at hcap hcs hlen ⊢;obtain⟨nN,hn1⟩:=qF (N.nN);have hn20:=h.gr.leN;have hkn:=h.kn;rw[<-hn1]at h2 hm hn20 hkn ⊢;have HN:Hid (nN=N.nN):=hid hn1;have HKN:Hid (KnV w kb nN k):=hid hkn;have HL:Hid (L=ps.length):=hid hL;have HC:=hid hcs;have HP:Hid (AY N ps):=hid hps;have HB0:Hid (w.cell? (af Bx 0)=some (ac fb)):=hid hBx;have HF0:Hid (w.cell? (af fb 2)=some (ae kb nN nN)):=hid h2;clear h hr hL hcs hps hn1 hkn hBx h2;show Calls _ _ _ _ fun e w'=>e=.returned (.tuple #[])/\KnV w' kb nN (DL m ps k)/\A1 w w' [kb]
 go_enter Tryz.func64,Tryz.ntmps64
 go_wp2
 go_loopw [9] (fun i wr=>∃(j:Nat) (kj:List Fa),j<=L/\i=ab j/\Hid (DL m ps k=DL m (ps.drop j) kj)/\Hid (KnV wr kb nN kj)/\Hid (A1 w wr [kb])) (fun i _=>L - (intOf i).toNat)
 case atStart=>exact⟨0,k,Nat.zero_le _,rfl,rfl,HKN,A1.refl _ _⟩
 case round=>
  obtain⟨j,kj,hj,rfl,HE,HV,HK⟩:=hrel
  by_cases hlt:j<L
  ·obtain⟨p,hp⟩:∃p,ps[j]?=some p:=⟨_,gE y32Z⟩
   obtain⟨g,off,rfl,hg,hcl⟩:=HC.out (by omega);have hszw:=HK.out.size;have hgw:g<wr.heap.size:=by omega
   have hgk:g∉ [kb]:=by simp;omega
   have p0:=(HK.out.cell (p:=(af g (off+j*2))) y6Z hgk).trans (hcl j p hp).1;have p1:=(HK.out.cell (p:=(af g (off+j*2+1))) y6Z hgk).trans (hcl j p hp).2;have bx:=(HK.out.cell (p:=(af Bx 0)) (by exact hBw) (by simpa using hBk)).trans HB0.out;have fx:=(HK.out.cell (p:=(af fb 2)) (by exact hfw) y66Z).trans HF0.out;have hpt:=HP.out.at hp;have HD:Hid (ps.drop j=p::ps.drop (j+1)):=hid (SB hp);obtain⟨a,ha⟩:∃a,kj[m]?=some a:=⟨_,gE (by rw[HV.out.1];exact hm)⟩;have c1:=(HV.out.cells ha).2.1;clear hcl hp;cases p with
   |tok t=>
    simp only[AQ,AP]at p0 p1;have HE2:Hid (DL m ps k=DL m (ps.drop (j+1)) kj):=hid (by rw[HE.out,HD.out];rfl);clear hpt ha;exact Mz13
   |nam n=>
    simp only[AQ,AP]at p0 p1;have hn:n<nN:=by rw[HN.out];exact hpt
    have hra:=sA ha;obtain⟨b,hb⟩:∃b,kj[n]?=some b:=⟨_,gE (by rw[HV.out.1];exact hn)⟩;have cb:=(HV.out.cells hb).2.1;have fz:=HV.out.free (n*4+1);have hkr:=HV.out.lt;cases hre:a.reached
    ·rw[hre]at c1 hra
     have HE2:Hid (DL m ps k=DL m (ps.drop (j+1)) kj):=hid (by rw[HE.out,HD.out];simp only[DL];rw[if_neg (by rw[hra];decide)]);clear hpt ha hra hb;exact Mz13
    ·rw[hre]at c1 hra
     have HE2:Hid (DL m ps k=DL m (ps.drop (j+1)) (kj.modify n II)):=hid (by rw[HE.out,HD.out];simp only[DL];rw[if_pos hra]);clear hpt ha hra hb;go_wp2;have dx:=A2 (.cells #[.bool true,ab n] 105) bx;have ex:=A2 (.cells #[.bool true,ab n] 105) fx;have nx:=BG wr #[.bool true,ab n] 105 1;have cx:=A2 (.cells #[.bool true,ab n] 105) cb;have zx:(wr.alloc (.cells #[.bool true,ab n] 105)).frozen? (af kb (n*4+1))=false:=(World.frozen?_of_block (w:=wr) (Below.heap_alloc wr _ kb hkr)).trans fz;have HW:Hid (A1 wr (wr.alloc (.cells #[.bool true,ab n] 105)) []):=hid ((A1.refl _ _).alloc _);obtain⟨W1,hW1⟩:=qE (wr.alloc (.cells #[.bool true,ab n] 105));rw[hW1]at dx ex nx cx zx HW ⊢;clear hW1 bx fx cb fz c1 p0 p1;refine AE (fun w'=>w'.cell? (af Bx 0)=some (ac fb)/\w'.cell? (af fb 2)=some (ae kb nN nN)/\w'.cell? (af wr.heap.size 1)=some (ab n)) y1Z y1Z ⟨dx,ex,nx⟩ (fun hH=>?_);simp only[AC,BM,AO]
     refine tB 0 hH ?_;refine tB 1 hH ?_;refine tB 2 hH ?_;refine tB 3 hH ?_;refine tB 4 hH ?_;refine tB 5 hH ?_;refine tB 6 hH ?_;refine tB 7 hH ?_;refine tB 8 hH ?_;refine tL ?_;refine wpAnyH_done y1Z ?_ _;clear hH;show wpList _ _ _ _ _ _;go_wp2
     go_roundw
     case rel=>
      obtain⟨h3,h4⟩:=(HV.out.keeps (HW.out.drew) (by simp)).put hn II 1 (by omega) (.bool true) (fun a _=>rfl);exact⟨j+1,_,by omega,by go_num,HE2,h3,hid (HK.out.trans ((HW.out.drew.mono (fun k h=>by cases h)).trans h4))⟩
     case measure=>simp[intOf];omega
  ·have HE2:Hid (DL m ps k=kj):=hid (by
    rw[HE.out,List.drop_eq_nil_of_le y45Z];rfl)
   go_wp2
   go_end0
   exact⟨rfl,by rw[HE2.out];exact HV.out,HK.out⟩
theorem NR (w:World) (n₀ fb kb:Nat) (N:NG) (tws:List ByteArray) (pg:List Nm) (adT:Option Addr) (capT gN capN:Nat) (k0:List Fa) (h:FcM w n₀ fb kb N tws pg adT capT gN capN k0) (h0:∀n,EP k0 n=false):
  Calls Tryz.prog 37 #[ac fb] w fun e w'=>e=.returned (.tuple #[])/\A1 w w' [kb]/\∃k,KA N k0 k/\(∀r∈N.rules,GG k r=k)/\KnV w' kb N.nN k:=by
 have hlf:=h.lf;have h2:=h.f2;have hnN:=h.gr.leN;have hkb:=h.kn.lt;have hne:=h.ne;have hpos:=h.gr.ok.pos;obtain⟨a,ha⟩:∃a,k0[0]?=some a:=⟨_,gE (by rw[h.kn.1];exact hpos)⟩;have c1:w.cell? (af kb 1)=some (.bool a.reached):=by have:=(h.kn.cells ha).2.1;simpa using this
 have fz:w.frozen? (af kb 1)=false:=h.kn.free 1;have H:=hid h;obtain⟨nN,hn1⟩:=qF (N.nN);rw[<-hn1]at h2 hnN hpos;have HN:Hid (nN=N.nN):=hid hn1;have H0:=hid h0;clear h hn1 ha h0;obtain⟨W1,hW1⟩:=qE ((w.alloc (.cells #[ac fb] 149)).setCell (af kb 1) (.bool true));obtain⟨h3,h4⟩:=(H.out.kn.keeps ((A1.refl w []).alloc (.cells #[ac fb] 149)) (by simp)).put H.out.gr.ok.pos II 1 (by omega) (.bool true) (fun a _=>rfl);rw[Nat.zero_mul,Nat.zero_add,hW1]at h3 h4;have hK1:A1 w W1 [kb]:=((A1.refl w [kb]).alloc _).trans h4;have hb:W1.cell? (af w.heap.size 0)=some (ac fb):=(h4.cell (by simp) y2Z).trans (GJ w _ _);have hbs:w.heap.size<W1.heap.size:=World.block_lt_of_cell? W1 _ hb;have hX:=H.out.keeps hK1 h3;have CS:=MM N tws pg adT capT gN capN kb fb n₀ W1 hX.gr hX.n0 hX.lf hX.ne hX.ln hX.f0 hX.f1 hX.f2 64 #[ac w.heap.size] (enters_of Tryz.func64 y1Z rfl)
  GG (FU QO) (KA N k0) (fun k hk r hr=>ZS hk hr)
  (fun W k r v hW hk hI hr hv=>gY W n₀ fb kb N tws pg adT capT gN capN k (hX.keeps hW hk) w.heap.size ((hW.cell (by exact hbs) y21Z).trans hb) (by omega) v r hr hv)
  hX.gr.ok.pos (k0.modify 0 II) hX.kn (eO hX.gr.ok H.out.kn.1 H0.out)
 have HCS:=hid CS;have HK1:=hid hK1;clear CS hX hK1 h3 h4
 go_enter Tryz.func37,Tryz.ntmps37
 have h1:(0:Int)<nN:=by omega
 go_wp2_with (first
  | (rw[hW1];go_at_call 61;refine HCS.out.mono ?_;rintro e w2 ⟨rfl,hk2,hr2⟩;have HR:=hid (And.intro hk2 hr2);clear hk2 hr2)
  | (go_at_call 61;refine HCS.out.mono ?_;rintro e w2 ⟨rfl,hk2,hr2⟩;have HR:=hid (And.intro hk2 hr2);clear hk2 hr2))
 go_end0
 exact⟨rfl,HK1.out.trans HR.out.1,HR.out.2⟩
theorem TF (w:World) (t:Nat) (ht:t<=20):Calls Tryz.prog 71 #[ab t] w fun e w'=>e=.returned (.int .u32 ((1<<<t:Nat):Int))/\w=w':=by
 go_enter Tryz.func71,Tryz.ntmps71
 go_wp2;go_ret;refine⟨?_,rfl⟩;have h:(2:Nat) ^t<4294967296:=Nat.lt_of_le_of_lt (Nat.pow_le_pow_right (by omega) ht) (by decide);have h2:(2:Int) ^t % 4294967296=(((2:Nat) ^t:Nat):Int):=by
  rw[Int.natCast_pow];refine Int.emod_eq_of_lt (Int.pow_nonneg (show(0:Int)<=2 by decide)) ?_;have h2:(((2:Nat) ^t:Nat):Int)<4294967296:=by omega
  rw[Int.natCast_pow]at h2;exact h2
 rw[Nat.one_shiftLeft,<-h2];rfl
theorem ZV (w:World) (a:Int) (b:Bool) (c d:Int):Calls Tryz.prog 115 #[.agg #[ab a,.bool b,.int .u32 c,.int .u32 d]] w fun e w'=>e=.returned (.bool (a==0))/\Below w.heap.size w w':=by
 go_enter Tryz.func115,Tryz.ntmps115
 go_wp2;go_ret;exact⟨rfl,(Below.refl _ _).alloc (lR_ _) _⟩
theorem RH {a b:Nat} (ha:a<2 ^21) (hb:b<2 ^21):bits .or .u32 (a:Int) (b:Int)=((a|||b:Nat):Int):=u32_or_nat a b (by omega) (by omega)
theorem mU {t:Nat} (h:t<=20):(1:Nat)<<<t<2 ^21:=by rw[Nat.one_shiftLeft];exact Nat.pow_lt_pow_right (by omega) (by omega)
theorem bal {X:World}{o:Obj} (h:Below w.heap.size w X):Below w.heap.size w (X.alloc o):=h.alloc h.size _
theorem bdr {X:World} (h:Below w.heap.size w X):Below w.heap.size w X.drew:=⟨h.os,h.tape,h.output,h.size,h.block⟩
def E6 (k:List Fa):Pt->Nat × Bool
 | .tok t=>(1<<<t,false)
 | .nam n=>(AL k n,emP k n)
theorem Y7  (hT:N.nT<=20)  (hf:∀n,AL k n<2 ^21) {p:Pt} (hp:J8 N p):(E6 k p).1<2 ^21:=by
 cases p with
 |tok t=>have:t<N.nT:=hp;exact mU (by omega)
 |nam n=>exact hf n
theorem cU (k:List Fa) (p:Pt) (ps:List Pt) (f:Nat):BA k (p::ps) f=if(E6 k p).2=true then BA k ps (f||| (E6 k p).1)else(f||| (E6 k p).1,false):=by
 cases p with
 |tok t=>rfl
 |nam n=>
  simp only[BA,E6,emP,decide_eq_true_eq]
theorem UY (w:World) (n₀ fb kb:Nat) (N:NG) (tws:List ByteArray) (pg:List Nm) (adT:Option Addr) (capT gN capN:Nat) (k:List Fa) (h:FcM w n₀ fb kb N tws pg adT capT gN capN k) (p:Pt) (hp:J8 N p):
  Calls Tryz.prog 88 #[ac fb,.agg #[.bool (AQ p),ab (AP p)]] w fun e w'=>e=.returned (.tuple #[.int .u32 (E6 k p).1,.bool (E6 k p).2])/\Below w.heap.size w w':=by
 have hlw:=h.ln;have hlf:=h.lf;have hkw:=h.kn.lt;have hT20:=h.gr.leT;have hn20:=h.gr.leN;cases p with
 |tok t=>
  have ht:t<N.nT:=hp;have CO:=TF (w.alloc (.cells #[.bool false,ab t] 105)) t (by omega);obtain⟨x,hx⟩:∃x:Nat,1<<<t=x:=⟨_,rfl⟩;have HX:Hid (E6 k (.tok t)=(x,false)):=hid (by rw[<-hx];rfl);rw[hx]at CO;simp only[AQ,AP];clear h hp hx
  go_enter Tryz.func88,Tryz.ntmps88
  go_wp2_with (go_at_call 71;refine CO.mono ?_;rintro e w2 ⟨rfl,rfl⟩;clear CO)
  go_ret2
  exact⟨by rw[HX.out];rfl,bal (Below.refl _ _)⟩
 |nam n=>
  have hn:n<N.nN:=hp;have fx:=h.f2;obtain⟨a,ha⟩:∃a,k[n]?=some a:=⟨_,gE (by rw[h.kn.1];exact hn)⟩;obtain⟨c0,c1,c2,c3⟩:=h.kn.cells ha;have HX:Hid (E6 k (.nam n)=(a.first,(a.least:Int)==0)):=hid (by
   show(AL k n,emP k n)=_;unfold emP;rw[ZF ha,jO ha]
   congr 1
   rw[Bool.eq_iff_iff];simp)
  obtain⟨nN,hn1⟩:=qF (N.nN);rw[<-hn1]at fx hn20 hn;simp only[AQ,AP];clear h hp ha hn1
  go_enter Tryz.func88,Tryz.ntmps88
  go_wp2;refine AE (fun w'=>w'.cell? (af fb 2)=some (ae kb nN nN)/\w'.cell? (af w.heap.size 1)=some (ab n)/\w'.cell? (af kb (n*4))=some (ab a.least)/\w'.cell? (af kb (n*4+1))=some (.bool a.reached)/\w'.cell? (af kb (n*4+2))=some (.int .u32 a.first)/\w'.cell? (af kb (n*4+3))=some (.int .u32 a.follow)) y1Z y1Z ⟨A2 _ fx,BG _ _ _ 1,A2 _ c0,A2 _ c1,A2 _ c2,A2 _ c3⟩ (fun hH=>?_);simp only[AC,BM,AO];refine tB 0 hH ?_;refine tB 1 hH ?_;refine tB 2 hH ?_;refine tB 3 hH ?_;refine tB 4 hH ?_;refine tB 5 hH ?_;refine tB 6 hH ?_;refine tB 7 hH ?_;refine tL ?_;refine tS 8 fun K hK=>?_
  refine tM ?_;go_simp;refine hK.out _ _ ?_ fun hH=>?_
  ·go_keep
  clear hK K;refine tB 9 hH ?_;refine tL ?_;refine wpAnyH_done y1Z ?_ _;clear hH;show wpList _ _ _ _ _ _;go_wp2;obtain⟨W2,hW2⟩:=qE (((w.alloc (.cells #[.bool true,ab n] 105)).alloc (.cells #[ab a.least,.bool a.reached,.int .u32 a.first,.int .u32 a.follow] 151)).drew);have dd:∀j:Nat,W2.cell? (af (w.heap.size+1) j)=(#[ab a.least,.bool a.reached,.int .u32 a.first,.int .u32 a.follow]:Array Value)[j]?:=fun j=>by
   rw[<-hW2];have h1:=BG (w.alloc (.cells #[.bool true,ab n] 105)) #[ab a.least,.bool a.reached,.int .u32 a.first,.int .u32 a.follow] 151 j;rw[World.size_alloc]at h1;exact h1
  have d0:W2.cell? (af (w.heap.size+1) 0)=some (ab a.least):=dd 0;have d1:W2.cell? (af (w.heap.size+1) 1)=some (.bool a.reached):=dd 1;have d2:W2.cell? (af (w.heap.size+1) 2)=some (.int .u32 a.first):=dd 2;have d3:W2.cell? (af (w.heap.size+1) 3)=some (.int .u32 a.follow):=dd 3;have hBW2:Below w.heap.size w W2:=by rw[<-hW2];exact bdr (bal (bal (Below.refl _ _)))
  have hlw2:w.heap.size+1<W2.heap.size:=World.block_lt_of_cell? _ _ d0;rw[hW2];clear hW2 dd c0 c1 c2 c3 fx;refine wp_region_held_drew (S:=fun w'=>w'.cell? (af (w.heap.size+1) 0)=some (ab a.least)/\w'.cell? (af (w.heap.size+1) 1)=some (.bool a.reached)/\w'.cell? (af (w.heap.size+1) 2)=some (.int .u32 a.first)/\w'.cell? (af (w.heap.size+1) 3)=some (.int .u32 a.follow)/\Below w.heap.size w w') y1Z ⟨d0,d1,d2,d3,bdr hBW2⟩ (fun hH=>?_);refine tB 0 hH ?_;refine tB 1 hH ?_;refine tB 2 hH ?_;refine tL ?_;refine tS 3 fun K hK=>?_
  refine tM ?_
  go_simp;refine(ZV _ _ _ _ _).mono ?_;rintro e w5 ⟨rfl,hb5⟩;try dsimp only
  refine hK.out _ _ ?_ fun hH=>?_
  ·exact⟨(hb5.cell (by exact hlw2)).trans hH.1,(hb5.cell (by exact hlw2)).trans hH.2.1,(hb5.cell (by exact hlw2)).trans hH.2.2.1,(hb5.cell (by exact hlw2)).trans hH.2.2.2.1,hH.2.2.2.2.trans (hb5.mono hH.2.2.2.2.size)⟩
  clear hK K;refine tB 4 hH ?_;refine tB 5 hH ?_;refine tL ?_;refine wpAnyH_done y1Z ?_ _;have HBE:=hid hH.2.2.2.2;clear hH d0 d1 d2 d3 hb5 hBW2;go_wp2
  go_ret2
  exact⟨by rw[HX.out];rfl,HBE.out⟩
theorem PY (w:World) (n₀ fb kb:Nat) (N:NG) (tws:List ByteArray) (pg:List Nm) (adT:Option Addr) (capT gN capN:Nat) (k:List Fa) (h:FcM w n₀ fb kb N tws pg adT capT gN capN k) (hfh:∀n,AL k n<2 ^21) (v:Value) (ps:List Pt) (hv:C0 w n₀ v ps) (hps:AY N ps) (hlen:ps.length<=8):
  Calls Tryz.prog 70 #[ac fb,v] w fun e w'=>e=.returned (.tuple #[.int .u32 (BA k ps 0).1,.bool (BA k ps 0).2])/\Below w.heap.size w w':=by
 obtain⟨ad,cap,rfl,hcap,hcs⟩:=hv;obtain⟨L,hL⟩:=qF (ps.length);rw[<-hL]at hcap hcs hlen ⊢;have hlw:=h.ln;have hlf:=h.lf;have hkw:=h.kn.lt;have hT20:=h.gr.leT;have hn20:=h.gr.leN;have H:=hid h;have HL:Hid (L=ps.length):=hid hL;have HC:=hid hcs;have HP:Hid (AY N ps):=hid hps;have HF:Hid (∀n,AL k n<2 ^21):=hid hfh;obtain⟨nN,hn1⟩:=qF (N.nN);rw[<-hn1]at hn20;have HN:Hid (nN=N.nN):=hid hn1;clear h hL hcs hps hfh hn1
 go_enter Tryz.func70,Tryz.ntmps70
 go_wp2
 go_loopw [6,13] (fun s i wr=>∃j f:Nat,j<=L/\i=ab j/\s=.int .u32 f/\f<2 ^21/\Hid (BA k ps 0=BA k (ps.drop j) f)/\Hid (Below w.heap.size w wr)) (fun _ i _=>L - (intOf i).toNat)
 case atStart=>exact⟨0,0,Nat.zero_le _,rfl,rfl,by decide,rfl,Below.refl _ _⟩
 case round=>
  obtain⟨j,f,hj,rfl,rfl,hf,HE,HB⟩:=hrel;have HFl:Hid (f<2 ^21):=hid hf;clear hf
  by_cases hlt:j<L
  ·obtain⟨p,hp⟩:∃p,ps[j]?=some p:=⟨_,gE y32Z⟩
   obtain⟨g,off,rfl,hg,hcl⟩:=HC.out (by omega);have hszw:=HB.out.size;have hgw:g<wr.heap.size:=by omega
   have p0:=(HB.out.cell (p:=(af g (off+j*2))) y6Z).trans (hcl j p hp).1;have p1:=(HB.out.cell (p:=(af g (off+j*2+1))) y6Z).trans (hcl j p hp).2;have hpt:J8 N p:=by
    have:=HP.out.at hp;cases p with
    |tok t=>exact this
    |nam n=>exact this
   have hfl:=Y7 hT20 HF.out hpt;have or1:=RH HFl.out hfl;have HO:Hid (f||| (E6 k p).1<2 ^21):=hid (Nat.or_lt_two_pow HFl.out hfl);have hD:BA k ps 0=if(E6 k p).2=true then BA k (ps.drop (j+1)) (f||| (E6 k p).1)else(f||| (E6 k p).1,false):=by
    rw[HE.out,SB hp,cU]
   have HD:=hid hD;have CF:Hid (Calls Tryz.prog 88 #[ac fb,.agg #[.bool (AQ p),ab (AP p)]] (wr.alloc (.cells #[.bool (AQ p),ab (AP p)] 105)) fun e w'=>e=.returned (.tuple #[.int .u32 (E6 k p).1,.bool (E6 k p).2])/\Below (wr.alloc (.cells #[.bool (AQ p),ab (AP p)] 105)).heap.size (wr.alloc (.cells #[.bool (AQ p),ab (AP p)] 105)) w'):=hid (
    UY _ n₀ fb kb N tws pg adT capT gN capN k (H.out.below (bal HB.out)) p hpt)
   obtain⟨pi,hpi⟩:=qE (AQ p);obtain⟨pn,hpn⟩:=qE (AP p);obtain⟨x,e,hxe⟩:∃x e,E6 k p=(x,e):=⟨_,_,rfl⟩;rw[hpi,hpn,hxe]at CF;rw[hxe]at HD HO or1;rw[hpi]at p0;rw[hpn]at p1;simp only at CF HD HO or1;clear hcl hp hpt hfl hD hpi hpn hxe;cases e
   ·have HE2:Hid (BA k ps 0=(f|||x,false)):=hid (by rw[HD.out];simp)
    go_wp2_with (go_at_call 88;refine CF.out.mono ?_;rintro e w2 ⟨rfl,hb2⟩;have HB2:=hid (HB.out.trans (((bal (Below.refl _ _)).trans (hb2.mono (by simp))).mono HB.out.size));clear hb2 CF)
    go_ret2
    exact⟨by rw[HE2.out];rfl,HB2.out⟩
   ·have HE2:Hid (BA k ps 0=BA k (ps.drop (j+1)) (f|||x)):=hid (by rw[HD.out];simp)
    go_wp2_with (go_at_call 88;refine CF.out.mono ?_;rintro e w2 ⟨rfl,hb2⟩;have HB2:=hid (HB.out.trans (((bal (Below.refl _ _)).trans (hb2.mono (by simp))).mono HB.out.size));clear hb2 CF)
    go_roundw
    case rel=>exact⟨j+1,f|||x,by omega,by go_num,rfl,HO.out,HE2,HB2⟩
    case measure=>simp[intOf];omega
  ·have HE2:Hid (BA k ps 0=(f,true)):=hid (by
    rw[HE.out,List.drop_eq_nil_of_le y45Z];rfl)
   go_wp2
   go_ret2
   exact⟨by rw[HE2.out];rfl,HB.out⟩
theorem Mz12 {P:Prop} (h:P:=by
  go_enter Tryz.func73,Tryz.ntmps73
  go_wp2_with (go_at_call 70;refine HCB.out.mono ?_;rintro e w2 ⟨rfl,hb2⟩;have HB:=hid hb2;clear hb2)
  go_ret;exact⟨by rw[HE2.out];rfl,HB.out⟩):P:=h
theorem YI (w:World) (n₀ fb kb:Nat) (N:NG) (tws:List ByteArray) (pg:List Nm) (adT:Option Addr) (capT gN capN:Nat) (k:List Fa) (h:FcM w n₀ fb kb N tws pg adT capT gN capN k) (hfh:∀n,AL k n<2 ^21) (v:Value) (ps:List Pt) (hv:C0 w n₀ v ps) (hps:AY N ps) (hlen:ps.length<=8) (fo:Nat) (hfo:fo<2 ^21):
  Calls Tryz.prog 73 #[ac fb,v,.int .u32 fo] w fun e w'=>e=.returned (.int .u32 (DU k ps fo))/\Below w.heap.size w w':=by
 have CB:=PY w n₀ fb kb N tws pg adT capT gN capN k h hfh v ps hv hps hlen;have hlt:=KL h.gr.leT hfh ps 0 hps (by decide);have or1:=RH hlt hfo;have HE:Hid (DU k ps fo=if(BA k ps 0).2=true then(BA k ps 0).1|||fo else(BA k ps 0).1):=hid rfl;obtain⟨ad,cap,rfl,_,_⟩:=hv;obtain⟨b,e,hbe⟩:∃b e,BA k ps 0=(b,e):=⟨_,_,rfl⟩;rw[hbe]at CB or1 HE;simp only at CB or1 HE;have HCB:=hid CB;clear h hfh hps hlen hfo hlt CB hbe;cases e
 ·have HE2:Hid (DU k ps fo=b):=hid (by rw[HE.out];simp)
  exact Mz12
 ·have HE2:Hid (DU k ps fo=b|||fo):=hid (by rw[HE.out];simp)
  exact Mz12
theorem KnV.first {w:World}{kb n:Nat}{k:List Fa} (h:KnV w kb n k) {i:Nat} (hi:i<n) {a:Fa} (ha:k[i]?=some a) (x:Nat):
  KnV (w.setCell (af kb (i*4+2)) (.int .u32 ((a.first|||x:Nat):Int))) kb n (k.modify i fun a=>{a with first:=a.first|||x})/\A1 w (w.setCell (af kb (i*4+2)) (.int .u32 ((a.first|||x:Nat):Int))) [kb]:=
 h.put hi _ 2 (by omega) _ (fun b hb=>by rw[ha]at hb;cases hb;rfl)
theorem KnV.follow {kb:Nat} (h:KnV w kb n k) {i:Nat} (hi:i<n) {a:Fa} (ha:k[i]?=some a) (x:Nat):
  KnV (w.setCell (af kb (i*4+3)) (.int .u32 ((a.follow|||x:Nat):Int))) kb n (k.modify i (orF x))/\A1 w (w.setCell (af kb (i*4+3)) (.int .u32 ((a.follow|||x:Nat):Int))) [kb]:=
 h.put hi _ 3 (by omega) _ (fun b hb=>by rw[ha]at hb;cases hb;rfl)
theorem iH (w:World) (n₀ fb kb:Nat) (N:NG) (tws:List ByteArray) (pg:List Nm) (adT:Option Addr) (capT gN capN:Nat) (k:List Fa) (h:FcM w n₀ fb kb N tws pg adT capT gN capN k) (hfh:∀n,AL k n<2 ^21)
  (Bx:Nat) (hBx:w.cell? (af Bx 0)=some (ac fb)) (v:Value) (r:Nat × List Pt) (hr:r∈N.rules) (hv:C0 w n₀ v r.2):
  Calls Tryz.prog 69 #[.pointer (some (af kb (r.1*4))),v,ac Bx] w fun e w'=>e=.returned (.tuple #[])/\KnV w' kb N.nN (EE k r)/\A1 w w' [kb]:=by
 obtain⟨m,ps⟩:=r;have hm:m<N.nN:=h.gr.ok.lt _ hr;simp only at hv ⊢;have hps:AY N ps:=h.gr.ok.ps hr;have CB:=PY w n₀ fb kb N tws pg adT capT gN capN k h hfh v ps hv hps (h.gr.ok.parts _ hr);obtain⟨a,ha⟩:∃a,k[m]?=some a:=⟨_,gE (by rw[h.kn.1];exact hm)⟩;have hal:a.first<2 ^21:=by rw[<-jO ha];exact hfh m
 have or1:=RH hal (KL h.gr.leT hfh ps 0 hps (by decide));have c2:=(h.kn.cells ha).2.2.1;have fz:=h.kn.free (m*4+2);have hkw:=h.kn.lt;obtain⟨ad,cap,rfl,_,_⟩:=hv;have hst:EE k (m,ps)=k.modify m fun a=>{a with first:=a.first||| (BA k ps 0).1}:=rfl
 obtain⟨b,e,hbe⟩:∃b e,BA k ps 0=(b,e):=⟨_,_,rfl⟩;rw[hbe]at CB or1 hst;simp only at CB or1 hst;have HCB:=hid CB;have HST:=hid hst;have HA:=hid ha;have HM:Hid (m<N.nN):=hid hm;have H:=hid h;clear h hfh hr hps hal CB hst ha hbe hm
 go_enter Tryz.func69,Tryz.ntmps69
 go_wp2_with (go_at_call 70;refine HCB.out.mono ?_;rintro e w2 ⟨rfl,hb2⟩;replace c2:=(hb2.cell (p:=(af kb (m*4+2))) (by exact hkw)).trans c2;replace fz:=(World.frozen?_of_block (w:=w) (a:=(af kb (m*4+2))) (hb2.block kb hkw)).trans fz;have HB:=hid hb2;clear hb2)
 go_end0
 obtain⟨h1,h2⟩:=KnV.first (H.out.kn.keeps (A1.of_below HB.out []) (by simp)) HM.out HA.out b;exact⟨rfl,by rw[HST.out];exact h1,(A1.of_below HB.out _).trans h2⟩
end Go.Proofs.YtjjggdcnpndgjabGreatDoor
