import Derived.Test.YtjjggdcnpndgjaaGreatDoorHJ8
import Derived.Laws.IdiomStrings
set_option linter.unusedSimpArgs false
set_option maxRecDepth 100000
namespace Go.Proofs.YtjjggdcnpndgjaaGreatDoor
abbrev jx:=@List.mem_zipIdx_iff_getElem?
abbrev oq:=@List.getElem_singleton
abbrev ow:=@List.mem_flatMap
abbrev rj:=@List.flatMap_map
abbrev rq:=@List.map_flatMap
abbrev xJ:=@List.findIdx?_eq_none_iff
open Go.RowKit
variable {G:Gr}{M l:List ByteArray}{P:List Ln}{u x:ByteArray}
def Dr (c:Int):Pt:=if c % 2=1 then .yB (c / 2).toNat else .tok (c / 2).toNat
def B2 (P:List Ln):List Ln:=P.filter λx=>x.2.1==0
def AM (P:List Ln):List Ln:=P.filter λx=>x.2.1==2
def pL (x:Ln):ByteArray × Int × Int:=(nth x.2.2 1,C4 (nth x.2.2 2).data.toList,C4 (nth x.2.2 3).data.toList)
def D4 (P:List Ln):ByteArray->Int:=EO P 0 0 (λ_=>0)
def TW (f:ByteArray->Int) (x:Ln):Nm:=(nth x.2.2 1,(A8 x.2.2).map λr=>r.map λw=>Dr (f w))
def L9 (P:List Ln):List ByteArray:=(B2 P).map λx=>nth x.2.2 1
def Ao (f:ByteArray->Int) (P:List Ln):List Nm:=(AM P).map (TW f)
def PB (pg:List Nm):List (Nat × List Pt):=pg.zipIdx.flatMap λx=>x.1.2.map λps=>(x.2,ps)
def EV (f:ByteArray->Int):List Ln->Nat->Nat->Nat
 | [],_,_=>0
 |x::P,t,u=>if x.2.1=1/\f (nth x.2.2 1)=2*(t:Int)/\f (nth x.2.2 2)=2*(u:Int)then(C4 (nth x.2.2 3).data.toList).toNat else EV f P t u
theorem fO {f:ByteArray->Int}{t u c:Nat}:∀{P:List Ln},(∀x∈P,x.2.1=1->f (nth x.2.2 1)=2*(t:Int)->f (nth x.2.2 2)=2*(u:Int)->(C4 (nth x.2.2 3).data.toList).toNat=c)->
  (c≠0->∃x∈P,x.2.1=1/\f (nth x.2.2 1)=2*(t:Int)/\f (nth x.2.2 2)=2*(u:Int))->EV f P t u=c
 | [],_,h=>by
  by_cases hc:c=0
  ·rw[hc];rfl
  ·obtain⟨x,hx,_⟩:=h hc;cases hx
 |x::P,h1,h2=>by
  rw[EV];split
  ·rename_i hc
   exact h1 x (eo ..) hc.1 hc.2.1 hc.2.2
  ·rename_i hc
   refine fO (λy hy=>h1 y (fj _ hy)) λh0=>?_
   obtain⟨y,hy,hm⟩:=h2 h0
   rcases bh.1 hy with rfl |hy
   ·exact absurd hm hc
   ·exact⟨y,hy,hm⟩
def Ch (P:List Ln):NG where
 nT:=(L9 P).length
 nN:=(Ao (D4 P) P).length
 put:=λt=>(((B2 P)[t]?.map λx=>C4 (nth x.2.2 2).data.toList).getD 0).toNat
 drop:=λt=>(((B2 P)[t]?.map λx=>C4 (nth x.2.2 3).data.toList).getD 0).toNat
 swp:=EV (D4 P) P
 rules:=PB (Ao (D4 P) P)
def ER (l:List ByteArray) (x:ByteArray):Option Nat:=l.findIdx? λt=>t.toList==x.toList
theorem RZ (l:List ByteArray) (x:ByteArray):Q3 l x=match ER l x with
  |some i=>(i:Int)
  |none=> -1:=rfl
theorem TA (l:List ByteArray) (u x:ByteArray):ER (l++ [u]) x=match ER l x with
  |some i=>some i
  |none=>if(u.toList==x.toList)=true then some l.length else none:=by
 unfold ER;rw[List.findIdx?_append];cases h:l.findIdx? λt=>t.toList==x.toList with
 |some i=>rfl
 |none=>
  simp only[Option.none_or,List.findIdx?_cons,List.findIdx?_nil];cases hb:(u.toList==x.toList) <;> simp
theorem JH:ER l x=none↔BW l x=false:=by
 unfold ER BW;rw[xJ,um];constructor
 ·intro h y hy;rw[h y hy];decide
 ·intro h y hy;have:=h y hy;simpa using this
theorem WO {i:Nat} (h:ER l x=some i):i<l.length:=by
 unfold ER at h;exact(oo.1 h).1
theorem VP (x s:ByteArray):EF x s=(x.toList==s.toList):=by
 unfold EF;rw[jf,jf,og];simp
theorem QJ (T:List (ByteArray × Int × Int)) (u:ByteArray):D2 T u=BW (Bzx T) u:=by
 unfold D2 BW Bzx;rw[List.any_map];rfl
def IR (f:ByteArray->Int) (T:List ByteArray) (M:List ByteArray):Prop:=
 ∀s,f s=match ER M s with
  |some k=>2*(k:Int)+1
  |none=>match ER T s with
   |some k=>2*(k:Int)
   |none=>0
theorem Q7  (h:(u.toList==x.toList)=true) (l:List ByteArray):BW l x=BW l u:=by
 rw[lq]at h;unfold BW;rw[h]
theorem IR.tok {f:ByteArray->Int}{T:List ByteArray} (h:IR f T M)  (hT:BW T u=false) (hM:BW M u=false):
  IR (λs=>if EF u s=true then 2*(T.length:Int)else f s) (T++ [u]) M:=by
 intro s;simp only[VP,TA]
 by_cases e:(u.toList==s.toList)=true
 ·have h1:ER M s=none:=by rw[JH,Q7 e,hM]
  have h2:ER T s=none:=by rw[JH,Q7 e,hT]
  rw[aq e,h1,h2,aq e]
 ·rw[au e,h s,au e]
  cases ER M s <;> cases ER T s <;> rfl
theorem IR.yB {f:ByteArray->Int}{T:List ByteArray} (h:IR f T M)  (hM:BW M u=false):
  IR (λs=>if EF u s=true then 2*(M.length:Int)+1 else f s) T (M++ [u]):=by
 intro s;simp only[VP,TA]
 by_cases e:(u.toList==s.toList)=true
 ·have h1:ER M s=none:=by rw[JH,Q7 e,hM]
  rw[aq e,h1,aq e]
 ·rw[au e,h s,au e]
  cases ER M s <;> rfl
def ZR (M:List ByteArray):Prop:=∀i u,M[i]?=some u->ER M u=some i
theorem ZR.add  (h:ZR M)  (hM:BW M u=false):ZR (M++ [u]):=by
 intro i v hv;rw[TA]
 by_cases hi:i<M.length
 ·rw[aL hi]at hv
  rw[h i v hv]
 ·rw[zQ (by omega)]at hv
  obtain⟨h1,h2⟩:=yS.1 hv;simp at h1;have e:v=u:=by simp only[oq]at h2;exact h2.symm
  subst e;rw[JH.2 hM];simp;omega
structure sS (P:List Ln) (G G':Gr) (f:ByteArray->Int):Prop where
 toks:G'.toks=G.toks++(B2 P).map pL
 names:G'.names=G.names++(AM P).map λx=>nth x.2.2 1
 rules:G'.rules=G.rules++(AM P).flatMap λx=>(A8 x.2.2).map λr=>(nth x.2.2 1,r)
 code:IR f (Bzx G'.toks) G'.names
 once:ZR G'.names
theorem oM (T:List (ByteArray × Int × Int)) (x:ByteArray × Int × Int):Bzx (T++ [x])=Bzx T++ [x.1]:=by unfold Bzx;simp
theorem KO:∀(ls:List (Nat × List ByteArray)) (G:Gr) (m:Int) (t n r:Nat) (ws:List ByteArray) (f:ByteArray->Int),(∀x∈ls,AR x.2=true)->Inv G ws t n r->
  IR f (Bzx G.toks) G.names->ZR G.names->(E5 ls G m).2.2=none->sS (AF ls) G (E5 ls G m).1 (EO (AF ls) t n f)
 | [],G,m,t,n,r,ws,f,_,hI,hf,ho,_=>⟨by simp[E5,AF,B2],by simp[E5,AF,AM],by simp[E5,AF,AM],hf,ho⟩
 |x::ls,G,m,t,n,r,ws,f,hall,hI,hf,ho,hn=>by
  have hx:=hall x (by simp);have Gh:∀y∈ls,AR y.2=true:=λy hy=>hall y (by simp[hy])
  by_cases h3:(D9 G x.2).2=3
  ·rw[E5,aq h3]at hn;cases hn
  ·have ep:∀mm,mm=(if(D9 G x.2).2=4/\m<0 then(x.1:Int)else m)->E5 (x::ls) G m=E5 ls (D9 G x.2).1 mm:=λmm h=>by rw[E5,au h3,h]
   obtain⟨mm,Pc⟩:=qF ((if(D9 G x.2).2=4/\m<0 then(x.1:Int)else m));rw[ep mm Pc]at hn ⊢
   by_cases h1:x.2.length=1
   ·have hs:=UH hI hx h1
    rw[KC h1];rw[hs.1]at hn ⊢;exact KO ls G mm t n r ws f Gh hI hf ho hn
   ·rw[ME h1]
    rcases KP hx h1 with⟨hsh,hlen,htk⟩ | ⟨hsh,hlen,htk,_⟩ | ⟨hsh,hlen,hnm,_⟩
    ·have h0:((nth x.2 0).toList== [116,111,107,101,110])=true:=F9 hx h1 hsh
     rw[hsh]
     rcases aF hI h0 htk with⟨hc,h3'⟩ | ⟨hc,Gi,_⟩
     ·exact absurd h3' h3
     ·have hno:=hI.aah htk
      have hnt:D2 G.toks (nth x.2 1)=false:=by
       cases hq:D2 G.toks (nth x.2 1)with
       |false=>rfl
       |true=>exact absurd ((hI.has _).1 (.inl hq)) hc
      have eg:(D9 G x.2).1= {G with toks:=G.toks++ [(nth x.2 1,C4 (nth x.2 2).data.toList,C4 (nth x.2 3).data.toList)]}:=by
       unfold D9;rw[aq h0,au (by rw[hnt];decide)]
      have hf2:IR (λs=>if EF (nth x.2 1) s=true then 2*(t:Int)else f s) (Bzx (D9 G x.2).1.toks) (D9 G x.2).1.names:=by
       rw[eg];simp only[oM];have h4:=hf.tok (u:=nth x.2 1) (by rw[<-QJ];exact hnt) hno;rw[<-hI.nt];unfold Bzx at h4 ⊢
       rwa [lM]at h4
      have hg:=KO ls _ mm _ _ _ _ _ Gh Gi hf2 (by rw[eg];exact ho) hn;refine⟨?_,?_,?_,?_,hg.once⟩
      ·rw[hg.toks,eg];simp[B2,pL]
      ·rw[hg.names,eg];simp[AM]
      ·rw[hg.rules,eg];simp[AM]
      ·have e:EO ((x.1,0,x.2)::AF ls) t n f=EO (AF ls) (t+1) n (λs=>if EF (nth x.2 1) s=true then 2*(t:Int)else f s):=rfl
       rw[e];exact hg.code
    ·have h0:=F9 hx h1 hsh
     rw[hsh];have hs:=YN hI h0.1 h0.2;have eg:(D9 G x.2).1= {G with Vs:=G.Vs++ [(nth x.2 1,nth x.2 2,C4 (nth x.2 3).data.toList)]}:=by
      unfold D9;rw[au (by rw[h0.1];decide),aq h0.2]
     have hg:=KO ls _ mm _ _ _ _ f Gh hs.1 (by rw[eg];exact hf) (by rw[eg];exact ho) hn;refine⟨?_,?_,?_,?_,hg.once⟩
     ·rw[hg.toks,eg];simp[B2]
     ·rw[hg.names,eg];simp[AM]
     ·rw[hg.rules,eg];simp[AM]
     ·have e:EO ((x.1,1,x.2)::AF ls) t n f=EO (AF ls) t n f:=rfl
      rw[e];exact hg.code
    ·have h0:=F9 hx h1 hsh
     rw[hsh]
     rcases Y3 hI h0.1 h0.2.1 h0.2.2 hnm with⟨hc,h3'⟩ | ⟨hc,Gi,_⟩
     ·exact absurd h3' h3
     ·have hnn:BW G.names (nth x.2 1)=false:=by
       cases hq:BW G.names (nth x.2 1)with
       |false=>rfl
       |true=>exact absurd ((hI.has _).1 (.inr hq)) hc
      have eg:(D9 G x.2).1= {G with names:=G.names++ [nth x.2 1],rules:=G.rules++(A8 x.2).map λr=>(nth x.2 1,r)}:=by
       unfold D9;rw[au (by rw[h0.1];decide),au (by rw[h0.2.1];decide),aq h0.2.2,au (by rw[hnn];decide),(XT G.rules (nth x.2 1) x.2).1]
      have hf2:IR (λs=>if EF (nth x.2 1) s=true then 2*(n:Int)+1 else f s) (Bzx (D9 G x.2).1.toks) (D9 G x.2).1.names:=by
       rw[eg,<-hI.nn];exact hf.yB hnn
      have hg:=KO ls _ mm _ _ _ _ _ Gh Gi hf2 (by rw[eg];exact ho.add hnn) hn;refine⟨?_,?_,?_,?_,hg.once⟩
      ·rw[hg.toks,eg];simp[B2]
      ·rw[hg.names,eg];simp[AM]
      ·rw[hg.rules,eg];simp[AM]
      ·have e:EO ((x.1,2,x.2)::AF ls) t n f=EO (AF ls) t (n+1) (λs=>if EF (nth x.2 1) s=true then 2*(n:Int)+1 else f s):=rfl
       rw[e];exact hg.code
theorem XS:∀(P:List Ln) (t n r:Nat),BU P t n r=none->t<=20->n<=20->r<=60->
  t+(B2 P).length<=20/\n+(AM P).length<=20/\r+((AM P).flatMap λx=>A8 x.2.2).length<=60/\∀x∈AM P,DW (A8 x.2.2)<=8
 | [],t,n,r,_,h1,h2,h3=>⟨by simpa[B2] using h1,by simpa[AM] using h2,by simpa[AM] using h3,λx hx=>by simp[AM]at hx⟩
 |x::P,t,n,r,h,h1,h2,h3=>by
  rw[BU]at h
  by_cases hc:20< (if x.2.1=0 then t+1 else t)\/20< (if x.2.1=2 then n+1 else n)\/60< (if x.2.1=2 then r+(A8 x.2.2).length else r)\/8< (if x.2.1=2 then DW (A8 x.2.2)else 0)
  ·rw[aq hc]at h;cases h
  ·rw[au hc]at h
   have ih:=XS P _ _ _ h (by omega) (by omega) (by omega);clear h
   by_cases h0:x.2.1=0
   ·have Kg:¬x.2.1=2:=by omega
    simp only[aq h0,au Kg]at ih;have e1:B2 (x::P)=x::B2 P:=by unfold B2;rw[qp Rf]
    have e2:AM (x::P)=AM P:=by unfold AM;rw[qq Rf]
    rw[e1,e2];exact⟨by rw[lC];omega,ih.2.1,ih.2.2.1,ih.2.2.2⟩
   ·have e1:B2 (x::P)=B2 P:=by unfold B2;rw[qq Rf]
    by_cases Kg:x.2.1=2
    ·simp only[au h0,aq Kg]at ih hc
     have e2:AM (x::P)=x::AM P:=by unfold AM;rw[qp (by simp[Kg])]
     rw[e1,e2];refine⟨ih.1,by rw[lC];omega,by rw[gy,lA];omega,λy hy=>?_⟩
     rcases bh.1 hy with rfl |hy
     ·omega
     ·exact ih.2.2.2 y hy
    ·simp only[au h0,au Kg]at ih
     have e2:AM (x::P)=AM P:=by unfold AM;rw[qq (by simp[Kg])]
     rw[e1,e2];exact ih
theorem WD {rs:List (List ByteArray)}:∀{r:List ByteArray},r∈rs->r.length<=DW rs:=by
 have h:∀(rs:List (List ByteArray)) (m:Nat),m<=rs.foldl (λm r=>max m r.length) m/\∀r∈rs,r.length<=rs.foldl (λm r=>max m r.length) m:=by
  intro rs
  induction rs with
  |nil=>intro m;exact⟨yF _,λr hr=>by cases hr⟩
  |cons a rs ih=>
   intro m;rw[ld];have h1:=ih (max m a.length);refine⟨by omega,λr hr=>?_⟩
   rcases bh.1 hr with rfl |hr
   ·omega
   ·exact h1.2 r hr
 intro r hr;exact(h rs 0).2 r hr
theorem TL:∀{P:List Ln}{ws:List ByteArray},F3 ws P=none->∀x∈P,EW ws x=false
 | [],_,_,x,hx=>by cases hx
 |y::P,ws,h,x,hx=>by
  rw[F3]at h;split at h
  ·cases h
  ·rename_i hc
   rcases bh.1 hx with rfl |hx
   ·simpa using hc
   ·exact TL h x hx
structure Ct (P:List Ln) (G:Gr):Prop where
 g:sS P G0 G (D4 P)
 nT:(B2 P).length<=20
 nN:(AM P).length<=20
 nR:((AM P).flatMap λx=>A8 x.2.2).length<=60
 long:∀x∈AM P,DW (A8 x.2.2)<=8
 pos:0< (AM P).length
 known:∀x∈AM P,∀r∈A8 x.2.2,∀u∈r,D2 G.toks u=true\/BW G.names u=true
 num:∀x∈B2 P,DH (nth x.2.2 2)=true
 afe:∀x∈B2 P,DH (nth x.2.2 3)=true
 swn:∀x∈P,x.2.1=1->DH (nth x.2.2 3)=true/\x.2.2.length=4
 swk:∀x∈P,x.2.1=1->D2 G.toks (nth x.2.2 1)=true/\D2 G.toks (nth x.2.2 2)=true
 swm:∀x∈P,x.2.1=1->BW G.names (nth x.2.2 1)=false/\BW G.names (nth x.2.2 2)=false
theorem UV (s:ByteArray) (he:(GR s).1=0):Ct (AF (AG s 0).1) (GR s).2.2:=by
 have hp:(EA s).1=0:=by rw[QZ];exact he
 unfold EA at hp;unfold GR at he ⊢
 by_cases h1:4000<s.size
 ·rw[aq h1]at he;cases he
 ·rw[au h1]at he hp ⊢
  by_cases h2:(AG s 0).2<s.size
  ·rw[aq h2]at he;cases he
  ·rw[au h2]at he hp ⊢
   have hall:∀x∈(AG s 0).1,AR x.2=true:=λx hx=>(PQ s _ _ x hx).2
   have hI:Inv G0 [] 0 0 0:=⟨λu=>by simp[D2,BW,G0,cnt],λx hx=>by simp[G0]at hx,λx hx=>by simp[G0]at hx,rfl,rfl,rfl⟩;have hS:=KE (AG s 0).1 G0 (-1) 0 0 0 [] hall hI (.inl ⟨rfl,by omega⟩);have hV:=KO (AG s 0).1 G0 (-1) 0 0 0 [] (λ_=>0) hall hI (λs=>rfl) (λi u h=>by simp[G0]at h)
   rcases hpp:E5 (AG s 0).1 G0 (-1)with⟨G,m,o⟩
   rw[hpp]at hS hV he;cases o with
   |some a=>simp only at he;cases he
   |none=>
    obtain⟨ht,hm,t',r',hI'⟩:=hS.2 rfl;rw[ht]at hp;simp only at hp he hm ⊢;cases hM:BU (AF (AG s 0).1) 0 0 0 with
    |some a=>rw[hM]at hp;cases hp
    |none=>
     rw[hM]at hp hm;rw[au (by decide)]at hm;have hm':m= -1:=hm;have e0:¬(0:Int)<=m:=by omega
     simp only[au e0]at he ⊢;simp only at hp;split at hp
     ·rename_i akI
      cases hU:F3 (AH (AF (AG s 0).1)) (AF (AG s 0).1)with
      |some a=>rw[hU]at hp;cases hp
      |none=>
       by_cases hl0:G.names.length=0
       ·rw[aq hl0]at he;cases he
       ·rw[au hl0]at he ⊢
        have hG:=hV rfl;have hmn:=XS _ 0 0 0 hM (by omega) (by omega) (by omega);have ahN:Ct (AF (AG s 0).1) G:=by
         have Ls:∀x∈B2 (AF (AG s 0).1),x.2.2.length=4/\DS (nth x.2.2 1)=true/\DH (nth x.2.2 2)=true/\DH (nth x.2.2 3)=true:=λx hx=>by
          have hx':=mo.1 hx;have h8:x.2.1=0:=by simpa using hx'.2
          have h9:=hx'.1;unfold AF at h9;rw[cj]at h9;obtain⟨y,hy,rfl⟩:=h9;have hy':=mo.1 hy;exact rQ (hall y hy'.1) (F9 (hall y hy'.1) (kf hy'.2) h8)
         have aaj:∀x∈AF (AG s 0).1,x.2.1=1->x.2.2.length=4/\DS (nth x.2.2 1)=true/\DS (nth x.2.2 2)=true/\DH (nth x.2.2 3)=true:=λx hx h8=>by
          have h9:=hx;unfold AF at h9;rw[cj]at h9;obtain⟨y,hy,rfl⟩:=h9;have hy':=mo.1 hy;have h10:=F9 (hall y hy'.1) (kf hy'.2) h8;exact mO (hall y hy'.1) h10.1 h10.2
         refine⟨hG,by omega,by omega,by omega,hmn.2.2.2,?_,λx hx r hr u hu=>?_,λx hx=>(Ls x hx).2.2.1,λx hx=>(Ls x hx).2.2.2,λx hx h8=>?_,λx hx h8=>?_,λx hx h8=>⟨hI'.aah (aaj x hx h8).2.1,hI'.aah (aaj x hx h8).2.2.1⟩⟩
         ·have h5:=congrArg List.length hG.names
          simp[G0]at h5;omega
         ·have hx':=mo.1 hx
          have h6:=TL hU x hx'.1;unfold EW at h6;rw[Bool.or_eq_false_iff]at h6;have h7:=um.1 h6.2 u (by
           unfold GP;have h8:x.2.1=2:=by simpa using hx'.2
           rw[au (by omega),aq h8];exact List.mem_flatten.2 ⟨r,hr,hu⟩)
          have h9:=hI'.has u;simp only[eu]at h9;exact h9.2 (by
           have:¬cnt (AH (AF (AG s 0).1)) u=0:=by simpa using h7
           omega)
         ·exact⟨(aaj x hx h8).2.2.2,(aaj x hx h8).1⟩
         ·have h6:=TL hU x hx
          unfold EW at h6;rw[Bool.or_eq_false_iff]at h6;have hk:∀u∈GP x.2.1 x.2.2,DS u=true->D2 G.toks u=true:=λu hu ht=>by
           have h7:=um.1 h6.2 u hu;have h9:=hI'.has u;simp only[eu]at h9;have h10:=h9.2 (by
            have:¬cnt (AH (AF (AG s 0).1)) u=0:=by simpa using h7
            omega)
           rcases h10 with h10 |h10
           ·exact h10
           ·rw[hI'.aah ht]at h10;cases h10
          have hu:GP x.2.1 x.2.2=[nth x.2.2 1,nth x.2.2 2]:=by rw[h8];rfl
          exact⟨hk _ (by rw[hu];simp) (aaj x hx h8).2.1,hk _ (by rw[hu];simp) (aaj x hx h8).2.2.1⟩
        cases hf:(AG s 0).1.find? λx=>FK G x.2 with
        |some x=>rw[hf]at he;cases he
        |none=>exact ahN
     ·cases hp
def M6 (P:List Ln):List (Nat × ByteArray × List ByteArray):=(AM P).zipIdx.flatMap λx=>(A8 x.1.2.2).map λr=>(x.2,nth x.1.2.2 1,r)
theorem sF (f:ByteArray->Int) (P:List Ln):PB (Ao f P)=(M6 P).map λj=>(j.1,j.2.2.map λw=>Dr (f w)):=by
 unfold PB Ao M6;rw[List.zipIdx_map,rj,rq]
 congr 1
 funext x
 simp[TW,Function.comp_def]
theorem ZT {β:Type} (P:List Ln) (h:ByteArray->List ByteArray->β):((AM P).flatMap λx=>(A8 x.2.2).map λr=>h (nth x.2.2 1) r)=(M6 P).map λj=>h j.2.1 j.2.2:=by
 have e:AM P=(AM P).zipIdx.map Prod.fst:=by simp
 unfold M6;rw[rq]
 conv=>lhs;rw[e,rj]
 congr 1
 funext x
 simp[Function.comp_def]
theorem PH {j:Nat × ByteArray × List ByteArray} (h:j∈M6 P):∃x,(AM P)[j.1]?=some x/\j.2.1=nth x.2.2 1/\j.2.2∈A8 x.2.2:=by
 unfold M6 at h;rw[ow]at h;obtain⟨⟨x,i⟩,hx,hj⟩:=h;rw[cj]at hj;obtain⟨r,hr,rfl⟩:=hj;exact⟨x,jx.1 hx,rfl,hr⟩
theorem gF (k:Nat):Dr (2*(k:Int)+1)=.yB k:=by
 unfold Dr;rw[aq (by omega)]
 congr 1
 omega
theorem fE (k:Nat):Dr (2*(k:Int))=.tok k:=by
 unfold Dr;rw[au (by omega)]
 congr 1
 omega
theorem Ct.part  (h:Ct P G) {w:ByteArray} (hk:D2 G.toks w=true\/BW G.names w=true):
  iH G w (Dr (D4 P w))/\(∀n,Dr (D4 P w)=.yB n->n<G.names.length)/\(∀t,Dr (D4 P w)=.tok t->t<G.toks.length):=by
 have hc:=h.g.code w;rw[hc];cases hM:ER G.names w with
 |some k=>
  simp only[gF];refine⟨?_,λn hn=>?_,λt ht=>(by cases ht)⟩
  ·show Q3 G.names w=k
   rw[RZ,hM]
  ·injection hn with hn;subst hn;exact WO hM
 |none=>
  simp only;cases hT:ER (Bzx G.toks) w with
  |some k=>
   simp only[fE];refine⟨?_,λn hn=>(by cases hn),λt ht=>?_⟩
   ·show Q3 G.names w= -1/\Q3 (Bzx G.toks) w=k
    rw[RZ,RZ,hM,hT];exact⟨rfl,rfl⟩
   ·injection ht with ht;subst ht
    have:=WO hT;unfold Bzx at this
    rwa [lM]at this
  |none=>
   exfalso;rw[JH]at hM hT;rw[<-QJ]at hT;rw[hM,hT]at hk;simp at hk
theorem K7 {s:ByteArray} (h:DH s=true):1<=C4 s.data.toList/\C4 s.data.toList<=99:=by
 have hz:=PS h;have hlen:s.data.toList.length=s.size:=by simp
 have h2:KY s.data.toList=true:=h;have h3:J2 s.data.toList 48 57 2=true/\(s.data.toList.head?==some 48)=false:=by
  unfold KY at h2;simpa using h2
 have h5:=h3.1;unfold J2 at h5;simp only[fu,ia]at h5;have h6:=h5.2.2;unfold DF at h6;rw[nj]at h6
 generalize s.data.toList=l at h3 h5 h6 hlen
 have h7:∀x∈l,48<=(x.toNat:Int)/\(x.toNat:Int)<=57:=λx hx=>by simpa using h6 x hx
 match l,h5.1,h5.2.1 with
 | [a],_,_=>
  have h8:=h7 a (by simp);have h9:¬a=48:=by simpa using h3.2
  have h10:¬a.toNat=48:=λe=>h9 (ya.1 e)
  simp[C4];omega
 | [a,b],_,_=>
  have h8:=h7 a (by simp);have h8b:=h7 b (by simp);have h9:¬a=48:=by simpa using h3.2
  have h10:¬a.toNat=48:=λe=>h9 (ya.1 e)
  simp[C4];omega
 |a::b::c::l,_,h=>simp at h;omega
theorem N7 (P:List Ln):(Ch P).nN=(AM P).length:=by show(Ao (D4 P) P).length=_;unfold Ao;simp
theorem KQ (P:List Ln):(Ch P).nT=(B2 P).length:=by show(L9 P).length=_;unfold L9;simp
theorem Ct.aff  (h:Ct P G):G.names.length=(AM P).length:=by rw[h.g.names];simp[G0]
theorem Ct.ac6  (h:Ct P G):G.toks.length=(B2 P).length:=by rw[h.g.toks];simp[G0]
theorem IG (P:List Ln):(Ch P).rules=(M6 P).map λj=>(j.1,j.2.2.map λw=>Dr (D4 P w)):=sF _ _
theorem Ct.rules_eq  (h:Ct P G):G.rules=(M6 P).map λj=>(j.2.1,j.2.2):=by
 rw[h.g.rules];show []++_=_;rw[eu];exact ZT P λa r=>(a,r)
theorem Ct.ac7  (h:Ct P G) {j:Nat × ByteArray × List ByteArray} (hj:j∈M6 P):∀u∈j.2.2,D2 G.toks u=true\/BW G.names u=true:=by
 obtain⟨x,hx,_,hr⟩:=PH hj;exact h.known x (mG hx) j.2.2 hr
theorem Ct.Rl  (h:Ct P G) {t:Nat} (ht:t< (B2 P).length):((Ch P).put t:Int)=C4 (nth (B2 P)[t].2.2 2).data.toList/\1<=(Ch P).put t/\(Ch P).put t<=99:=by
 have hv:=K7 (h.num _ (oc ht));have e:(Ch P).put t=(C4 (nth (B2 P)[t].2.2 2).data.toList).toNat:=by
  show(((B2 P)[t]?.map λx=>C4 (nth x.2.2 2).data.toList).getD 0).toNat=_;rw[gE ht];rfl
 rw[e];omega
theorem Ct.aak  (h:Ct P G) {t:Nat} (ht:t< (B2 P).length):((Ch P).drop t:Int)=C4 (nth (B2 P)[t].2.2 3).data.toList/\1<=(Ch P).drop t/\(Ch P).drop t<=99:=by
 have hv:=K7 (h.afe _ (oc ht));have e:(Ch P).drop t=(C4 (nth (B2 P)[t].2.2 3).data.toList).toNat:=by
  show(((B2 P)[t]?.map λx=>C4 (nth x.2.2 3).data.toList).getD 0).toNat=_;rw[gE ht];rfl
 rw[e];omega
theorem ZZ  (h:Ct P G) {w:ByteArray} (h1:D2 G.toks w=true) (h2:BW G.names w=false):∃t:Nat,t< (B2 P).length/\D4 P w=2*(t:Int):=by
 have hc:=h.g.code w;rw[JH.2 h2]at hc;cases hT:ER (Bzx G.toks) w with
 |some k=>
  rw[hT]at hc;have hk:=WO hT;unfold Bzx at hk;rw[lM,h.ac6]at hk;exact⟨k,hk,hc⟩
 |none=>rw[JH,<-QJ,h1]at hT;cases hT
theorem fY (f:ByteArray->Int):∀{P:List Ln},(∀x∈P,x.2.1=1->DH (nth x.2.2 3)=true)->∀t u,EV f P t u<=99
 | [],_,_,_=>bu _
 |x::P,h,t,u=>by
  rw[EV];split
  ·rename_i hc
   have:=K7 (h x (eo ..) hc.1);omega
  ·exact fY f (λy hy=>h y (fj _ hy)) t u
theorem Ct.ok  (h:Ct P G):(Ch P).Ok where
 pos:=by rw[N7];exact h.pos
 lt:=λr hr=>by
  rw[IG]at hr;obtain⟨j,hj,rfl⟩:=cj.1 hr;obtain⟨x,hx,_⟩:=PH hj;rw[N7];exact(yS.1 hx).1
 pn:=λr hr n hn=>by
  rw[IG]at hr;obtain⟨j,hj,rfl⟩:=cj.1 hr;obtain⟨w,hw,e⟩:=cj.1 hn;rw[N7,<-h.aff];exact(h.part (h.ac7 hj w hw)).2.1 n e
 pt:=λr hr t ht=>by
  rw[IG]at hr;obtain⟨j,hj,rfl⟩:=cj.1 hr;obtain⟨w,hw,e⟩:=cj.1 ht;rw[KQ,<-h.ac6];exact(h.part (h.ac7 hj w hw)).2.2 t e
 Tm:=λt ht=>by rw[KQ]at ht;exact(h.Rl ht).2.1
 Vz:=λt ht=>by rw[KQ]at ht;exact(h.Rl ht).2.2
 aai:=λt ht=>by rw[KQ]at ht;exact(h.aak ht).2.1
 abY:=λt ht=>by rw[KQ]at ht;exact(h.aak ht).2.2
 abZ:=λt u=>fY _ (λx hx h1=>(h.swn x hx h1).1) t u
 parts:=λr hr=>by
  rw[IG]at hr;obtain⟨j,hj,rfl⟩:=cj.1 hr;obtain⟨x,hx,_,h3⟩:=PH hj;simp only[lM];exact y5 (WD h3) (h.long x (mG hx))
theorem rV {j:Nat} (h:l[j]?=some x):nth l j=x:=by unfold nth;rw[zh,h];rfl
theorem dB  (h:Ct P G):Rep G (Ch P) where
 ok:=h.ok
 nN:=by rw[N7,h.aff]
 nT:=by rw[KQ,h.ac6]
 len:=by rw[IG,h.rules_eq,lM,lM]
 rule:=λi r q hr hq=>by
  rw[h.rules_eq,gM]at hr;rw[IG,gM]at hq;cases hj:(M6 P)[i]? with
  |none=>rw[hj]at hr;cases hr
  |some j=>
   rw[hj]at hr hq;simp only[ko,sj]at hr hq;subst hr;subst hq;have hm:=mG hj;obtain⟨x,hx,h2,h3⟩:=PH hm;refine⟨?_,?_,λk p hp=>?_⟩
   ·have hn:G.names[j.1]?=some j.2.1:=by rw[h.g.names];simp[G0,hx,h2]
    show Q3 G.names j.2.1=_;rw[RZ,h.g.once _ _ hn]
   ·simp
   ·simp only[gM]at hp
    cases hk:j.2.2[k]? with
    |none=>rw[hk]at hp;cases hp
    |some u=>
     rw[hk]at hp;simp only[ko,sj]at hp;subst hp;show iH G (nth j.2.2 k) _;rw[rV hk];exact(h.part (h.ac7 hm u (mG hk))).1
 put:=λt tk ht=>by
  rw[h.g.toks]at ht;simp only[G0,eu,gM]at ht;cases hx:(B2 P)[t]? with
  |none=>rw[hx]at ht;cases ht
  |some x=>
   rw[hx]at ht;simp only[ko,sj]at ht;subst ht;obtain⟨h1,h2⟩:=yS.1 hx;rw[(h.Rl h1).1,h2];rfl
 Bt:=by rw[N7];exact h.nN
 Aj:=by rw[KQ];exact h.nT
 Lr:=by
  have e:((AM P).flatMap λx=>A8 x.2.2).length=(M6 P).length:=by
   have:=congrArg List.length (ZT P λ_ r=>r);simpa using this
  rw[IG,lM,<-e];exact h.nR
 ahM:=by
  rw[IG,lM];obtain⟨x,hx⟩:∃x,(AM P)[0]?=some x:=⟨_,gE h.pos⟩;refine List.length_pos_of_mem (a:=(0,nth x.2.2 1,(Ei (x.2.2.drop 3)).2)) ?_;unfold M6;rw[ow];refine⟨(x,0),jx.2 hx,cj.2 ⟨(Ei (x.2.2.drop 3)).2,?_,rfl⟩⟩;unfold A8;simp
theorem Ct.yL  (h:Ct P G):Bzx G.toks=L9 P:=by
 rw[h.g.toks];unfold Bzx L9;simp[G0,pL]
def E8 (n:Nat):ByteArray:=⟨#[UInt8.ofNat (48+n)]⟩
theorem I9 (w:World) (b:UInt8):(convert 221 9 (ae w.heap.size 1 1)).run Tryz.prog (w.alloc (.cells #[.int .u8 (b.toNat:Int)] 5))=.ok (.string ⟨#[b]⟩) (w.alloc (.cells #[.int .u8 (b.toNat:Int)] 5)):=
 run_convert_bytes_back (P:=Tryz.prog) (w.alloc (.cells #[.int .u8 (b.toNat:Int)] 5)) 221 9 5 (af w.heap.size 0) 1 [b] Tryz.underlying221 Tryz.underlying5 Tryz.underlying9 (λj hj=>by
  have h0:j=0:=by simpa using hj
  subst h0;have hb:(w.alloc (.cells #[.int .u8 (b.toNat:Int)] 5)).heap[w.heap.size]?=some (.cells #[.int .u8 (b.toNat:Int)] 5 (0,0)):=dw w _;have hadd:((af w.heap.size 0):Addr).add 0=(af w.heap.size 0):=by unfold Addr.add;split <;> simp_all
  rw[hadd,A0 hb];rfl)
theorem Ph {P:Prop} (h:P:=by
  go_enter Tryz.func70,Tryz.ntmps70
  go_wp2;go_ret;exact⟨rfl,(ah _ _).alloc (yF _) _⟩):P:=h
theorem OV (n:Nat) (hn:n<10) (w:World):Calls Tryz.prog 70 #[ab n] w λe w'=>e=.returned (.string (E8 n))/\Below w.heap.size w w':=by
 have h:n=0\/n=1\/n=2\/n=3\/n=4\/n=5\/n=6\/n=7\/n=8\/n=9:=by omega
 rcases h with rfl |rfl |rfl |rfl |rfl |rfl |rfl |rfl |rfl |rfl
 ·have hcv:(convert 221 9 (ae w.heap.size 1 1)).run Tryz.prog (w.alloc (.cells #[.int .u8 48] 5))=.ok (.string ⟨#[48]⟩) (w.alloc (.cells #[.int .u8 48] 5)):=I9 w 48
  exact Ph
 ·have hcv:(convert 221 9 (ae w.heap.size 1 1)).run Tryz.prog (w.alloc (.cells #[.int .u8 49] 5))=.ok (.string ⟨#[49]⟩) (w.alloc (.cells #[.int .u8 49] 5)):=I9 w 49
  exact Ph
 ·have hcv:(convert 221 9 (ae w.heap.size 1 1)).run Tryz.prog (w.alloc (.cells #[.int .u8 50] 5))=.ok (.string ⟨#[50]⟩) (w.alloc (.cells #[.int .u8 50] 5)):=I9 w 50
  exact Ph
 ·have hcv:(convert 221 9 (ae w.heap.size 1 1)).run Tryz.prog (w.alloc (.cells #[.int .u8 51] 5))=.ok (.string ⟨#[51]⟩) (w.alloc (.cells #[.int .u8 51] 5)):=I9 w 51
  exact Ph
 ·have hcv:(convert 221 9 (ae w.heap.size 1 1)).run Tryz.prog (w.alloc (.cells #[.int .u8 52] 5))=.ok (.string ⟨#[52]⟩) (w.alloc (.cells #[.int .u8 52] 5)):=I9 w 52
  exact Ph
 ·have hcv:(convert 221 9 (ae w.heap.size 1 1)).run Tryz.prog (w.alloc (.cells #[.int .u8 53] 5))=.ok (.string ⟨#[53]⟩) (w.alloc (.cells #[.int .u8 53] 5)):=I9 w 53
  exact Ph
 ·have hcv:(convert 221 9 (ae w.heap.size 1 1)).run Tryz.prog (w.alloc (.cells #[.int .u8 54] 5))=.ok (.string ⟨#[54]⟩) (w.alloc (.cells #[.int .u8 54] 5)):=I9 w 54
  exact Ph
 ·have hcv:(convert 221 9 (ae w.heap.size 1 1)).run Tryz.prog (w.alloc (.cells #[.int .u8 55] 5))=.ok (.string ⟨#[55]⟩) (w.alloc (.cells #[.int .u8 55] 5)):=I9 w 55
  exact Ph
 ·have hcv:(convert 221 9 (ae w.heap.size 1 1)).run Tryz.prog (w.alloc (.cells #[.int .u8 56] 5))=.ok (.string ⟨#[56]⟩) (w.alloc (.cells #[.int .u8 56] 5)):=I9 w 56
  exact Ph
 ·have hcv:(convert 221 9 (ae w.heap.size 1 1)).run Tryz.prog (w.alloc (.cells #[.int .u8 57] 5))=.ok (.string ⟨#[57]⟩) (w.alloc (.cells #[.int .u8 57] 5)):=I9 w 57
  exact Ph
structure Mk where
 yP:List Nat
 zk:List Nat
 swaps:List (List Nat)
 rules:List (List (List Pt))
def EL (T n:Nat):Pt->Prop
 | .tok t=>t<T
 | .yB k=>k<n
structure Mk.Good (m:Mk):Prop where
 t2:2<=m.yP.length
 t6:m.yP.length<=6
 dl:m.zk.length=m.yP.length
 sl:m.swaps.length=m.yP.length
 Wd:∀r∈m.swaps,r.length=m.yP.length
 p1:∀x∈m.yP,1<=x/\x<=9
 d1:∀x∈m.zk,1<=x/\x<=9
 s1:∀r∈m.swaps,∀x∈r,x<=9
 Wf:∀(i:Nat) r,m.swaps[i]?=some r->r.getD i 0=0
 n1:1<=m.rules.length
 n4:m.rules.length<=4
 c1:∀rs∈m.rules,1<=rs.length/\rs.length<=m.yP.length
 head:∀rs∈m.rules,∀(k:Nat) r,rs[k]?=some r->r.head?=some (.tok k)/\r.length<=5
 part:∀rs∈m.rules,∀r∈rs,∀p∈r,EL m.yP.length m.rules.length p
 last:∀rs∈m.rules,∀r,rs.getLast?=some r->∀p∈r,∃t,p=.tok t
 reach:∀(n:Nat) rs,m.rules[n]?=some rs->n+1<m.rules.length->∃r,rs[0]?=some r/\ .yB (n+1)∈r
def wB:Pt->List UInt8
 | .tok t=>[UInt8.ofNat (97+t)]
 | .yB n=>[UInt8.ofNat (65+n)]
def ba (l:List UInt8):ByteArray:=⟨l.toArray⟩
def G8:List (List (List UInt8))->List (List UInt8)
 | []=>[]
 | [r]=>r
 |r::q::t=>r++ [124]::G8 (q::t)
def KI (i p d:Nat):List (List UInt8):=[[116,111,107,101,110],wB (.tok i),[UInt8.ofNat (48+p)],[UInt8.ofNat (48+d)]]
def IC (i j c:Nat):List (List UInt8):=[[115,119,97,112],wB (.tok i),wB (.tok j),[UInt8.ofNat (48+c)]]
def E4 (n:Nat) (rs:List (List Pt)):List (List UInt8):=[114,117,108,101]::wB (.yB n):: [61]::G8 (rs.map λr=>r.map wB)
def D1 (m:Mk) (i j:Nat):Nat:=(m.swaps.getD i []).getD j 0
def I4 (m:Mk) (i:Nat):List (List (List UInt8)):=KI i (m.yP.getD i 0) (m.zk.getD i 0)::(List.range m.yP.length).flatMap λj=>if 0<D1 m i j then [IC i j (D1 m i j)]else []
def F7 (m:Mk):List (List (List UInt8)):=(List.range m.yP.length).flatMap (I4 m)++m.rules.zipIdx.map λx=>E4 x.2 x.1
def DB (m:Mk):ByteArray:=ba (LR ((F7 m).map BP))
theorem OB:∀i,i<6->DS (AA i)=true:=by decide+kernel
theorem TG:∀i,i<4->GM (BL i)=true:=by decide+kernel
theorem WK:∀i,i<10->1<=i->DH (E8 i)=true:=by decide+kernel
theorem WL:∀i,i<10->C4 (E8 i).data.toList=i:=by decide+kernel
theorem RD:∀i,i<6->∀j,j<6->((AA i).toList==(AA j).toList)=decide (i=j):=by decide+kernel
theorem kW:∀i,i<4->∀j,j<4->((BL i).toList==(BL j).toList)=decide (i=j):=by decide+kernel
theorem WH:∀i,i<6->∀j,j<4->((AA i).toList==(BL j).toList)=false:=by decide+kernel
theorem uL:∀i,i<6->I5 (AA i)=false:=by decide+kernel
theorem uX:∀i,i<4->I5 (BL i)=false:=by decide+kernel
theorem wH:∀i,i<6->UInt8.ofNat (97+i)≠32/\UInt8.ofNat (97+i)≠10:=by decide+kernel
theorem wU:∀i,i<4->UInt8.ofNat (65+i)≠32/\UInt8.ofNat (65+i)≠10:=by decide+kernel
theorem wI:∀i,i<10->UInt8.ofNat (48+i)≠32/\UInt8.ofNat (48+i)≠10:=by decide+kernel
end Go.Proofs.YtjjggdcnpndgjaaGreatDoor
