import Derived.Test.YtjjggdcnpndgjaaGreatDoorCJ8
import Derived.Laws.IdiomStrings
set_option linter.unusedSimpArgs false
set_option maxRecDepth 100000
namespace Go.Proofs.YtjjggdcnpndgjaaGreatDoor
abbrev kf:=@List.mem_zipIdx_iff_getElem?
abbrev mj:=@List.map_congr_left
abbrev qa:=@List.getElem_singleton
abbrev qd:=@List.mem_flatMap
abbrev qm:=@List.map_map
abbrev tu:=@List.flatMap_map
abbrev ud:=@List.map_flatMap
abbrev yt:=@List.findIdx?_eq_none_iff
open Go.RowKit
variable {G:Gr}{M l:List ByteArray}{P:List Ln}{i n:Nat}{rs:List (List Pt)}{u x:ByteArray}
def Fl (c:Int):Pt:=if c % 2=1 then .zi (c / 2).toNat else .tok (c / 2).toNat
def BD (P:List Ln):List Ln:=P.filter λx=>x.2.1==0
def AU (P:List Ln):List Ln:=P.filter λx=>x.2.1==2
def rJ (x:Ln):ByteArray × Int × Int:=(nth x.2.2 1,D5 (nth x.2.2 2).data.toList,D5 (nth x.2.2 3).data.toList)
def DD (P:List Ln):ByteArray->Int:=EX P 0 0 (λ_=>0)
def TZ (f:ByteArray->Int) (x:Ln):Nm:=(nth x.2.2 1,(AE x.2.2).map λr=>r.map λw=>Fl (f w))
def LS (P:List Ln):List ByteArray:=(BD P).map λx=>nth x.2.2 1
def Cj (f:ByteArray->Int) (P:List Ln):List Nm:=(AU P).map (TZ f)
def PE (pg:List Nm):List (Nat × List Pt):=pg.zipIdx.flatMap λx=>x.1.2.map λps=>(x.2,ps)
def F4 (f:ByteArray->Int):List Ln->Nat->Nat->Nat
 | [],_,_=>0
 |x::P,t,u=>if x.2.1=1/\f (nth x.2.2 1)=2*(t:Int)/\f (nth x.2.2 2)=2*(u:Int)then(D5 (nth x.2.2 3).data.toList).toNat else F4 f P t u
theorem gY {f:ByteArray->Int}{t u c:Nat}:∀{P:List Ln},(∀x∈P,x.2.1=1->f (nth x.2.2 1)=2*(t:Int)->f (nth x.2.2 2)=2*(u:Int)->(D5 (nth x.2.2 3).data.toList).toNat=c)->
  (c≠0->∃x∈P,x.2.1=1/\f (nth x.2.2 1)=2*(t:Int)/\f (nth x.2.2 2)=2*(u:Int))->F4 f P t u=c
 | [],_,h=>by
  by_cases hc:c=0
  ·rw[hc];rfl
  ·obtain⟨x,hx,_⟩:=h hc;cases hx
 |x::P,h1,h2=>by
  rw[F4];split
  ·rename_i hc
   exact h1 x (ew ..) hc.1 hc.2.1 hc.2.2
  ·rename_i hc
   refine gY (λy hy=>h1 y (gj _ hy)) λh0=>?_
   obtain⟨y,hy,hm⟩:=h2 h0
   rcases bk.1 hy with rfl |hy
   ·exact absurd hm hc
   ·exact⟨y,hy,hm⟩
def Dw (P:List Ln):NG where
 nT:=(LS P).length
 nN:=(Cj (DD P) P).length
 put:=λt=>(((BD P)[t]?.map λx=>D5 (nth x.2.2 2).data.toList).getD 0).toNat
 drop:=λt=>(((BD P)[t]?.map λx=>D5 (nth x.2.2 3).data.toList).getD 0).toNat
 swp:=F4 (DD P) P
 rules:=PE (Cj (DD P) P)
def F5 (l:List ByteArray) (x:ByteArray):Option Nat:=l.findIdx? λt=>t.toList==x.toList
theorem SF (l:List ByteArray) (x:ByteArray):QF l x=match F5 l x with
  |some i=>(i:Int)
  |none=> -1:=rfl
theorem UD (l:List ByteArray) (u x:ByteArray):F5 (l++ [u]) x=match F5 l x with
  |some i=>some i
  |none=>if(u.toList==x.toList)=true then some l.length else none:=by
 unfold F5;rw[List.findIdx?_append];cases h:l.findIdx? λt=>t.toList==x.toList with
 |some i=>rfl
 |none=>
  simp only[Option.none_or,List.findIdx?_cons,List.findIdx?_nil];cases hb:(u.toList==x.toList) <;> simp
theorem JK:F5 l x=none↔D0 l x=false:=by
 unfold F5 D0;rw[yt,uy];constructor
 ·intro h y hy;rw[h y hy];decide
 ·intro h y hy;have:=h y hy;simpa using this
theorem XN  (h:F5 l x=some i):i<l.length:=by
 unfold F5 at h;exact(pz.1 h).1
theorem UL (x s:ByteArray):EQ x s=(x.toList==s.toList):=by
 unfold EQ;rw[jl,jl,ow];simp
theorem RK (T:List (ByteArray × Int × Int)) (u:ByteArray):DC T u=D0 (GA T) u:=by
 unfold DC D0 GA;rw[List.any_map];rfl
def J8 (f:ByteArray->Int) (T:List ByteArray) (M:List ByteArray):Prop:=
 ∀s,f s=match F5 M s with
  |some k=>2*(k:Int)+1
  |none=>match F5 T s with
   |some k=>2*(k:Int)
   |none=>0
theorem PL  (h:(u.toList==x.toList)=true) (l:List ByteArray):D0 l x=D0 l u:=by
 rw[kr]at h;unfold D0;rw[h]
theorem J8.tok {f:ByteArray->Int}{T:List ByteArray} (h:J8 f T M)  (hT:D0 T u=false) (hM:D0 M u=false):
  J8 (λs=>if EQ u s=true then 2*(T.length:Int)else f s) (T++ [u]) M:=by
 intro s;simp only[UL,UD]
 by_cases e:(u.toList==s.toList)=true
 ·have h1:F5 M s=none:=by rw[JK,PL e,hM]
  have h2:F5 T s=none:=by rw[JK,PL e,hT]
  rw[ay e,h1,h2,ay e]
 ·rw[aq e,h s,aq e]
  cases F5 M s <;> cases F5 T s <;> rfl
theorem J8.zi {f:ByteArray->Int}{T:List ByteArray} (h:J8 f T M)  (hM:D0 M u=false):
  J8 (λs=>if EQ u s=true then 2*(M.length:Int)+1 else f s) T (M++ [u]):=by
 intro s;simp only[UL,UD]
 by_cases e:(u.toList==s.toList)=true
 ·have h1:F5 M s=none:=by rw[JK,PL e,hM]
  rw[ay e,h1,ay e]
 ·rw[aq e,h s,aq e]
  cases F5 M s <;> rfl
def bP (M:List ByteArray):Prop:=∀i u,M[i]?=some u->F5 M u=some i
theorem bP.add  (h:bP M)  (hM:D0 M u=false):bP (M++ [u]):=by
 intro i v hv;rw[UD]
 by_cases hi:i<M.length
 ·rw[aL hi]at hv
  rw[h i v hv]
 ·rw[Bc (by omega)]at hv
  obtain⟨h1,h2⟩:=zM.1 hv;simp at h1;have e:v=u:=by simp only[qa]at h2;exact h2.symm
  subst e;rw[JK.2 hM];simp;omega
structure tK (P:List Ln) (G G':Gr) (f:ByteArray->Int):Prop where
 toks:G'.toks=G.toks++(BD P).map rJ
 names:G'.names=G.names++(AU P).map λx=>nth x.2.2 1
 rules:G'.rules=G.rules++(AU P).flatMap λx=>(AE x.2.2).map λr=>(nth x.2.2 1,r)
 code:J8 f (GA G'.toks) G'.names
 once:bP G'.names
theorem pH (T:List (ByteArray × Int × Int)) (x:ByteArray × Int × Int):GA (T++ [x])=GA T++ [x.1]:=by unfold GA;simp
theorem L6:∀(ls:List (Nat × List ByteArray)) (G:Gr) (m:Int) (t n r:Nat) (ws:List ByteArray) (f:ByteArray->Int),(∀x∈ls,AX x.2=true)->Inv G ws t n r->
  J8 f (GA G.toks) G.names->bP G.names->(EI ls G m).2.2=none->tK (AK ls) G (EI ls G m).1 (EX (AK ls) t n f)
 | [],G,m,t,n,r,ws,f,_,hI,hf,ho,_=>⟨by simp[EI,AK,BD],by simp[EI,AK,AU],by simp[EI,AK,AU],hf,ho⟩
 |x::ls,G,m,t,n,r,ws,f,hall,hI,hf,ho,hn=>by
  have hx:=hall x (by simp);have Ja:∀y∈ls,AX y.2=true:=λy hy=>hall y (by simp[hy])
  by_cases h3:(DI G x.2).2=3
  ·rw[EI,ay h3]at hn;cases hn
  ·have ep:∀mm,mm=(if(DI G x.2).2=4/\m<0 then(x.1:Int)else m)->EI (x::ls) G m=EI ls (DI G x.2).1 mm:=λmm h=>by rw[EI,aq h3,h]
   obtain⟨mm,Rc⟩:=qF ((if(DI G x.2).2=4/\m<0 then(x.1:Int)else m));rw[ep mm Rc]at hn ⊢
   by_cases h1:x.2.length=1
   ·have hs:=VZ hI hx h1
    rw[KM h1];rw[hs.1]at hn ⊢;exact L6 ls G mm t n r ws f Ja hI hf ho hn
   ·rw[MJ h1]
    rcases LB hx h1 with⟨hsh,hlen,htk⟩ | ⟨hsh,hlen,htk,_⟩ | ⟨hsh,hlen,hnm,_⟩
    ·have h0:((nth x.2 0).toList== [116,111,107,101,110])=true:=FF hx h1 hsh
     rw[hsh]
     rcases aI hI h0 htk with⟨hc,h3'⟩ | ⟨hc,Jb,_⟩
     ·exact absurd h3' h3
     ·have hno:=hI.aaW htk
      have hnt:DC G.toks (nth x.2 1)=false:=by
       cases hq:DC G.toks (nth x.2 1)with
       |false=>rfl
       |true=>exact absurd ((hI.has _).1 (.inl hq)) hc
      have eg:(DI G x.2).1= {G with toks:=G.toks++ [(nth x.2 1,D5 (nth x.2 2).data.toList,D5 (nth x.2 3).data.toList)]}:=by
       unfold DI;rw[ay h0,aq (by rw[hnt];decide)]
      have hf2:J8 (λs=>if EQ (nth x.2 1) s=true then 2*(t:Int)else f s) (GA (DI G x.2).1.toks) (DI G x.2).1.names:=by
       rw[eg];simp only[pH];have h4:=hf.tok (u:=nth x.2 1) (by rw[<-RK];exact hnt) hno;rw[<-hI.nt];unfold GA at h4 ⊢
       rwa [lM]at h4
      have hg:=L6 ls _ mm _ _ _ _ _ Ja Jb hf2 (by rw[eg];exact ho) hn;refine⟨?_,?_,?_,?_,hg.once⟩
      ·rw[hg.toks,eg];simp[BD,rJ]
      ·rw[hg.names,eg];simp[AU]
      ·rw[hg.rules,eg];simp[AU]
      ·have e:EX ((x.1,0,x.2)::AK ls) t n f=EX (AK ls) (t+1) n (λs=>if EQ (nth x.2 1) s=true then 2*(t:Int)else f s):=rfl
       rw[e];exact hg.code
    ·have h0:=FF hx h1 hsh
     rw[hsh];have hs:=YT hI h0.1 h0.2;have eg:(DI G x.2).1= {G with Yr:=G.Yr++ [(nth x.2 1,nth x.2 2,D5 (nth x.2 3).data.toList)]}:=by
      unfold DI;rw[aq (by rw[h0.1];decide),ay h0.2]
     have hg:=L6 ls _ mm _ _ _ _ f Ja hs.1 (by rw[eg];exact hf) (by rw[eg];exact ho) hn;refine⟨?_,?_,?_,?_,hg.once⟩
     ·rw[hg.toks,eg];simp[BD]
     ·rw[hg.names,eg];simp[AU]
     ·rw[hg.rules,eg];simp[AU]
     ·have e:EX ((x.1,1,x.2)::AK ls) t n f=EX (AK ls) t n f:=rfl
      rw[e];exact hg.code
    ·have h0:=FF hx h1 hsh
     rw[hsh]
     rcases ZH hI h0.1 h0.2.1 h0.2.2 hnm with⟨hc,h3'⟩ | ⟨hc,Jb,_⟩
     ·exact absurd h3' h3
     ·have hnn:D0 G.names (nth x.2 1)=false:=by
       cases hq:D0 G.names (nth x.2 1)with
       |false=>rfl
       |true=>exact absurd ((hI.has _).1 (.inr hq)) hc
      have eg:(DI G x.2).1= {G with names:=G.names++ [nth x.2 1],rules:=G.rules++(AE x.2).map λr=>(nth x.2 1,r)}:=by
       unfold DI;rw[aq (by rw[h0.1];decide),aq (by rw[h0.2.1];decide),ay h0.2.2,aq (by rw[hnn];decide),(ZF G.rules (nth x.2 1) x.2).1]
      have hf2:J8 (λs=>if EQ (nth x.2 1) s=true then 2*(n:Int)+1 else f s) (GA (DI G x.2).1.toks) (DI G x.2).1.names:=by
       rw[eg,<-hI.nn];exact hf.zi hnn
      have hg:=L6 ls _ mm _ _ _ _ _ Ja Jb hf2 (by rw[eg];exact ho.add hnn) hn;refine⟨?_,?_,?_,?_,hg.once⟩
      ·rw[hg.toks,eg];simp[BD]
      ·rw[hg.names,eg];simp[AU]
      ·rw[hg.rules,eg];simp[AU]
      ·have e:EX ((x.1,2,x.2)::AK ls) t n f=EX (AK ls) t (n+1) (λs=>if EQ (nth x.2 1) s=true then 2*(n:Int)+1 else f s):=rfl
       rw[e];exact hg.code
theorem YG:∀(P:List Ln) (t n r:Nat),CK P t n r=none->t<=20->n<=20->r<=60->
  t+(BD P).length<=20/\n+(AU P).length<=20/\r+((AU P).flatMap λx=>AE x.2.2).length<=60/\∀x∈AU P,EA (AE x.2.2)<=8
 | [],t,n,r,_,h1,h2,h3=>⟨by simpa[BD] using h1,by simpa[AU] using h2,by simpa[AU] using h3,λx hx=>by simp[AU]at hx⟩
 |x::P,t,n,r,h,h1,h2,h3=>by
  rw[CK]at h
  by_cases hc:20< (if x.2.1=0 then t+1 else t)\/20< (if x.2.1=2 then n+1 else n)\/60< (if x.2.1=2 then r+(AE x.2.2).length else r)\/8< (if x.2.1=2 then EA (AE x.2.2)else 0)
  ·rw[ay hc]at h;cases h
  ·rw[aq hc]at h
   have ih:=YG P _ _ _ h (by omega) (by omega) (by omega);clear h
   by_cases h0:x.2.1=0
   ·have Mc:¬x.2.1=2:=by omega
    simp only[ay h0,aq Mc]at ih;have e1:BD (x::P)=x::BD P:=by unfold BD;rw[rz Tt]
    have e2:AU (x::P)=AU P:=by unfold AU;rw[sj Tt]
    rw[e1,e2];exact⟨by rw[lC];omega,ih.2.1,ih.2.2.1,ih.2.2.2⟩
   ·have e1:BD (x::P)=BD P:=by unfold BD;rw[sj Tt]
    by_cases Mc:x.2.1=2
    ·simp only[aq h0,ay Mc]at ih hc
     have e2:AU (x::P)=x::AU P:=by unfold AU;rw[rz (by simp[Mc])]
     rw[e1,e2];refine⟨ih.1,by rw[lC];omega,by rw[ij,lA];omega,λy hy=>?_⟩
     rcases bk.1 hy with rfl |hy
     ·omega
     ·exact ih.2.2.2 y hy
    ·simp only[aq h0,aq Mc]at ih
     have e2:AU (x::P)=AU P:=by unfold AU;rw[sj (by simp[Mc])]
     rw[e1,e2];exact ih
theorem XH {rs:List (List ByteArray)}:∀{r:List ByteArray},r∈rs->r.length<=EA rs:=by
 have h:∀(rs:List (List ByteArray)) (m:Nat),m<=rs.foldl (λm r=>max m r.length) m/\∀r∈rs,r.length<=rs.foldl (λm r=>max m r.length) m:=by
  intro rs
  induction rs with
  |nil=>intro m;exact⟨zn _,λr hr=>by cases hr⟩
  |cons a rs ih=>
   intro m;rw[lz];have h1:=ih (max m a.length);refine⟨by omega,λr hr=>?_⟩
   rcases bk.1 hr with rfl |hr
   ·omega
   ·exact h1.2 r hr
 intro r hr;exact(h rs 0).2 r hr
theorem UJ:∀{P:List Ln}{ws:List ByteArray},FD ws P=none->∀x∈P,FB ws x=false
 | [],_,_,x,hx=>by cases hx
 |y::P,ws,h,x,hx=>by
  rw[FD]at h;split at h
  ·cases h
  ·rename_i hc
   rcases bk.1 hx with rfl |hx
   ·simpa using hc
   ·exact UJ h x hx
structure Ei (P:List Ln) (G:Gr):Prop where
 g:tK P G0 G (DD P)
 nT:(BD P).length<=20
 nN:(AU P).length<=20
 nR:((AU P).flatMap λx=>AE x.2.2).length<=60
 long:∀x∈AU P,EA (AE x.2.2)<=8
 pos:0< (AU P).length
 known:∀x∈AU P,∀r∈AE x.2.2,∀u∈r,DC G.toks u=true\/D0 G.names u=true
 num:∀x∈BD P,DS (nth x.2.2 2)=true
 afQ:∀x∈BD P,DS (nth x.2.2 3)=true
 swn:∀x∈P,x.2.1=1->DS (nth x.2.2 3)=true/\x.2.2.length=4
 swk:∀x∈P,x.2.1=1->DC G.toks (nth x.2.2 1)=true/\DC G.toks (nth x.2.2 2)=true
 swm:∀x∈P,x.2.1=1->D0 G.names (nth x.2.2 1)=false/\D0 G.names (nth x.2.2 2)=false
theorem VU (s:ByteArray) (he:(I0 s).1=0):Ei (AK (AL s 0).1) (I0 s).2.2:=by
 have hp:(ES s).1=0:=by rw[RC];exact he
 unfold ES at hp;unfold I0 at he ⊢
 by_cases h1:4000<s.size
 ·rw[ay h1]at he;cases he
 ·rw[aq h1]at he hp ⊢
  by_cases h2:(AL s 0).2<s.size
  ·rw[ay h2]at he;cases he
  ·rw[aq h2]at he hp ⊢
   have hall:∀x∈(AL s 0).1,AX x.2=true:=λx hx=>(PA s _ _ x hx).2
   have hI:Inv G0 [] 0 0 0:=⟨λu=>by simp[DC,D0,G0,cnt],λx hx=>by simp[G0]at hx,λx hx=>by simp[G0]at hx,rfl,rfl,rfl⟩;have hS:=KZ (AL s 0).1 G0 (-1) 0 0 0 [] hall hI (.inl ⟨rfl,by omega⟩);have hV:=L6 (AL s 0).1 G0 (-1) 0 0 0 [] (λ_=>0) hall hI (λs=>rfl) (λi u h=>by simp[G0]at h)
   rcases hpp:EI (AL s 0).1 G0 (-1)with⟨G,m,o⟩
   rw[hpp]at hS hV he;cases o with
   |some a=>simp only at he;cases he
   |none=>
    obtain⟨ht,hm,t',r',hI'⟩:=hS.2 rfl;rw[ht]at hp;simp only at hp he hm ⊢;cases hM:CK (AK (AL s 0).1) 0 0 0 with
    |some a=>rw[hM]at hp;cases hp
    |none=>
     rw[hM]at hp hm;rw[aq (by decide)]at hm;have hm':m= -1:=hm;have e0:¬(0:Int)<=m:=by omega
     simp only[aq e0]at he ⊢;simp only at hp;split at hp
     ·rename_i alj
      cases hU:FD (AM (AK (AL s 0).1)) (AK (AL s 0).1)with
      |some a=>rw[hU]at hp;cases hp
      |none=>
       by_cases hl0:G.names.length=0
       ·rw[ay hl0]at he;cases he
       ·rw[aq hl0]at he ⊢
        have hG:=hV rfl;have hmn:=YG _ 0 0 0 hM (by omega) (by omega) (by omega);have ain:Ei (AK (AL s 0).1) G:=by
         have Ni:∀x∈BD (AK (AL s 0).1),x.2.2.length=4/\DZ (nth x.2.2 1)=true/\DS (nth x.2.2 2)=true/\DS (nth x.2.2 3)=true:=λx hx=>by
          have hx':=ni.1 hx;have h8:x.2.1=0:=by simpa using hx'.2
          have h9:=hx'.1;unfold AK at h9;rw[dm]at h9;obtain⟨y,hy,rfl⟩:=h9;have hy':=ni.1 hy;exact qG (hall y hy'.1) (FF (hall y hy'.1) (kg hy'.2) h8)
         have aaX:∀x∈AK (AL s 0).1,x.2.1=1->x.2.2.length=4/\DZ (nth x.2.2 1)=true/\DZ (nth x.2.2 2)=true/\DS (nth x.2.2 3)=true:=λx hx h8=>by
          have h9:=hx;unfold AK at h9;rw[dm]at h9;obtain⟨y,hy,rfl⟩:=h9;have hy':=ni.1 hy;have h10:=FF (hall y hy'.1) (kg hy'.2) h8;exact nY (hall y hy'.1) h10.1 h10.2
         refine⟨hG,by omega,by omega,by omega,hmn.2.2.2,?_,λx hx r hr u hu=>?_,λx hx=>(Ni x hx).2.2.1,λx hx=>(Ni x hx).2.2.2,λx hx h8=>?_,λx hx h8=>?_,λx hx h8=>⟨hI'.aaW (aaX x hx h8).2.1,hI'.aaW (aaX x hx h8).2.2.1⟩⟩
         ·have h5:=congrArg List.length hG.names
          simp[G0]at h5;omega
         ·have hx':=ni.1 hx
          have h6:=UJ hU x hx'.1;unfold FB at h6;rw[Bool.or_eq_false_iff]at h6;have h7:=uy.1 h6.2 u (by
           unfold I3;have h8:x.2.1=2:=by simpa using hx'.2
           rw[aq (by omega),ay h8];exact List.mem_flatten.2 ⟨r,hr,hu⟩)
          have h9:=hI'.has u;simp only[ey]at h9;exact h9.2 (by
           have:¬cnt (AM (AK (AL s 0).1)) u=0:=by simpa using h7
           omega)
         ·exact⟨(aaX x hx h8).2.2.2,(aaX x hx h8).1⟩
         ·have h6:=UJ hU x hx
          unfold FB at h6;rw[Bool.or_eq_false_iff]at h6;have hk:∀u∈I3 x.2.1 x.2.2,DZ u=true->DC G.toks u=true:=λu hu ht=>by
           have h7:=uy.1 h6.2 u hu;have h9:=hI'.has u;simp only[ey]at h9;have h10:=h9.2 (by
            have:¬cnt (AM (AK (AL s 0).1)) u=0:=by simpa using h7
            omega)
           rcases h10 with h10 |h10
           ·exact h10
           ·rw[hI'.aaW ht]at h10;cases h10
          have hu:I3 x.2.1 x.2.2=[nth x.2.2 1,nth x.2.2 2]:=by rw[h8];rfl
          exact⟨hk _ (by rw[hu];simp) (aaX x hx h8).2.1,hk _ (by rw[hu];simp) (aaX x hx h8).2.2.1⟩
        cases hf:(AL s 0).1.find? λx=>FZ G x.2 with
        |some x=>rw[hf]at he;cases he
        |none=>exact ain
     ·cases hp
def MI (P:List Ln):List (Nat × ByteArray × List ByteArray):=(AU P).zipIdx.flatMap λx=>(AE x.1.2.2).map λr=>(x.2,nth x.1.2.2 1,r)
theorem sP (f:ByteArray->Int) (P:List Ln):PE (Cj f P)=(MI P).map λj=>(j.1,j.2.2.map λw=>Fl (f w)):=by
 unfold PE Cj MI;rw[List.zipIdx_map,tu,ud]
 congr 1
 funext x
 simp[TZ,Function.comp_def]
theorem cK {β:Type} (P:List Ln) (h:ByteArray->List ByteArray->β):((AU P).flatMap λx=>(AE x.2.2).map λr=>h (nth x.2.2 1) r)=(MI P).map λj=>h j.2.1 j.2.2:=by
 have e:AU P=(AU P).zipIdx.map Prod.fst:=by simp
 unfold MI;rw[ud]
 conv=>lhs;rw[e,tu]
 congr 1
 funext x
 simp[Function.comp_def]
theorem PG {j:Nat × ByteArray × List ByteArray} (h:j∈MI P):∃x,(AU P)[j.1]?=some x/\j.2.1=nth x.2.2 1/\j.2.2∈AE x.2.2:=by
 unfold MI at h;rw[qd]at h;obtain⟨⟨x,i⟩,hx,hj⟩:=h;rw[dm]at hj;obtain⟨r,hr,rfl⟩:=hj;exact⟨x,kf.1 hx,rfl,hr⟩
theorem gG (k:Nat):Fl (2*(k:Int)+1)=.zi k:=by
 unfold Fl;rw[ay (by omega)]
 congr 1
 omega
theorem gI (k:Nat):Fl (2*(k:Int))=.tok k:=by
 unfold Fl;rw[aq (by omega)]
 congr 1
 omega
theorem Ei.part  (h:Ei P G) {w:ByteArray} (hk:DC G.toks w=true\/D0 G.names w=true):
  iX G w (Fl (DD P w))/\(∀n,Fl (DD P w)=.zi n->n<G.names.length)/\(∀t,Fl (DD P w)=.tok t->t<G.toks.length):=by
 have hc:=h.g.code w;rw[hc];cases hM:F5 G.names w with
 |some k=>
  simp only[gG];refine⟨?_,λn hn=>?_,λt ht=>(by cases ht)⟩
  ·show QF G.names w=k
   rw[SF,hM]
  ·injection hn with hn;subst hn;exact XN hM
 |none=>
  simp only;cases hT:F5 (GA G.toks) w with
  |some k=>
   simp only[gI];refine⟨?_,λn hn=>(by cases hn),λt ht=>?_⟩
   ·show QF G.names w= -1/\QF (GA G.toks) w=k
    rw[SF,SF,hM,hT];exact⟨rfl,rfl⟩
   ·injection ht with ht;subst ht
    have:=XN hT;unfold GA at this
    rwa [lM]at this
  |none=>
   exfalso;rw[JK]at hM hT;rw[<-RK]at hT;rw[hM,hT]at hk;simp at hk
theorem KI {s:ByteArray} (h:DS s=true):1<=D5 s.data.toList/\D5 s.data.toList<=99:=by
 have hz:=PM h;have hlen:s.data.toList.length=s.size:=by simp
 have h2:LG s.data.toList=true:=h;have h3:JG s.data.toList 48 57 2=true/\(s.data.toList.head?==some 48)=false:=by
  unfold LG at h2;simpa using h2
 have h5:=h3.1;unfold JG at h5;simp only[gz,ir]at h5;have h6:=h5.2.2;unfold DP at h6;rw[oh]at h6
 generalize s.data.toList=l at h3 h5 h6 hlen
 have h7:∀x∈l,48<=(x.toNat:Int)/\(x.toNat:Int)<=57:=λx hx=>by simpa using h6 x hx
 match l,h5.1,h5.2.1 with
 | [a],_,_=>
  have h8:=h7 a (by simp);have h9:¬a=48:=by simpa using h3.2
  have h10:¬a.toNat=48:=λe=>h9 (yP.1 e)
  simp[D5];omega
 | [a,b],_,_=>
  have h8:=h7 a (by simp);have h8b:=h7 b (by simp);have h9:¬a=48:=by simpa using h3.2
  have h10:¬a.toNat=48:=λe=>h9 (yP.1 e)
  simp[D5];omega
 |a::b::c::l,_,h=>simp at h;omega
theorem N3 (P:List Ln):(Dw P).nN=(AU P).length:=by show(Cj (DD P) P).length=_;unfold Cj;simp
theorem L3 (P:List Ln):(Dw P).nT=(BD P).length:=by show(LS P).length=_;unfold LS;simp
theorem Ei.afR  (h:Ei P G):G.names.length=(AU P).length:=by rw[h.g.names];simp[G0]
theorem Ei.ad0  (h:Ei P G):G.toks.length=(BD P).length:=by rw[h.g.toks];simp[G0]
theorem IX (P:List Ln):(Dw P).rules=(MI P).map λj=>(j.1,j.2.2.map λw=>Fl (DD P w)):=sP _ _
theorem Ei.rules_eq  (h:Ei P G):G.rules=(MI P).map λj=>(j.2.1,j.2.2):=by
 rw[h.g.rules];show []++_=_;rw[ey];exact cK P λa r=>(a,r)
theorem Ei.ad4  (h:Ei P G) {j:Nat × ByteArray × List ByteArray} (hj:j∈MI P):∀u∈j.2.2,DC G.toks u=true\/D0 G.names u=true:=by
 obtain⟨x,hx,_,hr⟩:=PG hj;exact h.known x (mG hx) j.2.2 hr
theorem Ei.Ph  (h:Ei P G) {t:Nat} (ht:t< (BD P).length):((Dw P).put t:Int)=D5 (nth (BD P)[t].2.2 2).data.toList/\1<=(Dw P).put t/\(Dw P).put t<=99:=by
 have hv:=KI (h.num _ (ot ht));have e:(Dw P).put t=(D5 (nth (BD P)[t].2.2 2).data.toList).toNat:=by
  show(((BD P)[t]?.map λx=>D5 (nth x.2.2 2).data.toList).getD 0).toNat=_;rw[gE ht];rfl
 rw[e];omega
theorem Ei.Zc  (h:Ei P G) {t:Nat} (ht:t< (BD P).length):((Dw P).drop t:Int)=D5 (nth (BD P)[t].2.2 3).data.toList/\1<=(Dw P).drop t/\(Dw P).drop t<=99:=by
 have hv:=KI (h.afQ _ (ot ht));have e:(Dw P).drop t=(D5 (nth (BD P)[t].2.2 3).data.toList).toNat:=by
  show(((BD P)[t]?.map λx=>D5 (nth x.2.2 3).data.toList).getD 0).toNat=_;rw[gE ht];rfl
 rw[e];omega
theorem bX  (h:Ei P G) {w:ByteArray} (h1:DC G.toks w=true) (h2:D0 G.names w=false):∃t:Nat,t< (BD P).length/\DD P w=2*(t:Int):=by
 have hc:=h.g.code w;rw[JK.2 h2]at hc;cases hT:F5 (GA G.toks) w with
 |some k=>
  rw[hT]at hc;have hk:=XN hT;unfold GA at hk;rw[lM,h.ad0]at hk;exact⟨k,hk,hc⟩
 |none=>rw[JK,<-RK,h1]at hT;cases hT
theorem iK (f:ByteArray->Int):∀{P:List Ln},(∀x∈P,x.2.1=1->DS (nth x.2.2 3)=true)->∀t u,F4 f P t u<=99
 | [],_,_,_=>dh _
 |x::P,h,t,u=>by
  rw[F4];split
  ·rename_i hc
   have:=KI (h x (ew ..) hc.1);omega
  ·exact iK f (λy hy=>h y (gj _ hy)) t u
theorem Ei.ok  (h:Ei P G):(Dw P).Ok where
 pos:=by rw[N3];exact h.pos
 lt:=λr hr=>by
  rw[IX]at hr;obtain⟨j,hj,rfl⟩:=dm.1 hr;obtain⟨x,hx,_⟩:=PG hj;rw[N3];exact(zM.1 hx).1
 pn:=λr hr n hn=>by
  rw[IX]at hr;obtain⟨j,hj,rfl⟩:=dm.1 hr;obtain⟨w,hw,e⟩:=dm.1 hn;rw[N3,<-h.afR];exact(h.part (h.ad4 hj w hw)).2.1 n e
 pt:=λr hr t ht=>by
  rw[IX]at hr;obtain⟨j,hj,rfl⟩:=dm.1 hr;obtain⟨w,hw,e⟩:=dm.1 ht;rw[L3,<-h.ad0];exact(h.part (h.ad4 hj w hw)).2.2 t e
 Yz:=λt ht=>by rw[L3]at ht;exact(h.Ph ht).2.1
 Za:=λt ht=>by rw[L3]at ht;exact(h.Ph ht).2.2
 abq:=λt ht=>by rw[L3]at ht;exact(h.Zc ht).2.1
 acM:=λt ht=>by rw[L3]at ht;exact(h.Zc ht).2.2
 acN:=λt u=>iK _ (λx hx h1=>(h.swn x hx h1).1) t u
 parts:=λr hr=>by
  rw[IX]at hr;obtain⟨j,hj,rfl⟩:=dm.1 hr;obtain⟨x,hx,_,h3⟩:=PG hj;simp only[lM];exact zV (XH h3) (h.long x (mG hx))
theorem sS {j:Nat} (h:l[j]?=some x):nth l j=x:=by unfold nth;rw[Af,h];rfl
theorem bK  (h:Ei P G):Rep G (Dw P) where
 ok:=h.ok
 nN:=by rw[N3,h.afR]
 nT:=by rw[L3,h.ad0]
 len:=by rw[IX,h.rules_eq,lM,lM]
 rule:=λi r q hr hq=>by
  rw[h.rules_eq,gM]at hr;rw[IX,gM]at hq;cases hj:(MI P)[i]? with
  |none=>rw[hj]at hr;cases hr
  |some j=>
   rw[hj]at hr hq;simp only[kq,uf]at hr hq;subst hr;subst hq;have hm:=mG hj;obtain⟨x,hx,h2,h3⟩:=PG hm;refine⟨?_,?_,λk p hp=>?_⟩
   ·have hn:G.names[j.1]?=some j.2.1:=by rw[h.g.names];simp[G0,hx,h2]
    show QF G.names j.2.1=_;rw[SF,h.g.once _ _ hn]
   ·simp
   ·simp only[gM]at hp
    cases hk:j.2.2[k]? with
    |none=>rw[hk]at hp;cases hp
    |some u=>
     rw[hk]at hp;simp only[kq,uf]at hp;subst hp;show iX G (nth j.2.2 k) _;rw[sS hk];exact(h.part (h.ad4 hm u (mG hk))).1
 put:=λt tk ht=>by
  rw[h.g.toks]at ht;simp only[G0,ey,gM]at ht;cases hx:(BD P)[t]? with
  |none=>rw[hx]at ht;cases ht
  |some x=>
   rw[hx]at ht;simp only[kq,uf]at ht;subst ht;obtain⟨h1,h2⟩:=zM.1 hx;rw[(h.Ph h1).1,h2];rfl
 Dm:=by rw[N3];exact h.nN
 Ch:=by rw[L3];exact h.nT
 Nh:=by
  have e:((AU P).flatMap λx=>AE x.2.2).length=(MI P).length:=by
   have:=congrArg List.length (cK P λ_ r=>r);simpa using this
  rw[IX,lM,<-e];exact h.nR
 aim:=by
  rw[IX,lM];obtain⟨x,hx⟩:∃x,(AU P)[0]?=some x:=⟨_,gE h.pos⟩;refine List.length_pos_of_mem (a:=(0,nth x.2.2 1,(Ge (x.2.2.drop 3)).2)) ?_;unfold MI;rw[qd];refine⟨(x,0),kf.2 hx,dm.2 ⟨(Ge (x.2.2.drop 3)).2,?_,rfl⟩⟩;unfold AE;simp
theorem Ei.zy  (h:Ei P G):GA G.toks=LS P:=by
 rw[h.g.toks];unfold GA LS;simp[G0,rJ]
def EL (n:Nat):ByteArray:=⟨#[UInt8.ofNat (48+n)]⟩
theorem IH (w:World) (b:UInt8):(convert 221 9 (ae w.heap.size 1 1)).run Tryz.prog (w.alloc (.cells #[.int .u8 (b.toNat:Int)] 5))=.ok (.string ⟨#[b]⟩) (w.alloc (.cells #[.int .u8 (b.toNat:Int)] 5)):=
 run_convert_bytes_back (P:=Tryz.prog) (w.alloc (.cells #[.int .u8 (b.toNat:Int)] 5)) 221 9 5 (af w.heap.size 0) 1 [b] Tryz.underlying221 Tryz.underlying5 Tryz.underlying9 (λj hj=>by
  have h0:j=0:=by simpa using hj
  subst h0;have hb:(w.alloc (.cells #[.int .u8 (b.toNat:Int)] 5)).heap[w.heap.size]?=some (.cells #[.int .u8 (b.toNat:Int)] 5 (0,0)):=dz w _;have hadd:((af w.heap.size 0):Addr).add 0=(af w.heap.size 0):=by unfold Addr.add;split <;> simp_all
  rw[hadd,A0 hb];rfl)
theorem Ri {P:Prop} (h:P:=by
  go_enter Tryz.func70,Tryz.ntmps70
  go_wp2;go_ret;exact⟨rfl,(ah _ _).alloc (zn _) _⟩):P:=h
theorem QE (n:Nat) (hn:n<10) (w:World):Calls Tryz.prog 70 #[ab n] w λe w'=>e=.returned (.string (EL n))/\Below w.heap.size w w':=by
 have h:n=0\/n=1\/n=2\/n=3\/n=4\/n=5\/n=6\/n=7\/n=8\/n=9:=by omega
 rcases h with rfl |rfl |rfl |rfl |rfl |rfl |rfl |rfl |rfl |rfl
 ·have hcv:(convert 221 9 (ae w.heap.size 1 1)).run Tryz.prog (w.alloc (.cells #[.int .u8 48] 5))=.ok (.string ⟨#[48]⟩) (w.alloc (.cells #[.int .u8 48] 5)):=IH w 48
  exact Ri
 ·have hcv:(convert 221 9 (ae w.heap.size 1 1)).run Tryz.prog (w.alloc (.cells #[.int .u8 49] 5))=.ok (.string ⟨#[49]⟩) (w.alloc (.cells #[.int .u8 49] 5)):=IH w 49
  exact Ri
 ·have hcv:(convert 221 9 (ae w.heap.size 1 1)).run Tryz.prog (w.alloc (.cells #[.int .u8 50] 5))=.ok (.string ⟨#[50]⟩) (w.alloc (.cells #[.int .u8 50] 5)):=IH w 50
  exact Ri
 ·have hcv:(convert 221 9 (ae w.heap.size 1 1)).run Tryz.prog (w.alloc (.cells #[.int .u8 51] 5))=.ok (.string ⟨#[51]⟩) (w.alloc (.cells #[.int .u8 51] 5)):=IH w 51
  exact Ri
 ·have hcv:(convert 221 9 (ae w.heap.size 1 1)).run Tryz.prog (w.alloc (.cells #[.int .u8 52] 5))=.ok (.string ⟨#[52]⟩) (w.alloc (.cells #[.int .u8 52] 5)):=IH w 52
  exact Ri
 ·have hcv:(convert 221 9 (ae w.heap.size 1 1)).run Tryz.prog (w.alloc (.cells #[.int .u8 53] 5))=.ok (.string ⟨#[53]⟩) (w.alloc (.cells #[.int .u8 53] 5)):=IH w 53
  exact Ri
 ·have hcv:(convert 221 9 (ae w.heap.size 1 1)).run Tryz.prog (w.alloc (.cells #[.int .u8 54] 5))=.ok (.string ⟨#[54]⟩) (w.alloc (.cells #[.int .u8 54] 5)):=IH w 54
  exact Ri
 ·have hcv:(convert 221 9 (ae w.heap.size 1 1)).run Tryz.prog (w.alloc (.cells #[.int .u8 55] 5))=.ok (.string ⟨#[55]⟩) (w.alloc (.cells #[.int .u8 55] 5)):=IH w 55
  exact Ri
 ·have hcv:(convert 221 9 (ae w.heap.size 1 1)).run Tryz.prog (w.alloc (.cells #[.int .u8 56] 5))=.ok (.string ⟨#[56]⟩) (w.alloc (.cells #[.int .u8 56] 5)):=IH w 56
  exact Ri
 ·have hcv:(convert 221 9 (ae w.heap.size 1 1)).run Tryz.prog (w.alloc (.cells #[.int .u8 57] 5))=.ok (.string ⟨#[57]⟩) (w.alloc (.cells #[.int .u8 57] 5)):=IH w 57
  exact Ri
structure Mk where
 zJ:List Nat
 Ai:List Nat
 swaps:List (List Nat)
 rules:List (List (List Pt))
def E9 (T n:Nat):Pt->Prop
 | .tok t=>t<T
 | .zi k=>k<n
structure Mk.Good (m:Mk):Prop where
 t2:2<=m.zJ.length
 t6:m.zJ.length<=6
 dl:m.Ai.length=m.zJ.length
 sl:m.swaps.length=m.zJ.length
 Zd:∀r∈m.swaps,r.length=m.zJ.length
 p1:∀x∈m.zJ,1<=x/\x<=9
 d1:∀x∈m.Ai,1<=x/\x<=9
 s1:∀r∈m.swaps,∀x∈r,x<=9
 Ze:∀(i:Nat) r,m.swaps[i]?=some r->r.getD i 0=0
 n1:1<=m.rules.length
 n4:m.rules.length<=4
 c1:∀rs∈m.rules,1<=rs.length/\rs.length<=m.zJ.length
 head:∀rs∈m.rules,∀(k:Nat) r,rs[k]?=some r->r.head?=some (.tok k)/\r.length<=5
 part:∀rs∈m.rules,∀r∈rs,∀p∈r,E9 m.zJ.length m.rules.length p
 last:∀rs∈m.rules,∀r,rs.getLast?=some r->∀p∈r,∃t,p=.tok t
 reach:∀(n:Nat) rs,m.rules[n]?=some rs->n+1<m.rules.length->∃r,rs[0]?=some r/\ .zi (n+1)∈r
def wB:Pt->List UInt8
 | .tok t=>[UInt8.ofNat (97+t)]
 | .zi n=>[UInt8.ofNat (65+n)]
def ba (l:List UInt8):ByteArray:=⟨l.toArray⟩
def GJ:List (List (List UInt8))->List (List UInt8)
 | []=>[]
 | [r]=>r
 |r::q::t=>r++ [124]::GJ (q::t)
def KT (i p d:Nat):List (List UInt8):=[[116,111,107,101,110],wB (.tok i),[UInt8.ofNat (48+p)],[UInt8.ofNat (48+d)]]
def IV (i j c:Nat):List (List UInt8):=[[115,119,97,112],wB (.tok i),wB (.tok j),[UInt8.ofNat (48+c)]]
def EJ (n:Nat) (rs:List (List Pt)):List (List UInt8):=[114,117,108,101]::wB (.zi n):: [61]::GJ (rs.map λr=>r.map wB)
def DA (m:Mk) (i j:Nat):Nat:=(m.swaps.getD i []).getD j 0
def IJ (m:Mk) (i:Nat):List (List (List UInt8)):=KT i (m.zJ.getD i 0) (m.Ai.getD i 0)::(List.range m.zJ.length).flatMap λj=>if 0<DA m i j then [IV i j (DA m i j)]else []
def FI (m:Mk):List (List (List UInt8)):=(List.range m.zJ.length).flatMap (IJ m)++m.rules.zipIdx.map λx=>EJ x.2 x.1
def DK (m:Mk):ByteArray:=ba (M6 ((FI m).map BW))
theorem OQ:∀i,i<6->DZ (AB i)=true:=by decide+kernel
theorem UE:∀i,i<4->I1 (BM i)=true:=by decide+kernel
theorem XS:∀i,i<10->1<=i->DS (EL i)=true:=by decide+kernel
theorem X3:∀i,i<10->D5 (EL i).data.toList=i:=by decide+kernel
theorem OP:∀i,i<6->∀j,j<6->((AB i).toList==(AB j).toList)=decide (i=j):=by decide+kernel
theorem mT:∀i,i<4->∀j,j<4->((BM i).toList==(BM j).toList)=decide (i=j):=by decide+kernel
theorem XA:∀i,i<6->∀j,j<4->((AB i).toList==(BM j).toList)=false:=by decide+kernel
theorem tR:∀i,i<6->IL (AB i)=false:=by decide+kernel
theorem wC:∀i,i<4->IL (BM i)=false:=by decide+kernel
theorem x9:∀i,i<6->UInt8.ofNat (97+i)≠32/\UInt8.ofNat (97+i)≠10:=by decide+kernel
theorem wY:∀i,i<4->UInt8.ofNat (65+i)≠32/\UInt8.ofNat (65+i)≠10:=by decide+kernel
theorem wM:∀i,i<10->UInt8.ofNat (48+i)≠32/\UInt8.ofNat (48+i)≠10:=by decide+kernel
def EG:Pt->ByteArray
 | .tok t=>AB t
 | .zi n=>BM n
theorem jC (p:Pt):ba (wB p)=EG p:=by cases p <;> rfl
theorem Mk.Good.rl {m:Mk} (h:m.Good)  (hn:m.rules[n]?=some rs):n<4/\rs∈m.rules:=by
 have h1:=(zM.1 hn).1;have:=h.n4;exact⟨by omega,mG hn⟩
theorem XE {m:Mk} (h:m.Good)  (hr:rs∈m.rules) {r:List Pt} (hr2:r∈rs) {p:Pt} (hp:p∈r):E9 6 4 p:=by
 have h1:=h.part rs hr r hr2 p hp;have h2:=h.t6;have h3:=h.n4;cases p <;> simp only[E9]at h1 ⊢ <;> omega
theorem XO {α:Type}{l:List α}{d x:α} (h:l[i]?=some x):l.getD i d=x:=by rw[Af,h];rfl
theorem XP {α:Type}{l:List α}{d:α} (h:l[i]?=none):l.getD i d=d:=by rw[Af,h];rfl
theorem KL {m:Mk} (h:m.Good) (i j:Nat):DA m i j<=9:=by
 unfold DA;cases hi:m.swaps[i]? with
 |none=>rw[XP hi];simp
 |some r=>
  rw[XO hi];cases hj:r[j]? with
  |none=>rw[XP hj];omega
  |some x=>rw[XO hj];exact h.s1 r (mG hi) x (mG hj)
theorem V8 {m:Mk} (h:m.Good) (i:Nat):DA m i i=0:=by
 unfold DA;cases hi:m.swaps[i]? with
 |none=>rw[XP hi];simp
 |some r=>rw[XO hi];exact h.Ze i r hi
theorem JB {l:List Nat}{lo hi:Nat} (h:∀x∈l,lo<=x/\x<=hi)  (hi':i<l.length):lo<=l.getD i 0/\l.getD i 0<=hi:=by
 rw[Af,gE hi'];exact h _ (ot hi')
theorem MB {m:Mk} (h:m.Good) {ws:List (List UInt8)} (hw:ws∈FI m):
  (∃i,i<m.zJ.length/\ws=KT i (m.zJ.getD i 0) (m.Ai.getD i 0))\/(∃i j,i<m.zJ.length/\j<m.zJ.length/\i≠j/\0<DA m i j/\ws=IV i j (DA m i j))\/(∃(n:Nat) (rs:List (List Pt)),m.rules[n]?=some rs/\ws=EJ n rs):=by
 unfold FI at hw;rw[ig]at hw
 rcases hw with hw |hw
 ·rw[qd]at hw
  obtain⟨i,hi,hw⟩:=hw;have hi:=jc.1 hi;unfold IJ at hw
  rcases bk.1 hw with rfl |hw
  ·exact .inl ⟨i,hi,rfl⟩
  ·rw[qd]at hw
   obtain⟨j,hj,hw⟩:=hw;have hj:=jc.1 hj;split at hw
   ·rename_i h0
    refine .inr (.inl ⟨i,j,hi,hj,λe=>?_,h0,by simpa using hw⟩);subst e;rw[V8 h]at h0;omega
   ·cases hw
 ·rw[dm]at hw
  obtain⟨⟨rs,n⟩,hx,rfl⟩:=hw;exact .inr (.inr ⟨n,rs,kf.1 hx,rfl⟩)
theorem PH {w:List UInt8}:∀{L:List (List (List UInt8))},w∈GJ L->w=[124]\/∃r∈L,w∈r
 | [],h=>by cases h
 | [r],h=>.inr ⟨r,by simp,h⟩
 |r::q::t,h=>by
  unfold GJ at h;rw[ig,bk]at h
  rcases h with h |h |h
  ·exact .inr ⟨r,by simp,h⟩
  ·exact .inl h
  ·rcases PH (L:=q::t) h with h1 | ⟨x,hx,h1⟩
   ·exact .inl h1
   ·exact .inr ⟨x,by simp[hx],h1⟩
theorem kY {m:Mk} (h:m.Good) {ws:List (List UInt8)} (hw:ws∈FI m):∀w∈ws,∀b∈w,b≠32/\b≠10:=by
 have Ib:=h.t6;have key:∀w∈ws,w=[116,111,107,101,110]\/w=[115,119,97,112]\/w=[114,117,108,101]\/w=[61]\/w=[124]\/(∃i,i<6/\w=[UInt8.ofNat (97+i)])\/(∃i,i<4/\w=[UInt8.ofNat (65+i)])\/(∃i,i<10/\w=[UInt8.ofNat (48+i)]):=by
  intro w hm
  rcases MB h hw with⟨i,hi,rfl⟩ | ⟨i,j,hi,hj,_,_,rfl⟩ | ⟨n,rs,hn,rfl⟩
  ·have hp:=JB h.p1 hi
   have hd:=JB h.d1 (i:=i) acH;simp only[KT,bk,ko,su]at hm
   rcases hm with rfl |rfl |rfl |rfl
   ·exact .inl rfl
   ·exact .inr (.inr (.inr (.inr (.inr (.inl ⟨i,by omega,rfl⟩)))))
   ·exact .inr (.inr (.inr (.inr (.inr (.inr (.inr ⟨_,by omega,rfl⟩))))))
   ·exact .inr (.inr (.inr (.inr (.inr (.inr (.inr ⟨_,by omega,rfl⟩))))))
  ·have hc:=KL h i j
   simp only[IV,bk,ko,su]at hm
   rcases hm with rfl |rfl |rfl |rfl
   ·exact .inr (.inl rfl)
   ·exact .inr (.inr (.inr (.inr (.inr (.inl ⟨i,by omega,rfl⟩)))))
   ·exact .inr (.inr (.inr (.inr (.inr (.inl ⟨j,by omega,rfl⟩)))))
   ·exact .inr (.inr (.inr (.inr (.inr (.inr (.inr ⟨_,by omega,rfl⟩))))))
  ·obtain⟨Hi,hmem⟩:=h.rl hn
   simp only[EJ,bk]at hm
   rcases hm with rfl |rfl |rfl |hm
   ·exact .inr (.inr (.inl rfl))
   ·exact .inr (.inr (.inr (.inr (.inr (.inr (.inl ⟨n,Hi,rfl⟩))))))
   ·exact .inr (.inr (.inr (.inl rfl)))
   ·rcases PH hm with rfl | ⟨r,hr,hwr⟩
    ·exact .inr (.inr (.inr (.inr (.inl rfl))))
    ·rw[dm]at hr
     obtain⟨q,hq,rfl⟩:=hr;rw[dm]at hwr;obtain⟨p,hp,rfl⟩:=hwr;have:=XE h hmem hq hp;cases p with
     |tok t=>exact .inr (.inr (.inr (.inr (.inr (.inl ⟨t,this,rfl⟩)))))
     |zi k=>exact .inr (.inr (.inr (.inr (.inr (.inr (.inl ⟨k,this,rfl⟩))))))
 intro w hm b hb
 rcases key w hm with rfl |rfl |rfl |rfl |rfl | ⟨i,hi,rfl⟩ | ⟨i,hi,rfl⟩ | ⟨i,hi,rfl⟩
 ·revert b;decide
 ·revert b;decide
 ·revert b;decide
 ·revert b;decide
 ·revert b;decide
 ·obtain rfl:=mS.1 hb
  exact x9 i hi
 ·obtain rfl:=mS.1 hb
  exact wY i hi
 ·obtain rfl:=mS.1 hb
  exact wM i hi
theorem ZJ {b:UInt8}:∀{ws:List (List UInt8)},b∈BW ws->b=32\/∃w∈ws,b∈w
 | [],h=>by cases h
 | [w],h=>.inr ⟨w,by simp,h⟩
 |w::v::r,h=>by
  unfold BW at h;rw[ig,bk]at h
  rcases h with h |h |h
  ·exact .inr ⟨w,by simp,h⟩
  ·exact .inl h
  ·rcases ZJ (ws:=v::r) h with h1 | ⟨x,hx,h1⟩
   ·exact .inl h1
   ·exact .inr ⟨x,by simp[hx],h1⟩
theorem QK {m:Mk} (h:m.Good) {ws:List (List UInt8)} (hw:ws∈FI m):(∀b∈BW ws,b≠10)/\AF (ba (BW ws))=ws.map ba:=by
 have hc:=kY h hw;refine⟨λb hb=>?_,?_⟩
 ·rcases ZJ hb with rfl | ⟨w,hm,h1⟩
  ·decide
  ·exact(hc w hm b h1).2
 ·refine jB ws ?_ (λw hm b hb=>(hc w hm b hb).1)
  rcases MB h hw with⟨i,_,rfl⟩ | ⟨i,j,_,_,_,_,rfl⟩ | ⟨n,rs,_,rfl⟩ <;> simp[KT,IV,EJ]
theorem wL:(ba [116,111,107,101,110]).toList=[116,111,107,101,110]:=by decide+kernel
theorem xB:(ba [115,119,97,112]).toList=[115,119,97,112]:=by decide+kernel
theorem xG:(ba [114,117,108,101]).toList=[114,117,108,101]:=by decide+kernel
theorem xU:(ba [61]).toList=[61]:=by decide+kernel
theorem o0:IL (ba [124])=true:=by decide+kernel
theorem UO (i p d:Nat):(KT i p d).map ba=[ba [116,111,107,101,110],AB i,EL p,EL d]:=rfl
theorem J0 (i j c:Nat):(IV i j c).map ba=[ba [115,119,97,112],AB i,AB j,EL c]:=rfl
theorem Q6 (n:Nat) (rs:List (List Pt)):(EJ n rs).map ba=ba [114,117,108,101]::BM n::ba [61]::(GJ (rs.map λr=>r.map wB)).map ba:=rfl
theorem TV {p d:Nat} (hi:i<6) (hp:1<=p/\p<=9) (hd:1<=d/\d<=9):AX [ba [116,111,107,101,110],AB i,EL p,EL d]=true/\AZ [ba [116,111,107,101,110],AB i,EL p,EL d]=0:=by
 have h0:(nth [ba [116,111,107,101,110],AB i,EL p,EL d] 0).toList=[116,111,107,101,110]:=wL;refine⟨?_,?_⟩
 ·unfold AX
  rw[aq (by simp),h0,ay (by decide)];unfold DF;show(true&&(DZ (AB i)&&(DS (EL p)&&DS (EL d))))=true;rw[OQ i hi,XS p (by omega) hp.1,XS d (by omega) hd.1];rfl
 ·unfold AZ
  rw[h0,ay (by decide)]
theorem PP {j c:Nat} (hi:i<6) (hj:j<6) (hc:1<=c/\c<=9):AX [ba [115,119,97,112],AB i,AB j,EL c]=true/\AZ [ba [115,119,97,112],AB i,AB j,EL c]=1:=by
 have h0:(nth [ba [115,119,97,112],AB i,AB j,EL c] 0).toList=[115,119,97,112]:=xB;refine⟨?_,?_⟩
 ·unfold AX
  rw[aq (by simp),h0,aq (by decide),ay (by decide)];unfold C0;show(true&&(DZ (AB i)&&(DZ (AB j)&&DS (EL c))))=true;rw[OQ i hi,OQ j hj,XS c (by omega) hc.1];rfl
 ·unfold AZ
  rw[h0,aq (by decide),ay (by decide)]
theorem Q9 {m:Mk} (h:m.Good)  (hn:m.rules[n]?=some rs):AX ((EJ n rs).map ba)=true/\AZ ((EJ n rs).map ba)=2:=by
 obtain⟨Hi,hmem⟩:=h.rl hn;rw[Q6]
 generalize hq:(GJ (rs.map λr=>r.map wB)).map ba=q
 have h0:(nth (ba [114,117,108,101]::BM n::ba [61]::q) 0).toList=[114,117,108,101]:=xG;refine⟨?_,?_⟩
 ·unfold AX
  rw[aq (by simp),h0,aq (by decide),aq (by decide),ay (by decide)];unfold D7 O2;have h2:(nth (ba [114,117,108,101]::BM n::ba [61]::q) 2).toList=[61]:=xU;have h1:nth (ba [114,117,108,101]::BM n::ba [61]::q) 1=BM n:=rfl;rw[h2,h1,UE n Hi,iz (by simp)];show((true&&(true&&true))&&q.all NL)=true;simp only[Bool.and_self,yH,oh];intro x hx;rw[<-hq,dm]at hx;obtain⟨w,hw,rfl⟩:=hx;unfold NL
  rcases PH hw with rfl | ⟨r,hr,hwr⟩
  ·rw[o0];rfl
  ·rw[dm]at hr
   obtain⟨y,hy,rfl⟩:=hr;rw[dm]at hwr;obtain⟨p,hp,rfl⟩:=hwr;rw[jC];have:=XE h hmem hy hp;cases p with
   |tok t=>show(IL (AB t)||(DZ (AB t)||I1 (AB t)))=true;rw[OQ t this];simp
   |zi k=>show(IL (BM k)||(DZ (BM k)||I1 (BM k)))=true;rw[UE k this];simp
 ·unfold AZ
  rw[h0,aq (by decide),aq (by decide)]
theorem gO {m:Mk} (h:m.Good) {ws:List (List UInt8)} (hw:ws∈FI m):AX (ws.map ba)=true/\¬(ws.map ba).length=1:=by
 have Ib:=h.t6
 rcases MB h hw with⟨i,hi,rfl⟩ | ⟨i,j,hi,hj,_,h0,rfl⟩ | ⟨n,rs,hn,rfl⟩
 ·rw[UO]
  exact⟨(TV (by omega) (JB h.p1 hi) (JB h.d1 acH)).1,by simp⟩
 ·rw[J0]
  exact⟨(PP (by omega) (by omega) ⟨h0,KL h i j⟩).1,by simp⟩
 ·exact⟨(Q9 h hn).1,by rw[Q6];simp⟩
theorem Y9 {m:Mk} (h:m.Good):AL (DK m) 0=((QW ((FI m).map BW) 0).zip ((FI m).map λws=>ws.map ba),(DK m).size):=by
 have h1:=VC (DK m) ((FI m).map BW) 0 (by simp[DK,ba]) (dh _) (λl hl=>by
  obtain⟨ws,hw,rfl⟩:=dm.1 hl;refine⟨(QK h hw).1,?_⟩;have:=(QK h hw).2;unfold ba at this;rw[this];exact(gO h hw).1)
 rw[h1,qm]
 congr 2
 refine mj λws hw=>?_
 exact(QK h hw).2
theorem S0:∀(r:List ByteArray) (d:List (List ByteArray)) (c:List ByteArray),(∀w∈r,IL w=false)->r.foldl DO (d,c)=(d,c++r)
 | [],d,c,_=>by simp
 |w::r,d,c,h=>by
  rw[lz];have e:DO (d,c) w=(d,c++ [w]):=by unfold DO;rw[aq (by rw[h w (by simp)];decide)]
  rw[e,S0 r d _ (λx hx=>h x Lz)];simp
theorem b9:∀(L:List (List (List UInt8))) (d:List (List ByteArray)),L≠ []->(∀r∈L,∀w∈r,IL (ba w)=false)->
  (((GJ L).map ba).foldl DO (d,[])).1++ [(((GJ L).map ba).foldl DO (d,[])).2]=d++L.map λr=>r.map ba
 | [],d,h,_=>absurd rfl h
 | [r],d,_,h=>by
  show((r.map ba).foldl DO (d,[])).1++ [((r.map ba).foldl DO (d,[])).2]=_;rw[S0 (r.map ba) d [] (λw hw=>by obtain⟨x,hx,rfl⟩:=dm.1 hw;exact h r (by simp) x hx)];simp
 |r::q::t,d,_,h=>by
  have hr:=S0 (r.map ba) d [] (λw hw=>by obtain⟨x,hx,rfl⟩:=dm.1 hw;exact h r (by simp) x hx);have e:((GJ (r::q::t)).map ba).foldl DO (d,[])=((GJ (q::t)).map ba).foldl DO (d++ [r.map ba],[]):=by
   show((r++ [124]::GJ (q::t)).map ba).foldl DO _=_;rw[fq,jx,ux,hr,lz]
   congr 1
   unfold DO;rw[ay o0];simp
  rw[e,b9 (q::t) _ (by simp) (λx hx=>h x Lz)];simp
theorem MP {m:Mk} (h:m.Good)  (hn:m.rules[n]?=some rs):AE ((EJ n rs).map ba)=rs.map λr=>r.map EG:=by
 obtain⟨Hi,hmem⟩:=h.rl hn;have hc:=(h.c1 rs hmem).1;unfold AE Ge;rw[Q6];have:=b9 (rs.map λr=>r.map wB) [] (by intro e;have:=congrArg List.length e;simp at this;rw[this]at hc;simp at hc) (λr hr w hw=>by
  rw[dm]at hr;obtain⟨y,hy,rfl⟩:=hr;rw[dm]at hw;obtain⟨p,hp,rfl⟩:=hw;rw[jC];have:=XE h hmem hy hp;cases p with
  |tok t=>exact tR t this
  |zi k=>exact wC k this)
 show(((GJ (rs.map λr=>r.map wB)).map ba).foldl DO ([],[])).1++ [(((GJ (rs.map λr=>r.map wB)).map ba).foldl DO ([],[])).2]=_;rw[this,ey,qm];refine mj λr _=>?_
 show(r.map wB).map ba=_;rw[qm];exact mj λp _=>jC p
def BL (w:World) (B:Nat) (v:Value) (l:List ByteArray):Prop:=w.ownsRow B 9 1 v l.length (EE l)
end Go.Proofs.YtjjggdcnpndgjaaGreatDoor
