import Derived.Test.YtjjggdcnpndgjaaGreatDoorJ8
import Derived.Laws.IdiomStrings
set_option linter.unusedSimpArgs false
set_option maxRecDepth 100000
namespace Go.Proofs.YtjjggdcnpndgjaaGreatDoor
open Go.RowKit
variable {G:Gr}{M l:List ByteArray}{P:List Ln}{u x:ByteArray}
def ptC (c:Int):Pt:=if c % 2=1 then .nam (c / 2).toNat else .tok (c / 2).toNat
def BA (P:List Ln):List Ln:=P.filter fun x=>x.2.1==0
def AL (P:List Ln):List Ln:=P.filter fun x=>x.2.1==2
def qG (x:Ln):ByteArray × Int × Int:=(nth x.2.2 1,CZ (nth x.2.2 2).data.toList,CZ (nth x.2.2 3).data.toList)
def D5 (P:List Ln):ByteArray->Int:=ET P 0 0 (fun _=>0)
def U5 (f:ByteArray->Int) (x:Ln):Nm:=(nth x.2.2 1,(A8 x.2.2).map fun r=>r.map fun w=>ptC (f w))
def LE (P:List Ln):List ByteArray:=(BA P).map fun x=>nth x.2.2 1
def pgL (f:ByteArray->Int) (P:List Ln):List Nm:=(AL P).map (U5 f)
def P1 (pg:List Nm):List (Nat × List Pt):=pg.zipIdx.flatMap fun x=>x.1.2.map fun ps=>(x.2,ps)
def EW (f:ByteArray->Int):List Ln->Nat->Nat->Nat
 | [],_,_=>0
 |x::P,t,u=>if x.2.1=1/\f (nth x.2.2 1)=2*(t:Int)/\f (nth x.2.2 2)=2*(u:Int)then(CZ (nth x.2.2 3).data.toList).toNat else EW f P t u
theorem gK {f:ByteArray->Int}{t u c:Nat}:∀{P:List Ln},(∀x∈P,x.2.1=1->f (nth x.2.2 1)=2*(t:Int)->f (nth x.2.2 2)=2*(u:Int)->(CZ (nth x.2.2 3).data.toList).toNat=c)->
  (c≠0->∃x∈P,x.2.1=1/\f (nth x.2.2 1)=2*(t:Int)/\f (nth x.2.2 2)=2*(u:Int))->EW f P t u=c
 | [],_,h=>by
  by_cases hc:c=0
  ·rw[hc];rfl
  ·obtain⟨x,hx,_⟩:=h hc;cases hx
 |x::P,h1,h2=>by
  rw[EW];split
  ·rename_i hc
   exact h1 x (List.mem_cons_self ..) hc.1 hc.2.1 hc.2.2
  ·rename_i hc
   refine gK (fun y hy=>h1 y (List.mem_cons_of_mem _ hy)) fun h0=>?_
   obtain⟨y,hy,hm⟩:=h2 h0
   rcases List.mem_cons.1 hy with rfl |hy
   ·exact absurd hm hc
   ·exact⟨y,hy,hm⟩
def ngL (P:List Ln):NG where
 nT:=(LE P).length
 nN:=(pgL (D5 P) P).length
 put:=fun t=>(((BA P)[t]?.map fun x=>CZ (nth x.2.2 2).data.toList).getD 0).toNat
 drop:=fun t=>(((BA P)[t]?.map fun x=>CZ (nth x.2.2 3).data.toList).getD 0).toNat
 swp:=EW (D5 P) P
 rules:=P1 (pgL (D5 P) P)
def EV (l:List ByteArray) (x:ByteArray):Option Nat:=l.findIdx? fun t=>t.toList==x.toList
theorem S5 (l:List ByteArray) (x:ByteArray):PL l x=match EV l x with
  |some i=>(i:Int)
  |none=> -1:=rfl
theorem U0 (l:List ByteArray) (u x:ByteArray):EV (l++ [u]) x=match EV l x with
  |some i=>some i
  |none=>if(u.toList==x.toList)=true then some l.length else none:=by
 unfold EV;rw[List.findIdx?_append];cases h:l.findIdx? fun t=>t.toList==x.toList with
 |some i=>rfl
 |none=>
  simp only[Option.none_or,List.findIdx?_cons,List.findIdx?_nil];cases hb:(u.toList==x.toList) <;> simp
theorem JG:EV l x=none↔CQ l x=false:=by
 unfold EV CQ;rw[List.findIdx?_eq_none_iff,List.any_eq_false];constructor
 ·intro h y hy;rw[h y hy];decide
 ·intro h y hy;have:=h y hy;simpa using this
theorem X0 {i:Nat} (h:EV l x=some i):i<l.length:=by
 unfold EV at h;exact(List.findIdx?_eq_some_iff_getElem.1 h).1
theorem UO (x s:ByteArray):EI x s=(x.toList==s.toList):=by
 unfold EI;rw[ByteArray.toList_eq,ByteArray.toList_eq,Bool.eq_iff_iff];simp
theorem QO (T:List (ByteArray × Int × Int)) (u:ByteArray):D6 T u=CQ (FT T) u:=by
 unfold D6 CQ FT;rw[List.any_map];rfl
def IX (f:ByteArray->Int) (T:List ByteArray) (M:List ByteArray):Prop:=
 ∀s,f s=match EV M s with
  |some k=>2*(k:Int)+1
  |none=>match EV T s with
   |some k=>2*(k:Int)
   |none=>0
theorem PZ  (h:(u.toList==x.toList)=true) (l:List ByteArray):CQ l x=CQ l u:=by
 rw[beq_iff_eq]at h;unfold CQ;rw[h]
theorem IX.tok {f:ByteArray->Int}{T:List ByteArray} (h:IX f T M)  (hT:CQ T u=false) (hM:CQ M u=false):
  IX (fun s=>if EI u s=true then 2*(T.length:Int)else f s) (T++ [u]) M:=by
 intro s;simp only[UO,U0]
 by_cases e:(u.toList==s.toList)=true
 ·have h1:EV M s=none:=by rw[JG,PZ e,hM]
  have h2:EV T s=none:=by rw[JG,PZ e,hT]
  rw[if_pos e,h1,h2,if_pos e]
 ·rw[if_neg e,h s,if_neg e]
  cases EV M s <;> cases EV T s <;> rfl
theorem IX.nam {f:ByteArray->Int}{T:List ByteArray} (h:IX f T M)  (hM:CQ M u=false):
  IX (fun s=>if EI u s=true then 2*(M.length:Int)+1 else f s) T (M++ [u]):=by
 intro s;simp only[UO,U0]
 by_cases e:(u.toList==s.toList)=true
 ·have h1:EV M s=none:=by rw[JG,PZ e,hM]
  rw[if_pos e,h1,if_pos e]
 ·rw[if_neg e,h s,if_neg e]
  cases EV M s <;> rfl
def ZP (M:List ByteArray):Prop:=∀i u,M[i]?=some u->EV M u=some i
theorem ZP.add  (h:ZP M)  (hM:CQ M u=false):ZP (M++ [u]):=by
 intro i v hv;rw[U0]
 by_cases hi:i<M.length
 ·rw[aL hi]at hv
  rw[h i v hv]
 ·rw[aR_ (by omega)]at hv
  obtain⟨h1,h2⟩:=gS_.1 hv;simp at h1;have e:v=u:=by simp only[List.getElem_singleton]at h2;exact h2.symm
  subst e;rw[JG.2 hM];simp;omega
structure sI (P:List Ln) (G G':Gr) (f:ByteArray->Int):Prop where
 toks:G'.toks=G.toks++(BA P).map qG
 names:G'.names=G.names++(AL P).map fun x=>nth x.2.2 1
 rules:G'.rules=G.rules++(AL P).flatMap fun x=>(A8 x.2.2).map fun r=>(nth x.2.2 1,r)
 code:IX f (FT G'.toks) G'.names
 once:ZP G'.names
theorem lO (T:List (ByteArray × Int × Int)) (x:ByteArray × Int × Int):FT (T++ [x])=FT T++ [x.1]:=by unfold FT;simp
theorem KU:∀(ls:List (Nat × List ByteArray)) (G:Gr) (m:Int) (t n r:Nat) (ws:List ByteArray) (f:ByteArray->Int),(∀x∈ls,AR x.2=true)->Inv G ws t n r->
  IX f (FT G.toks) G.names->ZP G.names->(E7 ls G m).2.2=none->sI (AE ls) G (E7 ls G m).1 (ET (AE ls) t n f)
 | [],G,m,t,n,r,ws,f,_,hI,hf,ho,_=>⟨by simp[E7,AE,BA],by simp[E7,AE,AL],by simp[E7,AE,AL],hf,ho⟩
 |x::ls,G,m,t,n,r,ws,f,hall,hI,hf,ho,hn=>by
  have hx:=hall x (by simp);have hrest:∀y∈ls,AR y.2=true:=fun y hy=>hall y (by simp[hy])
  by_cases h3:(DC G x.2).2=3
  ·rw[E7,if_pos h3]at hn;cases hn
  ·have ep:∀mm,mm=(if(DC G x.2).2=4/\m<0 then(x.1:Int)else m)->E7 (x::ls) G m=E7 ls (DC G x.2).1 mm:=fun mm h=>by rw[E7,if_neg h3,h]
   obtain⟨mm,hmm⟩:=qF ((if(DC G x.2).2=4/\m<0 then(x.1:Int)else m));rw[ep mm hmm]at hn ⊢
   by_cases h1:x.2.length=1
   ·have hs:=UB hI hx h1
    rw[KC h1];rw[hs.1]at hn ⊢;exact KU ls G mm t n r ws f hrest hI hf ho hn
   ·rw[MH h1]
    rcases KZ hx h1 with⟨hsh,hlen,htk⟩ | ⟨hsh,hlen,htk,_⟩ | ⟨hsh,hlen,hnm,_⟩
    ·have h0:((nth x.2 0).toList== [116,111,107,101,110])=true:=FA hx h1 hsh
     rw[hsh]
     rcases ZK hI h0 htk with⟨hc,h3'⟩ | ⟨hc,hI2,_⟩
     ·exact absurd h3' h3
     ·have hno:=hI.no_name htk
      have hnt:D6 G.toks (nth x.2 1)=false:=by
       cases hq:D6 G.toks (nth x.2 1)with
       |false=>rfl
       |true=>exact absurd ((hI.has _).1 (.inl hq)) hc
      have eg:(DC G x.2).1= {G with toks:=G.toks++ [(nth x.2 1,CZ (nth x.2 2).data.toList,CZ (nth x.2 3).data.toList)]}:=by
       unfold DC;rw[if_pos h0,if_neg (by rw[hnt];decide)]
      have hf2:IX (fun s=>if EI (nth x.2 1) s=true then 2*(t:Int)else f s) (FT (DC G x.2).1.toks) (DC G x.2).1.names:=by
       rw[eg];simp only[lO];have h4:=hf.tok (u:=nth x.2 1) (by rw[<-QO];exact hnt) hno;rw[<-hI.nt];unfold FT at h4 ⊢
       rwa [lM]at h4
      have hg:=KU ls _ mm _ _ _ _ _ hrest hI2 hf2 (by rw[eg];exact ho) hn;refine⟨?_,?_,?_,?_,hg.once⟩
      ·rw[hg.toks,eg];simp[BA,qG]
      ·rw[hg.names,eg];simp[AL]
      ·rw[hg.rules,eg];simp[AL]
      ·have e:ET ((x.1,0,x.2)::AE ls) t n f=ET (AE ls) (t+1) n (fun s=>if EI (nth x.2 1) s=true then 2*(t:Int)else f s):=rfl
       rw[e];exact hg.code
    ·have h0:=FA hx h1 hsh
     rw[hsh];have hs:=XX hI h0.1 h0.2;have eg:(DC G x.2).1= {G with swps:=G.swps++ [(nth x.2 1,nth x.2 2,CZ (nth x.2 3).data.toList)]}:=by
      unfold DC;rw[if_neg (by rw[h0.1];decide),if_pos h0.2]
     have hg:=KU ls _ mm _ _ _ _ f hrest hs.1 (by rw[eg];exact hf) (by rw[eg];exact ho) hn;refine⟨?_,?_,?_,?_,hg.once⟩
     ·rw[hg.toks,eg];simp[BA]
     ·rw[hg.names,eg];simp[AL]
     ·rw[hg.rules,eg];simp[AL]
     ·have e:ET ((x.1,1,x.2)::AE ls) t n f=ET (AE ls) t n f:=rfl
      rw[e];exact hg.code
    ·have h0:=FA hx h1 hsh
     rw[hsh]
     rcases X3 hI h0.1 h0.2.1 h0.2.2 hnm with⟨hc,h3'⟩ | ⟨hc,hI2,_⟩
     ·exact absurd h3' h3
     ·have hnn:CQ G.names (nth x.2 1)=false:=by
       cases hq:CQ G.names (nth x.2 1)with
       |false=>rfl
       |true=>exact absurd ((hI.has _).1 (.inr hq)) hc
      have eg:(DC G x.2).1= {G with names:=G.names++ [nth x.2 1],rules:=G.rules++(A8 x.2).map fun r=>(nth x.2 1,r)}:=by
       unfold DC;rw[if_neg (by rw[h0.1];decide),if_neg (by rw[h0.2.1];decide),if_pos h0.2.2,if_neg (by rw[hnn];decide),(YB G.rules (nth x.2 1) x.2).1]
      have hf2:IX (fun s=>if EI (nth x.2 1) s=true then 2*(n:Int)+1 else f s) (FT (DC G x.2).1.toks) (DC G x.2).1.names:=by
       rw[eg,<-hI.nn];exact hf.nam hnn
      have hg:=KU ls _ mm _ _ _ _ _ hrest hI2 hf2 (by rw[eg];exact ho.add hnn) hn;refine⟨?_,?_,?_,?_,hg.once⟩
      ·rw[hg.toks,eg];simp[BA]
      ·rw[hg.names,eg];simp[AL]
      ·rw[hg.rules,eg];simp[AL]
      ·have e:ET ((x.1,2,x.2)::AE ls) t n f=ET (AE ls) t (n+1) (fun s=>if EI (nth x.2 1) s=true then 2*(n:Int)+1 else f s):=rfl
       rw[e];exact hg.code
theorem XY:∀(P:List Ln) (t n r:Nat),BU P t n r=none->t<=20->n<=20->r<=60->
  t+(BA P).length<=20/\n+(AL P).length<=20/\r+((AL P).flatMap fun x=>A8 x.2.2).length<=60/\∀x∈AL P,E2 (A8 x.2.2)<=8
 | [],t,n,r,_,h1,h2,h3=>⟨by simpa[BA] using h1,by simpa[AL] using h2,by simpa[AL] using h3,fun x hx=>by simp[AL]at hx⟩
 |x::P,t,n,r,h,h1,h2,h3=>by
  rw[BU]at h
  by_cases hc:20< (if x.2.1=0 then t+1 else t)\/20< (if x.2.1=2 then n+1 else n)\/60< (if x.2.1=2 then r+(A8 x.2.2).length else r)\/8< (if x.2.1=2 then E2 (A8 x.2.2)else 0)
  ·rw[if_pos hc]at h;cases h
  ·rw[if_neg hc]at h
   have ih:=XY P _ _ _ h (by omega) (by omega) (by omega);clear h
   by_cases h0:x.2.1=0
   ·have h02:¬x.2.1=2:=by omega
    simp only[if_pos h0,if_neg h02]at ih;have e1:BA (x::P)=x::BA P:=by unfold BA;rw[List.filter_cons_of_pos y54Z]
    have e2:AL (x::P)=AL P:=by unfold AL;rw[List.filter_cons_of_neg y54Z]
    rw[e1,e2];exact⟨by rw[lC];omega,ih.2.1,ih.2.2.1,ih.2.2.2⟩
   ·have e1:BA (x::P)=BA P:=by unfold BA;rw[List.filter_cons_of_neg y54Z]
    by_cases h02:x.2.1=2
    ·simp only[if_neg h0,if_pos h02]at ih hc
     have e2:AL (x::P)=x::AL P:=by unfold AL;rw[List.filter_cons_of_pos (by simp[h02])]
     rw[e1,e2];refine⟨ih.1,by rw[lC];omega,by rw[List.flatMap_cons,lA];omega,fun y hy=>?_⟩
     rcases List.mem_cons.1 hy with rfl |hy
     ·omega
     ·exact ih.2.2.2 y hy
    ·simp only[if_neg h0,if_neg h02]at ih
     have e2:AL (x::P)=AL P:=by unfold AL;rw[List.filter_cons_of_neg (by simp[h02])]
     rw[e1,e2];exact ih
theorem VV {rs:List (List ByteArray)}:∀{r:List ByteArray},r∈rs->r.length<=E2 rs:=by
 have h:∀(rs:List (List ByteArray)) (m:Nat),m<=rs.foldl (fun m r=>max m r.length) m/\∀r∈rs,r.length<=rs.foldl (fun m r=>max m r.length) m:=by
  intro rs
  induction rs with
  |nil=>intro m;exact⟨lR_ _,fun r hr=>by cases hr⟩
  |cons a rs ih=>
   intro m;rw[List.foldl_cons];have h1:=ih (max m a.length);refine⟨by omega,fun r hr=>?_⟩
   rcases List.mem_cons.1 hr with rfl |hr
   ·omega
   ·exact h1.2 r hr
 intro r hr;exact(h rs 0).2 r hr
theorem U4:∀{P:List Ln}{ws:List ByteArray},EY ws P=none->∀x∈P,F5 ws x=false
 | [],_,_,x,hx=>by cases hx
 |y::P,ws,h,x,hx=>by
  rw[EY]at h;split at h
  ·cases h
  ·rename_i hc
   rcases List.mem_cons.1 hx with rfl |hx
   ·simpa using hc
   ·exact U4 h x hx
structure GOk (P:List Ln) (G:Gr):Prop where
 g:sI P G0 G (D5 P)
 nT:(BA P).length<=20
 nN:(AL P).length<=20
 nR:((AL P).flatMap fun x=>A8 x.2.2).length<=60
 long:∀x∈AL P,E2 (A8 x.2.2)<=8
 pos:0< (AL P).length
 known:∀x∈AL P,∀r∈A8 x.2.2,∀u∈r,D6 G.toks u=true\/CQ G.names u=true
 num:∀x∈BA P,DL (nth x.2.2 2)=true
 num3:∀x∈BA P,DL (nth x.2.2 3)=true
 swn:∀x∈P,x.2.1=1->DL (nth x.2.2 3)=true/\x.2.2.length=4
 swk:∀x∈P,x.2.1=1->D6 G.toks (nth x.2.2 1)=true/\D6 G.toks (nth x.2.2 2)=true
 swm:∀x∈P,x.2.1=1->CQ G.names (nth x.2.2 1)=false/\CQ G.names (nth x.2.2 2)=false
theorem UZ (s:ByteArray) (he:(GP s).1=0):GOk (AE (AF s 0).1) (GP s).2.2:=by
 have hp:(DT s).1=0:=by rw[R9];exact he
 unfold DT at hp;unfold GP at he ⊢
 by_cases h1:4000<s.size
 ·rw[if_pos h1]at he;cases he
 ·rw[if_neg h1]at he hp ⊢
  by_cases h2:(AF s 0).2<s.size
  ·rw[if_pos h2]at he;cases he
  ·rw[if_neg h2]at he hp ⊢
   have hall:∀x∈(AF s 0).1,AR x.2=true:=fun x hx=>(PO s _ _ x hx).2
   have hI:Inv G0 [] 0 0 0:=⟨fun u=>by simp[D6,CQ,G0,cnt],fun x hx=>by simp[G0]at hx,fun x hx=>by simp[G0]at hx,rfl,rfl,rfl⟩;have hS:=KR (AF s 0).1 G0 (-1) 0 0 0 [] hall hI (.inl ⟨rfl,by omega⟩);have hV:=KU (AF s 0).1 G0 (-1) 0 0 0 [] (fun _=>0) hall hI (fun s=>rfl) (fun i u h=>by simp[G0]at h)
   rcases hpp:E7 (AF s 0).1 G0 (-1)with⟨G,m,o⟩
   rw[hpp]at hS hV he;cases o with
   |some a=>simp only at he;cases he
   |none=>
    obtain⟨ht,hm,t',r',hI'⟩:=hS.2 rfl;rw[ht]at hp;simp only at hp he hm ⊢;cases hM:BU (AE (AF s 0).1) 0 0 0 with
    |some a=>rw[hM]at hp;cases hp
    |none=>
     rw[hM]at hp hm;rw[if_neg (by decide)]at hm;have hm':m= -1:=hm;have e0:¬(0:Int)<=m:=by omega
     simp only[if_neg e0]at he ⊢;simp only at hp;split at hp
     ·rename_i hany
      cases hU:EY (AG (AE (AF s 0).1)) (AE (AF s 0).1)with
      |some a=>rw[hU]at hp;cases hp
      |none=>
       by_cases hl0:G.names.length=0
       ·rw[if_pos hl0]at he;cases he
       ·rw[if_neg hl0]at he ⊢
        have hG:=hV rfl;have hmn:=XY _ 0 0 0 hM (by omega) (by omega) (by omega);have hfin:GOk (AE (AF s 0).1) G:=by
         have hnum:∀x∈BA (AE (AF s 0).1),x.2.2.length=4/\DW (nth x.2.2 1)=true/\DL (nth x.2.2 2)=true/\DL (nth x.2.2 3)=true:=fun x hx=>by
          have hx':=List.mem_filter.1 hx;have h8:x.2.1=0:=by simpa using hx'.2
          have h9:=hx'.1;unfold AE at h9;rw[List.mem_map]at h9;obtain⟨y,hy,rfl⟩:=h9;have hy':=List.mem_filter.1 hy;exact rM (hall y hy'.1) (FA (hall y hy'.1) (of_decide_eq_true hy'.2) h8)
         have hswl:∀x∈AE (AF s 0).1,x.2.1=1->x.2.2.length=4/\DW (nth x.2.2 1)=true/\DW (nth x.2.2 2)=true/\DL (nth x.2.2 3)=true:=fun x hx h8=>by
          have h9:=hx;unfold AE at h9;rw[List.mem_map]at h9;obtain⟨y,hy,rfl⟩:=h9;have hy':=List.mem_filter.1 hy;have h10:=FA (hall y hy'.1) (of_decide_eq_true hy'.2) h8;exact o6 (hall y hy'.1) h10.1 h10.2
         refine⟨hG,by omega,by omega,by omega,hmn.2.2.2,?_,fun x hx r hr u hu=>?_,fun x hx=>(hnum x hx).2.2.1,fun x hx=>(hnum x hx).2.2.2,fun x hx h8=>?_,fun x hx h8=>?_,fun x hx h8=>⟨hI'.no_name (hswl x hx h8).2.1,hI'.no_name (hswl x hx h8).2.2.1⟩⟩
         ·have h5:=congrArg List.length hG.names
          simp[G0]at h5;omega
         ·have hx':=List.mem_filter.1 hx
          have h6:=U4 hU x hx'.1;unfold F5 at h6;rw[Bool.or_eq_false_iff]at h6;have h7:=List.any_eq_false.1 h6.2 u (by
           unfold GU;have h8:x.2.1=2:=by simpa using hx'.2
           rw[if_neg (by omega),if_pos h8];exact List.mem_flatten.2 ⟨r,hr,hu⟩)
          have h9:=hI'.has u;simp only[List.nil_append]at h9;exact h9.2 (by
           have:¬cnt (AG (AE (AF s 0).1)) u=0:=by simpa using h7
           omega)
         ·exact⟨(hswl x hx h8).2.2.2,(hswl x hx h8).1⟩
         ·have h6:=U4 hU x hx
          unfold F5 at h6;rw[Bool.or_eq_false_iff]at h6;have hk:∀u∈GU x.2.1 x.2.2,DW u=true->D6 G.toks u=true:=fun u hu ht=>by
           have h7:=List.any_eq_false.1 h6.2 u hu;have h9:=hI'.has u;simp only[List.nil_append]at h9;have h10:=h9.2 (by
            have:¬cnt (AG (AE (AF s 0).1)) u=0:=by simpa using h7
            omega)
           rcases h10 with h10 |h10
           ·exact h10
           ·rw[hI'.no_name ht]at h10;cases h10
          have hu:GU x.2.1 x.2.2=[nth x.2.2 1,nth x.2.2 2]:=by rw[h8];rfl
          exact⟨hk _ (by rw[hu];simp) (hswl x hx h8).2.1,hk _ (by rw[hu];simp) (hswl x hx h8).2.2.1⟩
        cases hf:(AF s 0).1.find? fun x=>FO G x.2 with
        |some x=>rw[hf]at he;cases he
        |none=>exact hfin
     ·cases hp
def MA (P:List Ln):List (Nat × ByteArray × List ByteArray):=(AL P).zipIdx.flatMap fun x=>(A8 x.1.2.2).map fun r=>(x.2,nth x.1.2.2 1,r)
theorem qX (f:ByteArray->Int) (P:List Ln):P1 (pgL f P)=(MA P).map fun j=>(j.1,j.2.2.map fun w=>ptC (f w)):=by
 unfold P1 pgL MA;rw[List.zipIdx_map,List.flatMap_map,List.map_flatMap]
 congr 1
 funext x
 simp[U5,Function.comp_def]
theorem ZX {β:Type} (P:List Ln) (h:ByteArray->List ByteArray->β):((AL P).flatMap fun x=>(A8 x.2.2).map fun r=>h (nth x.2.2 1) r)=(MA P).map fun j=>h j.2.1 j.2.2:=by
 have e:AL P=(AL P).zipIdx.map Prod.fst:=by simp
 unfold MA;rw[List.map_flatMap]
 conv=>lhs;rw[e,List.flatMap_map]
 congr 1
 funext x
 simp[Function.comp_def]
theorem PB {j:Nat × ByteArray × List ByteArray} (h:j∈MA P):∃x,(AL P)[j.1]?=some x/\j.2.1=nth x.2.2 1/\j.2.2∈A8 x.2.2:=by
 unfold MA at h;rw[List.mem_flatMap]at h;obtain⟨⟨x,i⟩,hx,hj⟩:=h;rw[List.mem_map]at hj;obtain⟨r,hr,rfl⟩:=hj;exact⟨x,List.mem_zipIdx_iff_getElem?.1 hx,rfl,hr⟩
theorem gA (k:Nat):ptC (2*(k:Int)+1)=.nam k:=by
 unfold ptC;rw[if_pos (by omega)]
 congr 1
 omega
theorem eY (k:Nat):ptC (2*(k:Int))=.tok k:=by
 unfold ptC;rw[if_neg (by omega)]
 congr 1
 omega
theorem GOk.part  (h:GOk P G) {w:ByteArray} (hk:D6 G.toks w=true\/CQ G.names w=true):
  kF G w (ptC (D5 P w))/\(∀n,ptC (D5 P w)=.nam n->n<G.names.length)/\(∀t,ptC (D5 P w)=.tok t->t<G.toks.length):=by
 have hc:=h.g.code w;rw[hc];cases hM:EV G.names w with
 |some k=>
  simp only[gA];refine⟨?_,fun n hn=>?_,fun t ht=>(by cases ht)⟩
  ·show PL G.names w=k
   rw[S5,hM]
  ·injection hn with hn;subst hn;exact X0 hM
 |none=>
  simp only;cases hT:EV (FT G.toks) w with
  |some k=>
   simp only[eY];refine⟨?_,fun n hn=>(by cases hn),fun t ht=>?_⟩
   ·show PL G.names w= -1/\PL (FT G.toks) w=k
    rw[S5,S5,hM,hT];exact⟨rfl,rfl⟩
   ·injection ht with ht;subst ht
    have:=X0 hT;unfold FT at this
    rwa [lM]at this
  |none=>
   exfalso;rw[JG]at hM hT;rw[<-QO]at hT;rw[hM,hT]at hk;simp at hk
theorem K9 {s:ByteArray} (h:DL s=true):1<=CZ s.data.toList/\CZ s.data.toList<=99:=by
 have hz:=Q6 h;have hlen:s.data.toList.length=s.size:=by simp
 have h2:L4 s.data.toList=true:=h;have h3:J6 s.data.toList 48 57 2=true/\(s.data.toList.head?==some 48)=false:=by
  unfold L4 at h2;simpa using h2
 have h5:=h3.1;unfold J6 at h5;simp only[Bool.and_eq_true,decide_eq_true_eq]at h5;have h6:=h5.2.2;unfold DK at h6;rw[List.all_eq_true]at h6
 generalize s.data.toList=l at h3 h5 h6 hlen
 have h7:∀x∈l,48<=(x.toNat:Int)/\(x.toNat:Int)<=57:=fun x hx=>by simpa using h6 x hx
 match l,h5.1,h5.2.1 with
 | [a],_,_=>
  have h8:=h7 a (by simp);have h9:¬a=48:=by simpa using h3.2
  have h10:¬a.toNat=48:=fun e=>h9 (UInt8.toNat_inj.1 e)
  simp[CZ];omega
 | [a,b],_,_=>
  have h8:=h7 a (by simp);have h8b:=h7 b (by simp);have h9:¬a=48:=by simpa using h3.2
  have h10:¬a.toNat=48:=fun e=>h9 (UInt8.toNat_inj.1 e)
  simp[CZ];omega
 |a::b::c::l,_,h=>simp at h;omega
theorem N1 (P:List Ln):(ngL P).nN=(AL P).length:=by show(pgL (D5 P) P).length=_;unfold pgL;simp
theorem L6 (P:List Ln):(ngL P).nT=(BA P).length:=by show(LE P).length=_;unfold LE;simp
theorem GOk.names_len  (h:GOk P G):G.names.length=(AL P).length:=by rw[h.g.names];simp[G0]
theorem GOk.toks_len  (h:GOk P G):G.toks.length=(BA P).length:=by rw[h.g.toks];simp[G0]
theorem IH (P:List Ln):(ngL P).rules=(MA P).map fun j=>(j.1,j.2.2.map fun w=>ptC (D5 P w)):=qX _ _
theorem GOk.rules_eq  (h:GOk P G):G.rules=(MA P).map fun j=>(j.2.1,j.2.2):=by
 rw[h.g.rules];show []++_=_;rw[List.nil_append];exact ZX P fun a r=>(a,r)
theorem GOk.knownR  (h:GOk P G) {j:Nat × ByteArray × List ByteArray} (hj:j∈MA P):∀u∈j.2.2,D6 G.toks u=true\/CQ G.names u=true:=by
 obtain⟨x,hx,_,hr⟩:=PB hj;exact h.known x (mG hx) j.2.2 hr
theorem GOk.put_at  (h:GOk P G) {t:Nat} (ht:t< (BA P).length):((ngL P).put t:Int)=CZ (nth (BA P)[t].2.2 2).data.toList/\1<=(ngL P).put t/\(ngL P).put t<=99:=by
 have hv:=K9 (h.num _ (List.getElem_mem ht));have e:(ngL P).put t=(CZ (nth (BA P)[t].2.2 2).data.toList).toNat:=by
  show(((BA P)[t]?.map fun x=>CZ (nth x.2.2 2).data.toList).getD 0).toNat=_;rw[gE ht];rfl
 rw[e];omega
theorem GOk.drop_at  (h:GOk P G) {t:Nat} (ht:t< (BA P).length):((ngL P).drop t:Int)=CZ (nth (BA P)[t].2.2 3).data.toList/\1<=(ngL P).drop t/\(ngL P).drop t<=99:=by
 have hv:=K9 (h.num3 _ (List.getElem_mem ht));have e:(ngL P).drop t=(CZ (nth (BA P)[t].2.2 3).data.toList).toNat:=by
  show(((BA P)[t]?.map fun x=>CZ (nth x.2.2 3).data.toList).getD 0).toNat=_;rw[gE ht];rfl
 rw[e];omega
theorem a8  (h:GOk P G) {w:ByteArray} (h1:D6 G.toks w=true) (h2:CQ G.names w=false):∃t:Nat,t< (BA P).length/\D5 P w=2*(t:Int):=by
 have hc:=h.g.code w;rw[JG.2 h2]at hc;cases hT:EV (FT G.toks) w with
 |some k=>
  rw[hT]at hc;have hk:=X0 hT;unfold FT at hk;rw[lM,h.toks_len]at hk;exact⟨k,hk,hc⟩
 |none=>rw[JG,<-QO,h1]at hT;cases hT
theorem gQ (f:ByteArray->Int):∀{P:List Ln},(∀x∈P,x.2.1=1->DL (nth x.2.2 3)=true)->∀t u,EW f P t u<=99
 | [],_,_,_=>Nat.zero_le _
 |x::P,h,t,u=>by
  rw[EW];split
  ·rename_i hc
   have:=K9 (h x (List.mem_cons_self ..) hc.1);omega
  ·exact gQ f (fun y hy=>h y (List.mem_cons_of_mem _ hy)) t u
theorem GOk.ok  (h:GOk P G):(ngL P).Ok where
 pos:=by rw[N1];exact h.pos
 lt:=fun r hr=>by
  rw[IH]at hr;obtain⟨j,hj,rfl⟩:=List.mem_map.1 hr;obtain⟨x,hx,_⟩:=PB hj;rw[N1];exact(gS_.1 hx).1
 pn:=fun r hr n hn=>by
  rw[IH]at hr;obtain⟨j,hj,rfl⟩:=List.mem_map.1 hr;obtain⟨w,hw,e⟩:=List.mem_map.1 hn;rw[N1,<-h.names_len];exact(h.part (h.knownR hj w hw)).2.1 n e
 pt:=fun r hr t ht=>by
  rw[IH]at hr;obtain⟨j,hj,rfl⟩:=List.mem_map.1 hr;obtain⟨w,hw,e⟩:=List.mem_map.1 ht;rw[L6,<-h.toks_len];exact(h.part (h.knownR hj w hw)).2.2 t e
 put1:=fun t ht=>by rw[L6]at ht;exact(h.put_at ht).2.1
 put2:=fun t ht=>by rw[L6]at ht;exact(h.put_at ht).2.2
 drop1:=fun t ht=>by rw[L6]at ht;exact(h.drop_at ht).2.1
 drop2:=fun t ht=>by rw[L6]at ht;exact(h.drop_at ht).2.2
 swp2:=fun t u=>gQ _ (fun x hx h1=>(h.swn x hx h1).1) t u
 parts:=fun r hr=>by
  rw[IH]at hr;obtain⟨j,hj,rfl⟩:=List.mem_map.1 hr;obtain⟨x,hx,_,h3⟩:=PB hj;simp only[lM];exact lT_ (VV h3) (h.long x (mG hx))
theorem rH {j:Nat} (h:l[j]?=some x):nth l j=x:=by unfold nth;rw[gD_,h];rfl
theorem bR  (h:GOk P G):Rep G (ngL P) where
 ok:=h.ok
 nN:=by rw[N1,h.names_len]
 nT:=by rw[L6,h.toks_len]
 len:=by rw[IH,h.rules_eq,lM,lM]
 rule:=fun i r q hr hq=>by
  rw[h.rules_eq,gM]at hr;rw[IH,gM]at hq;cases hj:(MA P)[i]? with
  |none=>rw[hj]at hr;cases hr
  |some j=>
   rw[hj]at hr hq;simp only[Option.map_some,Option.some.injEq]at hr hq;subst hr;subst hq;have hm:=mG hj;obtain⟨x,hx,h2,h3⟩:=PB hm;refine⟨?_,?_,fun k p hp=>?_⟩
   ·have hn:G.names[j.1]?=some j.2.1:=by rw[h.g.names];simp[G0,hx,h2]
    show PL G.names j.2.1=_;rw[S5,h.g.once _ _ hn]
   ·simp
   ·simp only[gM]at hp
    cases hk:j.2.2[k]? with
    |none=>rw[hk]at hp;cases hp
    |some u=>
     rw[hk]at hp;simp only[Option.map_some,Option.some.injEq]at hp;subst hp;show kF G (nth j.2.2 k) _;rw[rH hk];exact(h.part (h.knownR hm u (mG hk))).1
 put:=fun t tk ht=>by
  rw[h.g.toks]at ht;simp only[G0,List.nil_append,gM]at ht;cases hx:(BA P)[t]? with
  |none=>rw[hx]at ht;cases ht
  |some x=>
   rw[hx]at ht;simp only[Option.map_some,Option.some.injEq]at ht;subst ht;obtain⟨h1,h2⟩:=gS_.1 hx;rw[(h.put_at h1).1,h2];rfl
 leN:=by rw[N1];exact h.nN
 leT:=by rw[L6];exact h.nT
 leR:=by
  have e:((AL P).flatMap fun x=>A8 x.2.2).length=(MA P).length:=by
   have:=congrArg List.length (ZX P fun _ r=>r);simpa using this
  rw[IH,lM,<-e];exact h.nR
 posR:=by
  rw[IH,lM];obtain⟨x,hx⟩:∃x,(AL P)[0]?=some x:=⟨_,gE h.pos⟩;refine List.length_pos_of_mem (a:=(0,nth x.2.2 1,(pst (x.2.2.drop 3)).2)) ?_;unfold MA;rw[List.mem_flatMap];refine⟨(x,0),List.mem_zipIdx_iff_getElem?.2 hx,List.mem_map.2 ⟨(pst (x.2.2.drop 3)).2,?_,rfl⟩⟩;unfold A8;simp
theorem GOk.tws  (h:GOk P G):FT G.toks=LE P:=by
 rw[h.g.toks];unfold FT LE;simp[G0,qG]
def ED (n:Nat):ByteArray:=⟨#[UInt8.ofNat (48+n)]⟩
theorem IC (w:World) (b:UInt8):(convert 221 9 (ae w.heap.size 1 1)).run Tryz.prog (w.alloc (.cells #[.int .u8 (b.toNat:Int)] 5))=.ok (.string ⟨#[b]⟩) (w.alloc (.cells #[.int .u8 (b.toNat:Int)] 5)):=
 run_convert_bytes_back (P:=Tryz.prog) (w.alloc (.cells #[.int .u8 (b.toNat:Int)] 5)) 221 9 5 (af w.heap.size 0) 1 [b] Tryz.underlying221 Tryz.underlying5 Tryz.underlying9 (fun j hj=>by
  have h0:j=0:=by simpa using hj
  subst h0;have hb:(w.alloc (.cells #[.int .u8 (b.toNat:Int)] 5)).heap[w.heap.size]?=some (.cells #[.int .u8 (b.toNat:Int)] 5 (0,0)):=heap_alloc_new w _;have hadd:((af w.heap.size 0):Addr).add 0=(af w.heap.size 0):=by unfold Addr.add;split <;> simp_all
  rw[hadd,A0 hb];rfl)
theorem Mz9 {P:Prop} (h:P:=by
  go_enter Tryz.func70,Tryz.ntmps70
  go_wp2;go_ret;exact⟨rfl,(Below.refl _ _).alloc (lR_ _) _⟩):P:=h
theorem PW (n:Nat) (hn:n<10) (w:World):Calls Tryz.prog 70 #[ab n] w fun e w'=>e=.returned (.string (ED n))/\Below w.heap.size w w':=by
 have h:n=0\/n=1\/n=2\/n=3\/n=4\/n=5\/n=6\/n=7\/n=8\/n=9:=by omega
 rcases h with rfl |rfl |rfl |rfl |rfl |rfl |rfl |rfl |rfl |rfl
 ·have hcv:(convert 221 9 (ae w.heap.size 1 1)).run Tryz.prog (w.alloc (.cells #[.int .u8 48] 5))=.ok (.string ⟨#[48]⟩) (w.alloc (.cells #[.int .u8 48] 5)):=IC w 48
  exact Mz9
 ·have hcv:(convert 221 9 (ae w.heap.size 1 1)).run Tryz.prog (w.alloc (.cells #[.int .u8 49] 5))=.ok (.string ⟨#[49]⟩) (w.alloc (.cells #[.int .u8 49] 5)):=IC w 49
  exact Mz9
 ·have hcv:(convert 221 9 (ae w.heap.size 1 1)).run Tryz.prog (w.alloc (.cells #[.int .u8 50] 5))=.ok (.string ⟨#[50]⟩) (w.alloc (.cells #[.int .u8 50] 5)):=IC w 50
  exact Mz9
 ·have hcv:(convert 221 9 (ae w.heap.size 1 1)).run Tryz.prog (w.alloc (.cells #[.int .u8 51] 5))=.ok (.string ⟨#[51]⟩) (w.alloc (.cells #[.int .u8 51] 5)):=IC w 51
  exact Mz9
 ·have hcv:(convert 221 9 (ae w.heap.size 1 1)).run Tryz.prog (w.alloc (.cells #[.int .u8 52] 5))=.ok (.string ⟨#[52]⟩) (w.alloc (.cells #[.int .u8 52] 5)):=IC w 52
  exact Mz9
 ·have hcv:(convert 221 9 (ae w.heap.size 1 1)).run Tryz.prog (w.alloc (.cells #[.int .u8 53] 5))=.ok (.string ⟨#[53]⟩) (w.alloc (.cells #[.int .u8 53] 5)):=IC w 53
  exact Mz9
 ·have hcv:(convert 221 9 (ae w.heap.size 1 1)).run Tryz.prog (w.alloc (.cells #[.int .u8 54] 5))=.ok (.string ⟨#[54]⟩) (w.alloc (.cells #[.int .u8 54] 5)):=IC w 54
  exact Mz9
 ·have hcv:(convert 221 9 (ae w.heap.size 1 1)).run Tryz.prog (w.alloc (.cells #[.int .u8 55] 5))=.ok (.string ⟨#[55]⟩) (w.alloc (.cells #[.int .u8 55] 5)):=IC w 55
  exact Mz9
 ·have hcv:(convert 221 9 (ae w.heap.size 1 1)).run Tryz.prog (w.alloc (.cells #[.int .u8 56] 5))=.ok (.string ⟨#[56]⟩) (w.alloc (.cells #[.int .u8 56] 5)):=IC w 56
  exact Mz9
 ·have hcv:(convert 221 9 (ae w.heap.size 1 1)).run Tryz.prog (w.alloc (.cells #[.int .u8 57] 5))=.ok (.string ⟨#[57]⟩) (w.alloc (.cells #[.int .u8 57] 5)):=IC w 57
  exact Mz9
structure Mk where
 puts:List Nat
 drops:List Nat
 swaps:List (List Nat)
 rules:List (List (List Pt))
def EL (T n:Nat):Pt->Prop
 | .tok t=>t<T
 | .nam k=>k<n
structure Mk.Good (m:Mk):Prop where
 t2:2<=m.puts.length
 t6:m.puts.length<=6
 dl:m.drops.length=m.puts.length
 sl:m.swaps.length=m.puts.length
 srow:∀r∈m.swaps,r.length=m.puts.length
 p1:∀x∈m.puts,1<=x/\x<=9
 d1:∀x∈m.drops,1<=x/\x<=9
 s1:∀r∈m.swaps,∀x∈r,x<=9
 sdiag:∀(i:Nat) r,m.swaps[i]?=some r->r.getD i 0=0
 n1:1<=m.rules.length
 n4:m.rules.length<=4
 c1:∀rs∈m.rules,1<=rs.length/\rs.length<=m.puts.length
 head:∀rs∈m.rules,∀(k:Nat) r,rs[k]?=some r->r.head?=some (.tok k)/\r.length<=5
 part:∀rs∈m.rules,∀r∈rs,∀p∈r,EL m.puts.length m.rules.length p
 last:∀rs∈m.rules,∀r,rs.getLast?=some r->∀p∈r,∃t,p=.tok t
 reach:∀(n:Nat) rs,m.rules[n]?=some rs->n+1<m.rules.length->∃r,rs[0]?=some r/\ .nam (n+1)∈r
def wB:Pt->List UInt8
 | .tok t=>[UInt8.ofNat (97+t)]
 | .nam n=>[UInt8.ofNat (65+n)]
def ba (l:List UInt8):ByteArray:=⟨l.toArray⟩
def GA:List (List (List UInt8))->List (List UInt8)
 | []=>[]
 | [r]=>r
 |r::q::t=>r++ [124]::GA (q::t)
def KK (i p d:Nat):List (List UInt8):=[[116,111,107,101,110],wB (.tok i),[UInt8.ofNat (48+p)],[UInt8.ofNat (48+d)]]
def IF (i j c:Nat):List (List UInt8):=[[115,119,97,112],wB (.tok i),wB (.tok j),[UInt8.ofNat (48+c)]]
def E6 (n:Nat) (rs:List (List Pt)):List (List UInt8):=[114,117,108,101]::wB (.nam n):: [61]::GA (rs.map fun r=>r.map wB)
def D7 (m:Mk) (i j:Nat):Nat:=(m.swaps.getD i []).getD j 0
def IB (m:Mk) (i:Nat):List (List (List UInt8)):=KK i (m.puts.getD i 0) (m.drops.getD i 0)::(List.range m.puts.length).flatMap fun j=>if 0<D7 m i j then [IF i j (D7 m i j)]else []
def FC (m:Mk):List (List (List UInt8)):=(List.range m.puts.length).flatMap (IB m)++m.rules.zipIdx.map fun x=>E6 x.2 x.1
def BO (m:Mk):ByteArray:=ba (LV ((FC m).map BR))
theorem P0:∀i,i<6->DW (AJ i)=true:=by decide+kernel
theorem TH:∀i,i<4->GO (BL i)=true:=by decide+kernel
theorem WQ:∀i,i<10->1<=i->DL (ED i)=true:=by decide+kernel
theorem WR:∀i,i<10->CZ (ED i).data.toList=i:=by decide+kernel
theorem RE:∀i,i<6->∀j,j<6->((AJ i).toList==(AJ j).toList)=decide (i=j):=by decide+kernel
theorem mP:∀i,i<4->∀j,j<4->((BL i).toList==(BL j).toList)=decide (i=j):=by decide+kernel
theorem VW:∀i,i<6->∀j,j<4->((AJ i).toList==(BL j).toList)=false:=by decide+kernel
theorem uQ:∀i,i<6->I8 (AJ i)=false:=by decide+kernel
theorem tY:∀i,i<4->I8 (BL i)=false:=by decide+kernel
theorem vK:∀i,i<6->UInt8.ofNat (97+i)≠32/\UInt8.ofNat (97+i)≠10:=by decide+kernel
theorem uX:∀i,i<4->UInt8.ofNat (65+i)≠32/\UInt8.ofNat (65+i)≠10:=by decide+kernel
theorem wI:∀i,i<10->UInt8.ofNat (48+i)≠32/\UInt8.ofNat (48+i)≠10:=by decide+kernel
end Go.Proofs.YtjjggdcnpndgjaaGreatDoor
