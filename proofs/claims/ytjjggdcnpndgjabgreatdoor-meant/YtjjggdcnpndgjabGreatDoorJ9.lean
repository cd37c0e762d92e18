import Derived.Test.YtjjggdcnpndgjabGreatDoorJ8
import Derived.Laws.IdiomStrings
set_option linter.unusedSimpArgs false
set_option maxRecDepth 100000
namespace Go.Proofs.YtjjggdcnpndgjabGreatDoor
open Go.RowKit
variable {G:Gr}{M l:List ByteArray}{P:List Ln}{u x:ByteArray}
def ptC (c:Int):Pt:=if c % 2=1 then .nam (c / 2).toNat else .tok (c / 2).toNat
def B4 (P:List Ln):List Ln:=P.filter fun x=>x.2.1==0
def AM (P:List Ln):List Ln:=P.filter fun x=>x.2.1==2
def rN (x:Ln):ByteArray × Int × Int:=(nth x.2.2 1,CV (nth x.2.2 2).data.toList,CV (nth x.2.2 3).data.toList)
def D4 (P:List Ln):ByteArray->Int:=EL P 0 0 (fun _=>0)
def T4 (f:ByteArray->Int) (x:Ln):Nm:=(nth x.2.2 1,(A9 x.2.2).map fun r=>r.map fun w=>ptC (f w))
def L6 (P:List Ln):List ByteArray:=(B4 P).map fun x=>nth x.2.2 1
def pgL (f:ByteArray->Int) (P:List Ln):List Nm:=(AM P).map (T4 f)
def PM (pg:List Nm):List (Nat × List Pt):=pg.zipIdx.flatMap fun x=>x.1.2.map fun ps=>(x.2,ps)
def EO (f:ByteArray->Int):List Ln->Nat->Nat->Nat
 | [],_,_=>0
 |x::P,t,u=>if x.2.1=1/\f (nth x.2.2 1)=2*(t:Int)/\f (nth x.2.2 2)=2*(u:Int)then(CV (nth x.2.2 3).data.toList).toNat else EO f P t u
theorem fO {f:ByteArray->Int}{t u c:Nat}:∀{P:List Ln},(∀x∈P,x.2.1=1->f (nth x.2.2 1)=2*(t:Int)->f (nth x.2.2 2)=2*(u:Int)->(CV (nth x.2.2 3).data.toList).toNat=c)->
  (c≠0->∃x∈P,x.2.1=1/\f (nth x.2.2 1)=2*(t:Int)/\f (nth x.2.2 2)=2*(u:Int))->EO f P t u=c
 | [],_,h=>by
  by_cases hc:c=0
  ·rw[hc];rfl
  ·obtain⟨x,hx,_⟩:=h hc;cases hx
 |x::P,h1,h2=>by
  rw[EO];split
  ·rename_i hc
   exact h1 x (List.mem_cons_self ..) hc.1 hc.2.1 hc.2.2
  ·rename_i hc
   refine fO (fun y hy=>h1 y (List.mem_cons_of_mem _ hy)) fun h0=>?_
   obtain⟨y,hy,hm⟩:=h2 h0
   rcases List.mem_cons.1 hy with rfl |hy
   ·exact absurd hm hc
   ·exact⟨y,hy,hm⟩
def ngL (P:List Ln):NG where
 nT:=(L6 P).length
 nN:=(pgL (D4 P) P).length
 put:=fun t=>(((B4 P)[t]?.map fun x=>CV (nth x.2.2 2).data.toList).getD 0).toNat
 drop:=fun t=>(((B4 P)[t]?.map fun x=>CV (nth x.2.2 3).data.toList).getD 0).toNat
 swp:=EO (D4 P) P
 rules:=PM (pgL (D4 P) P)
def EN (l:List ByteArray) (x:ByteArray):Option Nat:=l.findIdx? fun t=>t.toList==x.toList
theorem S7 (l:List ByteArray) (x:ByteArray):OZ l x=match EN l x with
  |some i=>(i:Int)
  |none=> -1:=rfl
theorem TV (l:List ByteArray) (u x:ByteArray):EN (l++ [u]) x=match EN l x with
  |some i=>some i
  |none=>if(u.toList==x.toList)=true then some l.length else none:=by
 unfold EN;rw[List.findIdx?_append];cases h:l.findIdx? fun t=>t.toList==x.toList with
 |some i=>rfl
 |none=>
  simp only[Option.none_or,List.findIdx?_cons,List.findIdx?_nil];cases hb:(u.toList==x.toList) <;> simp
theorem JF:EN l x=none↔C4 l x=false:=by
 unfold EN C4;rw[List.findIdx?_eq_none_iff,List.any_eq_false];constructor
 ·intro h y hy;rw[h y hy];decide
 ·intro h y hy;have:=h y hy;simpa using this
theorem WE {i:Nat} (h:EN l x=some i):i<l.length:=by
 unfold EN at h;exact(List.findIdx?_eq_some_iff_getElem.1 h).1
theorem VT (x s:ByteArray):ED x s=(x.toList==s.toList):=by
 unfold ED;rw[ByteArray.toList_eq,ByteArray.toList_eq,Bool.eq_iff_iff];simp
theorem QQ (T:List (ByteArray × Int × Int)) (u:ByteArray):D2 T u=C4 (FO T) u:=by
 unfold D2 C4 FO;rw[List.any_map];rfl
def IR (f:ByteArray->Int) (T:List ByteArray) (M:List ByteArray):Prop:=
 ∀s,f s=match EN M s with
  |some k=>2*(k:Int)+1
  |none=>match EN T s with
   |some k=>2*(k:Int)
   |none=>0
theorem PI  (h:(u.toList==x.toList)=true) (l:List ByteArray):C4 l x=C4 l u:=by
 rw[beq_iff_eq]at h;unfold C4;rw[h]
theorem IR.tok {f:ByteArray->Int}{T:List ByteArray} (h:IR f T M)  (hT:C4 T u=false) (hM:C4 M u=false):
  IR (fun s=>if ED u s=true then 2*(T.length:Int)else f s) (T++ [u]) M:=by
 intro s;simp only[VT,TV]
 by_cases e:(u.toList==s.toList)=true
 ·have h1:EN M s=none:=by rw[JF,PI e,hM]
  have h2:EN T s=none:=by rw[JF,PI e,hT]
  rw[if_pos e,h1,h2,if_pos e]
 ·rw[if_neg e,h s,if_neg e]
  cases EN M s <;> cases EN T s <;> rfl
theorem IR.nam {f:ByteArray->Int}{T:List ByteArray} (h:IR f T M)  (hM:C4 M u=false):
  IR (fun s=>if ED u s=true then 2*(M.length:Int)+1 else f s) T (M++ [u]):=by
 intro s;simp only[VT,TV]
 by_cases e:(u.toList==s.toList)=true
 ·have h1:EN M s=none:=by rw[JF,PI e,hM]
  rw[if_pos e,h1,if_pos e]
 ·rw[if_neg e,h s,if_neg e]
  cases EN M s <;> rfl
def bJ (M:List ByteArray):Prop:=∀i u,M[i]?=some u->EN M u=some i
theorem bJ.add  (h:bJ M)  (hM:C4 M u=false):bJ (M++ [u]):=by
 intro i v hv;rw[TV]
 by_cases hi:i<M.length
 ·rw[aL hi]at hv
  rw[h i v hv]
 ·rw[aR_ (by omega)]at hv
  obtain⟨h1,h2⟩:=gS_.1 hv;simp at h1;have e:v=u:=by simp only[List.getElem_singleton]at h2;exact h2.symm
  subst e;rw[JF.2 hM];simp;omega
structure rZ (P:List Ln) (G G':Gr) (f:ByteArray->Int):Prop where
 toks:G'.toks=G.toks++(B4 P).map rN
 names:G'.names=G.names++(AM P).map fun x=>nth x.2.2 1
 rules:G'.rules=G.rules++(AM P).flatMap fun x=>(A9 x.2.2).map fun r=>(nth x.2.2 1,r)
 code:IR f (FO G'.toks) G'.names
 once:bJ G'.names
theorem l9 (T:List (ByteArray × Int × Int)) (x:ByteArray × Int × Int):FO (T++ [x])=FO T++ [x.1]:=by unfold FO;simp
theorem KZ:∀(ls:List (Nat × List ByteArray)) (G:Gr) (m:Int) (t n r:Nat) (ws:List ByteArray) (f:ByteArray->Int),(∀x∈ls,AR x.2=true)->Inv G ws t n r->
  IR f (FO G.toks) G.names->bJ G.names->(E2 ls G m).2.2=none->rZ (AF ls) G (E2 ls G m).1 (EL (AF ls) t n f)
 | [],G,m,t,n,r,ws,f,_,hI,hf,ho,_=>⟨by simp[E2,AF,B4],by simp[E2,AF,AM],by simp[E2,AF,AM],hf,ho⟩
 |x::ls,G,m,t,n,r,ws,f,hall,hI,hf,ho,hn=>by
  have hx:=hall x (by simp);have hrest:∀y∈ls,AR y.2=true:=fun y hy=>hall y (by simp[hy])
  by_cases h3:(D7 G x.2).2=3
  ·rw[E2,if_pos h3]at hn;cases hn
  ·have ep:∀mm,mm=(if(D7 G x.2).2=4/\m<0 then(x.1:Int)else m)->E2 (x::ls) G m=E2 ls (D7 G x.2).1 mm:=fun mm h=>by rw[E2,if_neg h3,h]
   obtain⟨mm,hmm⟩:=qF ((if(D7 G x.2).2=4/\m<0 then(x.1:Int)else m));rw[ep mm hmm]at hn ⊢
   by_cases h1:x.2.length=1
   ·have hs:=VK hI hx h1
    rw[K8 h1];rw[hs.1]at hn ⊢;exact KZ ls G mm t n r ws f hrest hI hf ho hn
   ·rw[MI h1]
    rcases KP hx h1 with⟨hsh,hlen,htk⟩ | ⟨hsh,hlen,htk,_⟩ | ⟨hsh,hlen,hnm,_⟩
    ·have h0:((nth x.2 0).toList== [116,111,107,101,110])=true:=F5 hx h1 hsh
     rw[hsh]
     rcases cZ hI h0 htk with⟨hc,h3'⟩ | ⟨hc,hI2,_⟩
     ·exact absurd h3' h3
     ·have hno:=hI.no_name htk
      have hnt:D2 G.toks (nth x.2 1)=false:=by
       cases hq:D2 G.toks (nth x.2 1)with
       |false=>rfl
       |true=>exact absurd ((hI.has _).1 (.inl hq)) hc
      have eg:(D7 G x.2).1= {G with toks:=G.toks++ [(nth x.2 1,CV (nth x.2 2).data.toList,CV (nth x.2 3).data.toList)]}:=by
       unfold D7;rw[if_pos h0,if_neg (by rw[hnt];decide)]
      have hf2:IR (fun s=>if ED (nth x.2 1) s=true then 2*(t:Int)else f s) (FO (D7 G x.2).1.toks) (D7 G x.2).1.names:=by
       rw[eg];simp only[l9];have h4:=hf.tok (u:=nth x.2 1) (by rw[<-QQ];exact hnt) hno;rw[<-hI.nt];unfold FO at h4 ⊢
       rwa [lM]at h4
      have hg:=KZ ls _ mm _ _ _ _ _ hrest hI2 hf2 (by rw[eg];exact ho) hn;refine⟨?_,?_,?_,?_,hg.once⟩
      ·rw[hg.toks,eg];simp[B4,rN]
      ·rw[hg.names,eg];simp[AM]
      ·rw[hg.rules,eg];simp[AM]
      ·have e:EL ((x.1,0,x.2)::AF ls) t n f=EL (AF ls) (t+1) n (fun s=>if ED (nth x.2 1) s=true then 2*(t:Int)else f s):=rfl
       rw[e];exact hg.code
    ·have h0:=F5 hx h1 hsh
     rw[hsh];have hs:=YL hI h0.1 h0.2;have eg:(D7 G x.2).1= {G with swps:=G.swps++ [(nth x.2 1,nth x.2 2,CV (nth x.2 3).data.toList)]}:=by
      unfold D7;rw[if_neg (by rw[h0.1];decide),if_pos h0.2]
     have hg:=KZ ls _ mm _ _ _ _ f hrest hs.1 (by rw[eg];exact hf) (by rw[eg];exact ho) hn;refine⟨?_,?_,?_,?_,hg.once⟩
     ·rw[hg.toks,eg];simp[B4]
     ·rw[hg.names,eg];simp[AM]
     ·rw[hg.rules,eg];simp[AM]
     ·have e:EL ((x.1,1,x.2)::AF ls) t n f=EL (AF ls) t n f:=rfl
      rw[e];exact hg.code
    ·have h0:=F5 hx h1 hsh
     rw[hsh]
     rcases XS hI h0.1 h0.2.1 h0.2.2 hnm with⟨hc,h3'⟩ | ⟨hc,hI2,_⟩
     ·exact absurd h3' h3
     ·have hnn:C4 G.names (nth x.2 1)=false:=by
       cases hq:C4 G.names (nth x.2 1)with
       |false=>rfl
       |true=>exact absurd ((hI.has _).1 (.inr hq)) hc
      have eg:(D7 G x.2).1= {G with names:=G.names++ [nth x.2 1],rules:=G.rules++(A9 x.2).map fun r=>(nth x.2 1,r)}:=by
       unfold D7;rw[if_neg (by rw[h0.1];decide),if_neg (by rw[h0.2.1];decide),if_pos h0.2.2,if_neg (by rw[hnn];decide),(XG G.rules (nth x.2 1) x.2).1]
      have hf2:IR (fun s=>if ED (nth x.2 1) s=true then 2*(n:Int)+1 else f s) (FO (D7 G x.2).1.toks) (D7 G x.2).1.names:=by
       rw[eg,<-hI.nn];exact hf.nam hnn
      have hg:=KZ ls _ mm _ _ _ _ _ hrest hI2 hf2 (by rw[eg];exact ho.add hnn) hn;refine⟨?_,?_,?_,?_,hg.once⟩
      ·rw[hg.toks,eg];simp[B4]
      ·rw[hg.names,eg];simp[AM]
      ·rw[hg.rules,eg];simp[AM]
      ·have e:EL ((x.1,2,x.2)::AF ls) t n f=EL (AF ls) t (n+1) (fun s=>if ED (nth x.2 1) s=true then 2*(n:Int)+1 else f s):=rfl
       rw[e];exact hg.code
theorem XJ:∀(P:List Ln) (t n r:Nat),BZ P t n r=none->t<=20->n<=20->r<=60->
  t+(B4 P).length<=20/\n+(AM P).length<=20/\r+((AM P).flatMap fun x=>A9 x.2.2).length<=60/\∀x∈AM P,DW (A9 x.2.2)<=8
 | [],t,n,r,_,h1,h2,h3=>⟨by simpa[B4] using h1,by simpa[AM] using h2,by simpa[AM] using h3,fun x hx=>by simp[AM]at hx⟩
 |x::P,t,n,r,h,h1,h2,h3=>by
  rw[BZ]at h
  by_cases hc:20< (if x.2.1=0 then t+1 else t)\/20< (if x.2.1=2 then n+1 else n)\/60< (if x.2.1=2 then r+(A9 x.2.2).length else r)\/8< (if x.2.1=2 then DW (A9 x.2.2)else 0)
  ·rw[if_pos hc]at h;cases h
  ·rw[if_neg hc]at h
   have ih:=XJ P _ _ _ h (by omega) (by omega) (by omega);clear h
   by_cases h0:x.2.1=0
   ·have h02:¬x.2.1=2:=by omega
    simp only[if_pos h0,if_neg h02]at ih;have e1:B4 (x::P)=x::B4 P:=by unfold B4;rw[List.filter_cons_of_pos y56Z]
    have e2:AM (x::P)=AM P:=by unfold AM;rw[List.filter_cons_of_neg y56Z]
    rw[e1,e2];exact⟨by rw[lC];omega,ih.2.1,ih.2.2.1,ih.2.2.2⟩
   ·have e1:B4 (x::P)=B4 P:=by unfold B4;rw[List.filter_cons_of_neg y56Z]
    by_cases h02:x.2.1=2
    ·simp only[if_neg h0,if_pos h02]at ih hc
     have e2:AM (x::P)=x::AM P:=by unfold AM;rw[List.filter_cons_of_pos (by simp[h02])]
     rw[e1,e2];refine⟨ih.1,by rw[lC];omega,by rw[List.flatMap_cons,lA];omega,fun y hy=>?_⟩
     rcases List.mem_cons.1 hy with rfl |hy
     ·omega
     ·exact ih.2.2.2 y hy
    ·simp only[if_neg h0,if_neg h02]at ih
     have e2:AM (x::P)=AM P:=by unfold AM;rw[List.filter_cons_of_neg (by simp[h02])]
     rw[e1,e2];exact ih
theorem WN {rs:List (List ByteArray)}:∀{r:List ByteArray},r∈rs->r.length<=DW rs:=by
 have h:∀(rs:List (List ByteArray)) (m:Nat),m<=rs.foldl (fun m r=>max m r.length) m/\∀r∈rs,r.length<=rs.foldl (fun m r=>max m r.length) m:=by
  intro rs
  induction rs with
  |nil=>intro m;exact⟨lR_ _,fun r hr=>by cases hr⟩
  |cons a rs ih=>
   intro m;rw[List.foldl_cons];have h1:=ih (max m a.length);refine⟨by omega,fun r hr=>?_⟩
   rcases List.mem_cons.1 hr with rfl |hr
   ·omega
   ·exact h1.2 r hr
 intro r hr;exact(h rs 0).2 r hr
theorem TQ:∀{P:List Ln}{ws:List ByteArray},EY ws P=none->∀x∈P,ES ws x=false
 | [],_,_,x,hx=>by cases hx
 |y::P,ws,h,x,hx=>by
  rw[EY]at h;split at h
  ·cases h
  ·rename_i hc
   rcases List.mem_cons.1 hx with rfl |hx
   ·simpa using hc
   ·exact TQ h x hx
structure GOk (P:List Ln) (G:Gr):Prop where
 g:rZ P G0 G (D4 P)
 nT:(B4 P).length<=20
 nN:(AM P).length<=20
 nR:((AM P).flatMap fun x=>A9 x.2.2).length<=60
 long:∀x∈AM P,DW (A9 x.2.2)<=8
 pos:0< (AM P).length
 known:∀x∈AM P,∀r∈A9 x.2.2,∀u∈r,D2 G.toks u=true\/C4 G.names u=true
 num:∀x∈B4 P,DI (nth x.2.2 2)=true
 num3:∀x∈B4 P,DI (nth x.2.2 3)=true
 swn:∀x∈P,x.2.1=1->DI (nth x.2.2 3)=true/\x.2.2.length=4
 swk:∀x∈P,x.2.1=1->D2 G.toks (nth x.2.2 1)=true/\D2 G.toks (nth x.2.2 2)=true
 swm:∀x∈P,x.2.1=1->C4 G.names (nth x.2.2 1)=false/\C4 G.names (nth x.2.2 2)=false
theorem UG (s:ByteArray) (he:(GN s).1=0):GOk (AF (AG s 0).1) (GN s).2.2:=by
 have hp:(E8 s).1=0:=by rw[QD];exact he
 unfold E8 at hp;unfold GN at he ⊢
 by_cases h1:4000<s.size
 ·rw[if_pos h1]at he;cases he
 ·rw[if_neg h1]at he hp ⊢
  by_cases h2:(AG s 0).2<s.size
  ·rw[if_pos h2]at he;cases he
  ·rw[if_neg h2]at he hp ⊢
   have hall:∀x∈(AG s 0).1,AR x.2=true:=fun x hx=>(PZ s _ _ x hx).2
   have hI:Inv G0 [] 0 0 0:=⟨fun u=>by simp[D2,C4,G0,cnt],fun x hx=>by simp[G0]at hx,fun x hx=>by simp[G0]at hx,rfl,rfl,rfl⟩;have hS:=KI (AG s 0).1 G0 (-1) 0 0 0 [] hall hI (.inl ⟨rfl,by omega⟩);have hV:=KZ (AG s 0).1 G0 (-1) 0 0 0 [] (fun _=>0) hall hI (fun s=>rfl) (fun i u h=>by simp[G0]at h)
   rcases hpp:E2 (AG s 0).1 G0 (-1)with⟨G,m,o⟩
   rw[hpp]at hS hV he;cases o with
   |some a=>simp only at he;cases he
   |none=>
    obtain⟨ht,hm,t',r',hI'⟩:=hS.2 rfl;rw[ht]at hp;simp only at hp he hm ⊢;cases hM:BZ (AF (AG s 0).1) 0 0 0 with
    |some a=>rw[hM]at hp;cases hp
    |none=>
     rw[hM]at hp hm;rw[if_neg (by decide)]at hm;have hm':m= -1:=hm;have e0:¬(0:Int)<=m:=by omega
     simp only[if_neg e0]at he ⊢;simp only at hp;split at hp
     ·rename_i hany
      cases hU:EY (AH (AF (AG s 0).1)) (AF (AG s 0).1)with
      |some a=>rw[hU]at hp;cases hp
      |none=>
       by_cases hl0:G.names.length=0
       ·rw[if_pos hl0]at he;cases he
       ·rw[if_neg hl0]at he ⊢
        have hG:=hV rfl;have hmn:=XJ _ 0 0 0 hM (by omega) (by omega) (by omega);have hfin:GOk (AF (AG s 0).1) G:=by
         have hnum:∀x∈B4 (AF (AG s 0).1),x.2.2.length=4/\DQ (nth x.2.2 1)=true/\DI (nth x.2.2 2)=true/\DI (nth x.2.2 3)=true:=fun x hx=>by
          have hx':=List.mem_filter.1 hx;have h8:x.2.1=0:=by simpa using hx'.2
          have h9:=hx'.1;unfold AF at h9;rw[List.mem_map]at h9;obtain⟨y,hy,rfl⟩:=h9;have hy':=List.mem_filter.1 hy;exact rP (hall y hy'.1) (F5 (hall y hy'.1) (of_decide_eq_true hy'.2) h8)
         have hswl:∀x∈AF (AG s 0).1,x.2.1=1->x.2.2.length=4/\DQ (nth x.2.2 1)=true/\DQ (nth x.2.2 2)=true/\DI (nth x.2.2 3)=true:=fun x hx h8=>by
          have h9:=hx;unfold AF at h9;rw[List.mem_map]at h9;obtain⟨y,hy,rfl⟩:=h9;have hy':=List.mem_filter.1 hy;have h10:=F5 (hall y hy'.1) (of_decide_eq_true hy'.2) h8;exact lJ (hall y hy'.1) h10.1 h10.2
         refine⟨hG,by omega,by omega,by omega,hmn.2.2.2,?_,fun x hx r hr u hu=>?_,fun x hx=>(hnum x hx).2.2.1,fun x hx=>(hnum x hx).2.2.2,fun x hx h8=>?_,fun x hx h8=>?_,fun x hx h8=>⟨hI'.no_name (hswl x hx h8).2.1,hI'.no_name (hswl x hx h8).2.2.1⟩⟩
         ·have h5:=congrArg List.length hG.names
          simp[G0]at h5;omega
         ·have hx':=List.mem_filter.1 hx
          have h6:=TQ hU x hx'.1;unfold ES at h6;rw[Bool.or_eq_false_iff]at h6;have h7:=List.any_eq_false.1 h6.2 u (by
           unfold GM;have h8:x.2.1=2:=by simpa using hx'.2
           rw[if_neg (by omega),if_pos h8];exact List.mem_flatten.2 ⟨r,hr,hu⟩)
          have h9:=hI'.has u;simp only[List.nil_append]at h9;exact h9.2 (by
           have:¬cnt (AH (AF (AG s 0).1)) u=0:=by simpa using h7
           omega)
         ·exact⟨(hswl x hx h8).2.2.2,(hswl x hx h8).1⟩
         ·have h6:=TQ hU x hx
          unfold ES at h6;rw[Bool.or_eq_false_iff]at h6;have hk:∀u∈GM x.2.1 x.2.2,DQ u=true->D2 G.toks u=true:=fun u hu ht=>by
           have h7:=List.any_eq_false.1 h6.2 u hu;have h9:=hI'.has u;simp only[List.nil_append]at h9;have h10:=h9.2 (by
            have:¬cnt (AH (AF (AG s 0).1)) u=0:=by simpa using h7
            omega)
           rcases h10 with h10 |h10
           ·exact h10
           ·rw[hI'.no_name ht]at h10;cases h10
          have hu:GM x.2.1 x.2.2=[nth x.2.2 1,nth x.2.2 2]:=by rw[h8];rfl
          exact⟨hk _ (by rw[hu];simp) (hswl x hx h8).2.1,hk _ (by rw[hu];simp) (hswl x hx h8).2.2.1⟩
        cases hf:(AG s 0).1.find? fun x=>FK G x.2 with
        |some x=>rw[hf]at he;cases he
        |none=>exact hfin
     ·cases hp
def M7 (P:List Ln):List (Nat × ByteArray × List ByteArray):=(AM P).zipIdx.flatMap fun x=>(A9 x.1.2.2).map fun r=>(x.2,nth x.1.2.2 1,r)
theorem rE (f:ByteArray->Int) (P:List Ln):PM (pgL f P)=(M7 P).map fun j=>(j.1,j.2.2.map fun w=>ptC (f w)):=by
 unfold PM pgL M7;rw[List.zipIdx_map,List.flatMap_map,List.map_flatMap]
 congr 1
 funext x
 simp[T4,Function.comp_def]
theorem d6 {β:Type} (P:List Ln) (h:ByteArray->List ByteArray->β):((AM P).flatMap fun x=>(A9 x.2.2).map fun r=>h (nth x.2.2 1) r)=(M7 P).map fun j=>h j.2.1 j.2.2:=by
 have e:AM P=(AM P).zipIdx.map Prod.fst:=by simp
 unfold M7;rw[List.map_flatMap]
 conv=>lhs;rw[e,List.flatMap_map]
 congr 1
 funext x
 simp[Function.comp_def]
theorem P8 {j:Nat × ByteArray × List ByteArray} (h:j∈M7 P):∃x,(AM P)[j.1]?=some x/\j.2.1=nth x.2.2 1/\j.2.2∈A9 x.2.2:=by
 unfold M7 at h;rw[List.mem_flatMap]at h;obtain⟨⟨x,i⟩,hx,hj⟩:=h;rw[List.mem_map]at hj;obtain⟨r,hr,rfl⟩:=hj;exact⟨x,List.mem_zipIdx_iff_getElem?.1 hx,rfl,hr⟩
theorem fI (k:Nat):ptC (2*(k:Int)+1)=.nam k:=by
 unfold ptC;rw[if_pos (by omega)]
 congr 1
 omega
theorem fA (k:Nat):ptC (2*(k:Int))=.tok k:=by
 unfold ptC;rw[if_neg (by omega)]
 congr 1
 omega
theorem GOk.part  (h:GOk P G) {w:ByteArray} (hk:D2 G.toks w=true\/C4 G.names w=true):
  k9 G w (ptC (D4 P w))/\(∀n,ptC (D4 P w)=.nam n->n<G.names.length)/\(∀t,ptC (D4 P w)=.tok t->t<G.toks.length):=by
 have hc:=h.g.code w;rw[hc];cases hM:EN G.names w with
 |some k=>
  simp only[fI];refine⟨?_,fun n hn=>?_,fun t ht=>(by cases ht)⟩
  ·show OZ G.names w=k
   rw[S7,hM]
  ·injection hn with hn;subst hn;exact WE hM
 |none=>
  simp only;cases hT:EN (FO G.toks) w with
  |some k=>
   simp only[fA];refine⟨?_,fun n hn=>(by cases hn),fun t ht=>?_⟩
   ·show OZ G.names w= -1/\OZ (FO G.toks) w=k
    rw[S7,S7,hM,hT];exact⟨rfl,rfl⟩
   ·injection ht with ht;subst ht
    have:=WE hT;unfold FO at this
    rwa [lM]at this
  |none=>
   exfalso;rw[JF]at hM hT;rw[<-QQ]at hT;rw[hM,hT]at hk;simp at hk
theorem K5 {s:ByteArray} (h:DI s=true):1<=CV s.data.toList/\CV s.data.toList<=99:=by
 have hz:=PP h;have hlen:s.data.toList.length=s.size:=by simp
 have h2:L3 s.data.toList=true:=h;have h3:J1 s.data.toList 48 57 2=true/\(s.data.toList.head?==some 48)=false:=by
  unfold L3 at h2;simpa using h2
 have h5:=h3.1;unfold J1 at h5;simp only[Bool.and_eq_true,decide_eq_true_eq]at h5;have h6:=h5.2.2;unfold DF at h6;rw[List.all_eq_true]at h6
 generalize s.data.toList=l at h3 h5 h6 hlen
 have h7:∀x∈l,48<=(x.toNat:Int)/\(x.toNat:Int)<=57:=fun x hx=>by simpa using h6 x hx
 match l,h5.1,h5.2.1 with
 | [a],_,_=>
  have h8:=h7 a (by simp);have h9:¬a=48:=by simpa using h3.2
  have h10:¬a.toNat=48:=fun e=>h9 (UInt8.toNat_inj.1 e)
  simp[CV];omega
 | [a,b],_,_=>
  have h8:=h7 a (by simp);have h8b:=h7 b (by simp);have h9:¬a=48:=by simpa using h3.2
  have h10:¬a.toNat=48:=fun e=>h9 (UInt8.toNat_inj.1 e)
  simp[CV];omega
 |a::b::c::l,_,h=>simp at h;omega
theorem MV (P:List Ln):(ngL P).nN=(AM P).length:=by show(pgL (D4 P) P).length=_;unfold pgL;simp
theorem KQ (P:List Ln):(ngL P).nT=(B4 P).length:=by show(L6 P).length=_;unfold L6;simp
theorem GOk.names_len  (h:GOk P G):G.names.length=(AM P).length:=by rw[h.g.names];simp[G0]
theorem GOk.toks_len  (h:GOk P G):G.toks.length=(B4 P).length:=by rw[h.g.toks];simp[G0]
theorem IF (P:List Ln):(ngL P).rules=(M7 P).map fun j=>(j.1,j.2.2.map fun w=>ptC (D4 P w)):=rE _ _
theorem GOk.rules_eq  (h:GOk P G):G.rules=(M7 P).map fun j=>(j.2.1,j.2.2):=by
 rw[h.g.rules];show []++_=_;rw[List.nil_append];exact d6 P fun a r=>(a,r)
theorem GOk.knownR  (h:GOk P G) {j:Nat × ByteArray × List ByteArray} (hj:j∈M7 P):∀u∈j.2.2,D2 G.toks u=true\/C4 G.names u=true:=by
 obtain⟨x,hx,_,hr⟩:=P8 hj;exact h.known x (mG hx) j.2.2 hr
theorem GOk.put_at  (h:GOk P G) {t:Nat} (ht:t< (B4 P).length):((ngL P).put t:Int)=CV (nth (B4 P)[t].2.2 2).data.toList/\1<=(ngL P).put t/\(ngL P).put t<=99:=by
 have hv:=K5 (h.num _ (List.getElem_mem ht));have e:(ngL P).put t=(CV (nth (B4 P)[t].2.2 2).data.toList).toNat:=by
  show(((B4 P)[t]?.map fun x=>CV (nth x.2.2 2).data.toList).getD 0).toNat=_;rw[gE ht];rfl
 rw[e];omega
theorem GOk.drop_at  (h:GOk P G) {t:Nat} (ht:t< (B4 P).length):((ngL P).drop t:Int)=CV (nth (B4 P)[t].2.2 3).data.toList/\1<=(ngL P).drop t/\(ngL P).drop t<=99:=by
 have hv:=K5 (h.num3 _ (List.getElem_mem ht));have e:(ngL P).drop t=(CV (nth (B4 P)[t].2.2 3).data.toList).toNat:=by
  show(((B4 P)[t]?.map fun x=>CV (nth x.2.2 3).data.toList).getD 0).toNat=_;rw[gE ht];rfl
 rw[e];omega
theorem bV  (h:GOk P G) {w:ByteArray} (h1:D2 G.toks w=true) (h2:C4 G.names w=false):∃t:Nat,t< (B4 P).length/\D4 P w=2*(t:Int):=by
 have hc:=h.g.code w;rw[JF.2 h2]at hc;cases hT:EN (FO G.toks) w with
 |some k=>
  rw[hT]at hc;have hk:=WE hT;unfold FO at hk;rw[lM,h.toks_len]at hk;exact⟨k,hk,hc⟩
 |none=>rw[JF,<-QQ,h1]at hT;cases hT
theorem fP (f:ByteArray->Int):∀{P:List Ln},(∀x∈P,x.2.1=1->DI (nth x.2.2 3)=true)->∀t u,EO f P t u<=99
 | [],_,_,_=>Nat.zero_le _
 |x::P,h,t,u=>by
  rw[EO];split
  ·rename_i hc
   have:=K5 (h x (List.mem_cons_self ..) hc.1);omega
  ·exact fP f (fun y hy=>h y (List.mem_cons_of_mem _ hy)) t u
theorem GOk.ok  (h:GOk P G):(ngL P).Ok where
 pos:=by rw[MV];exact h.pos
 lt:=fun r hr=>by
  rw[IF]at hr;obtain⟨j,hj,rfl⟩:=List.mem_map.1 hr;obtain⟨x,hx,_⟩:=P8 hj;rw[MV];exact(gS_.1 hx).1
 pn:=fun r hr n hn=>by
  rw[IF]at hr;obtain⟨j,hj,rfl⟩:=List.mem_map.1 hr;obtain⟨w,hw,e⟩:=List.mem_map.1 hn;rw[MV,<-h.names_len];exact(h.part (h.knownR hj w hw)).2.1 n e
 pt:=fun r hr t ht=>by
  rw[IF]at hr;obtain⟨j,hj,rfl⟩:=List.mem_map.1 hr;obtain⟨w,hw,e⟩:=List.mem_map.1 ht;rw[KQ,<-h.toks_len];exact(h.part (h.knownR hj w hw)).2.2 t e
 put1:=fun t ht=>by rw[KQ]at ht;exact(h.put_at ht).2.1
 put2:=fun t ht=>by rw[KQ]at ht;exact(h.put_at ht).2.2
 drop1:=fun t ht=>by rw[KQ]at ht;exact(h.drop_at ht).2.1
 drop2:=fun t ht=>by rw[KQ]at ht;exact(h.drop_at ht).2.2
 swp2:=fun t u=>fP _ (fun x hx h1=>(h.swn x hx h1).1) t u
 parts:=fun r hr=>by
  rw[IF]at hr;obtain⟨j,hj,rfl⟩:=List.mem_map.1 hr;obtain⟨x,hx,_,h3⟩:=P8 hj;simp only[lM];exact lT_ (WN h3) (h.long x (mG hx))
theorem rG {j:Nat} (h:l[j]?=some x):nth l j=x:=by unfold nth;rw[gD_,h];rfl
theorem aY  (h:GOk P G):Rep G (ngL P) where
 ok:=h.ok
 nN:=by rw[MV,h.names_len]
 nT:=by rw[KQ,h.toks_len]
 len:=by rw[IF,h.rules_eq,lM,lM]
 rule:=fun i r q hr hq=>by
  rw[h.rules_eq,gM]at hr;rw[IF,gM]at hq;cases hj:(M7 P)[i]? with
  |none=>rw[hj]at hr;cases hr
  |some j=>
   rw[hj]at hr hq;simp only[Option.map_some,Option.some.injEq]at hr hq;subst hr;subst hq;have hm:=mG hj;obtain⟨x,hx,h2,h3⟩:=P8 hm;refine⟨?_,?_,fun k p hp=>?_⟩
   ·have hn:G.names[j.1]?=some j.2.1:=by rw[h.g.names];simp[G0,hx,h2]
    show OZ G.names j.2.1=_;rw[S7,h.g.once _ _ hn]
   ·simp
   ·simp only[gM]at hp
    cases hk:j.2.2[k]? with
    |none=>rw[hk]at hp;cases hp
    |some u=>
     rw[hk]at hp;simp only[Option.map_some,Option.some.injEq]at hp;subst hp;show k9 G (nth j.2.2 k) _;rw[rG hk];exact(h.part (h.knownR hm u (mG hk))).1
 put:=fun t tk ht=>by
  rw[h.g.toks]at ht;simp only[G0,List.nil_append,gM]at ht;cases hx:(B4 P)[t]? with
  |none=>rw[hx]at ht;cases ht
  |some x=>
   rw[hx]at ht;simp only[Option.map_some,Option.some.injEq]at ht;subst ht;obtain⟨h1,h2⟩:=gS_.1 hx;rw[(h.put_at h1).1,h2];rfl
 leN:=by rw[MV];exact h.nN
 leT:=by rw[KQ];exact h.nT
 leR:=by
  have e:((AM P).flatMap fun x=>A9 x.2.2).length=(M7 P).length:=by
   have:=congrArg List.length (d6 P fun _ r=>r);simpa using this
  rw[IF,lM,<-e];exact h.nR
 posR:=by
  rw[IF,lM];obtain⟨x,hx⟩:∃x,(AM P)[0]?=some x:=⟨_,gE h.pos⟩;refine List.length_pos_of_mem (a:=(0,nth x.2.2 1,(pst (x.2.2.drop 3)).2)) ?_;unfold M7;rw[List.mem_flatMap];refine⟨(x,0),List.mem_zipIdx_iff_getElem?.2 hx,List.mem_map.2 ⟨(pst (x.2.2.drop 3)).2,?_,rfl⟩⟩;unfold A9;simp
theorem GOk.tws  (h:GOk P G):FO G.toks=L6 P:=by
 rw[h.g.toks];unfold FO L6;simp[G0,rN]
def E7 (n:Nat):ByteArray:=⟨#[UInt8.ofNat (48+n)]⟩
theorem I7 (w:World) (b:UInt8):(convert 82 9 (ae w.heap.size 1 1)).run Tryz.prog (w.alloc (.cells #[.int .u8 (b.toNat:Int)] 5))=.ok (.string ⟨#[b]⟩) (w.alloc (.cells #[.int .u8 (b.toNat:Int)] 5)):=
 run_convert_bytes_back (P:=Tryz.prog) (w.alloc (.cells #[.int .u8 (b.toNat:Int)] 5)) 82 9 5 (af w.heap.size 0) 1 [b] Tryz.underlying82 Tryz.underlying5 Tryz.underlying9 (fun j hj=>by
  have h0:j=0:=by simpa using hj
  subst h0;have hb:(w.alloc (.cells #[.int .u8 (b.toNat:Int)] 5)).heap[w.heap.size]?=some (.cells #[.int .u8 (b.toNat:Int)] 5 (0,0)):=heap_alloc_new w _;have hadd:((af w.heap.size 0):Addr).add 0=(af w.heap.size 0):=by unfold Addr.add;split <;> simp_all
  rw[hadd,A0 hb];rfl)
theorem Mz9 {P:Prop} (h:P:=by
  go_enter Tryz.func17,Tryz.ntmps17
  go_wp2;go_ret;exact⟨rfl,(Below.refl _ _).alloc (lR_ _) _⟩):P:=h
theorem Q2 (n:Nat) (hn:n<10) (w:World):Calls Tryz.prog 17 #[ab n] w fun e w'=>e=.returned (.string (E7 n))/\Below w.heap.size w w':=by
 have h:n=0\/n=1\/n=2\/n=3\/n=4\/n=5\/n=6\/n=7\/n=8\/n=9:=by omega
 rcases h with rfl |rfl |rfl |rfl |rfl |rfl |rfl |rfl |rfl |rfl
 ·have hcv:(convert 82 9 (ae w.heap.size 1 1)).run Tryz.prog (w.alloc (.cells #[.int .u8 48] 5))=.ok (.string ⟨#[48]⟩) (w.alloc (.cells #[.int .u8 48] 5)):=I7 w 48
  exact Mz9
 ·have hcv:(convert 82 9 (ae w.heap.size 1 1)).run Tryz.prog (w.alloc (.cells #[.int .u8 49] 5))=.ok (.string ⟨#[49]⟩) (w.alloc (.cells #[.int .u8 49] 5)):=I7 w 49
  exact Mz9
 ·have hcv:(convert 82 9 (ae w.heap.size 1 1)).run Tryz.prog (w.alloc (.cells #[.int .u8 50] 5))=.ok (.string ⟨#[50]⟩) (w.alloc (.cells #[.int .u8 50] 5)):=I7 w 50
  exact Mz9
 ·have hcv:(convert 82 9 (ae w.heap.size 1 1)).run Tryz.prog (w.alloc (.cells #[.int .u8 51] 5))=.ok (.string ⟨#[51]⟩) (w.alloc (.cells #[.int .u8 51] 5)):=I7 w 51
  exact Mz9
 ·have hcv:(convert 82 9 (ae w.heap.size 1 1)).run Tryz.prog (w.alloc (.cells #[.int .u8 52] 5))=.ok (.string ⟨#[52]⟩) (w.alloc (.cells #[.int .u8 52] 5)):=I7 w 52
  exact Mz9
 ·have hcv:(convert 82 9 (ae w.heap.size 1 1)).run Tryz.prog (w.alloc (.cells #[.int .u8 53] 5))=.ok (.string ⟨#[53]⟩) (w.alloc (.cells #[.int .u8 53] 5)):=I7 w 53
  exact Mz9
 ·have hcv:(convert 82 9 (ae w.heap.size 1 1)).run Tryz.prog (w.alloc (.cells #[.int .u8 54] 5))=.ok (.string ⟨#[54]⟩) (w.alloc (.cells #[.int .u8 54] 5)):=I7 w 54
  exact Mz9
 ·have hcv:(convert 82 9 (ae w.heap.size 1 1)).run Tryz.prog (w.alloc (.cells #[.int .u8 55] 5))=.ok (.string ⟨#[55]⟩) (w.alloc (.cells #[.int .u8 55] 5)):=I7 w 55
  exact Mz9
 ·have hcv:(convert 82 9 (ae w.heap.size 1 1)).run Tryz.prog (w.alloc (.cells #[.int .u8 56] 5))=.ok (.string ⟨#[56]⟩) (w.alloc (.cells #[.int .u8 56] 5)):=I7 w 56
  exact Mz9
 ·have hcv:(convert 82 9 (ae w.heap.size 1 1)).run Tryz.prog (w.alloc (.cells #[.int .u8 57] 5))=.ok (.string ⟨#[57]⟩) (w.alloc (.cells #[.int .u8 57] 5)):=I7 w 57
  exact Mz9
structure Mk where
 puts:List Nat
 drops:List Nat
 swaps:List (List Nat)
 rules:List (List (List Pt))
def FF (T n:Nat):Pt->Prop
 | .tok t=>t<T
 | .nam k=>k<n
structure Mk.Good (m:Mk):Prop where
 t2:2<=m.puts.length
 t6:m.puts.length<=6
 dl:m.drops.length=m.puts.length
 sl:m.swaps.length=m.puts.length
 srow:∀r∈m.swaps,r.length=m.puts.length
 p1:∀x∈m.puts,1<=x/\x<=9
 d1:∀x∈m.drops,1<=x/\x<=9
 s1:∀r∈m.swaps,∀x∈r,x<=9
 sdiag:∀(i:Nat) r,m.swaps[i]?=some r->r.getD i 0=0
 n1:1<=m.rules.length
 n4:m.rules.length<=4
 c1:∀rs∈m.rules,1<=rs.length/\rs.length<=m.puts.length
 head:∀rs∈m.rules,∀(k:Nat) r,rs[k]?=some r->r.head?=some (.tok k)/\r.length<=5
 part:∀rs∈m.rules,∀r∈rs,∀p∈r,FF m.puts.length m.rules.length p
 last:∀rs∈m.rules,∀r,rs.getLast?=some r->∀p∈r,∃t,p=.tok t
 reach:∀(n:Nat) rs,m.rules[n]?=some rs->n+1<m.rules.length->∃r,rs[0]?=some r/\ .nam (n+1)∈r
def wB:Pt->List UInt8
 | .tok t=>[UInt8.ofNat (97+t)]
 | .nam n=>[UInt8.ofNat (65+n)]
def ba (l:List UInt8):ByteArray:=⟨l.toArray⟩
def G8:List (List (List UInt8))->List (List UInt8)
 | []=>[]
 | [r]=>r
 |r::q::t=>r++ [124]::G8 (q::t)
def KD (i p d:Nat):List (List UInt8):=[[116,111,107,101,110],wB (.tok i),[UInt8.ofNat (48+p)],[UInt8.ofNat (48+d)]]
def IA (i j c:Nat):List (List UInt8):=[[115,119,97,112],wB (.tok i),wB (.tok j),[UInt8.ofNat (48+c)]]
def DZ (n:Nat) (rs:List (List Pt)):List (List UInt8):=[114,117,108,101]::wB (.nam n):: [61]::G8 (rs.map fun r=>r.map wB)
def D0 (m:Mk) (i j:Nat):Nat:=(m.swaps.getD i []).getD j 0
def I5 (m:Mk) (i:Nat):List (List (List UInt8)):=KD i (m.puts.getD i 0) (m.drops.getD i 0)::(List.range m.puts.length).flatMap fun j=>if 0<D0 m i j then [IA i j (D0 m i j)]else []
def F4 (m:Mk):List (List (List UInt8)):=(List.range m.puts.length).flatMap (I5 m)++m.rules.zipIdx.map fun x=>DZ x.2 x.1
def DA (m:Mk):ByteArray:=ba (LS ((F4 m).map BQ))
theorem OU:∀i,i<6->DQ (A7 i)=true:=by decide+kernel
theorem TL:∀i,i<4->GO (BO i)=true:=by decide+kernel
theorem WS:∀i,i<10->1<=i->DI (E7 i)=true:=by decide+kernel
theorem WZ:∀i,i<10->CV (E7 i).data.toList=i:=by decide+kernel
theorem QU:∀i,i<6->∀j,j<6->((A7 i).toList==(A7 j).toList)=decide (i=j):=by decide+kernel
theorem mD:∀i,i<4->∀j,j<4->((BO i).toList==(BO j).toList)=decide (i=j):=by decide+kernel
theorem X1:∀i,i<6->∀j,j<4->((A7 i).toList==(BO j).toList)=false:=by decide+kernel
theorem tV:∀i,i<6->I0 (A7 i)=false:=by decide+kernel
theorem tI:∀i,i<4->I0 (BO i)=false:=by decide+kernel
theorem vU:∀i,i<6->UInt8.ofNat (97+i)≠32/\UInt8.ofNat (97+i)≠10:=by decide+kernel
theorem vB:∀i,i<4->UInt8.ofNat (65+i)≠32/\UInt8.ofNat (65+i)≠10:=by decide+kernel
theorem wC:∀i,i<10->UInt8.ofNat (48+i)≠32/\UInt8.ofNat (48+i)≠10:=by decide+kernel
end Go.Proofs.YtjjggdcnpndgjabGreatDoor
