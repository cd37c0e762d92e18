import Derived.Test.YtjjggdcnpndgjabGreatDoorJ6
set_option linter.unusedSimpArgs false
set_option maxHeartbeats 2000000
set_option maxRecDepth 100000
namespace Go.Proofs.YtjjggdcnpndgjabGreatDoor
open Go.RowKit
variable {G:Gr}{T:Nat->Bool}{a b n r t:Nat}{f:ByteArray->Int}{l ws:List ByteArray}{ls:List (Nat × List ByteArray)}{w:World}{x:Nat × List ByteArray}
def pC (o:Option Nat):Int:=match o with |some a=>(a:Int) |none=> -1
def O8 (P:List Ln):Nat:=(P.filter fun x=>x.2.1==2).length
theorem mY {m:Int}{lg:Nat} (M:Option Nat) (hm:m= -1\/0<=m):
  ((if(if 20<t\/20<n\/60<r\/8<lg then(4:Int)else 0)=4/\m<0 then(a:Int)else m)= -1/\¬(20<t\/20<n\/60<r)\/0<=(if(if 20<t\/20<n\/60<r\/8<lg then(4:Int)else 0)=4/\m<0 then(a:Int)else m))/\
  (if 0<=(if(if 20<t\/20<n\/60<r\/8<lg then(4:Int)else 0)=4/\m<0 then(a:Int)else m)then(if(if 20<t\/20<n\/60<r\/8<lg then(4:Int)else 0)=4/\m<0 then(a:Int)else m)else pC M)=
   if 0<=m then m else pC (if 20<t\/20<n\/60<r\/8<lg then some a else M):=by
 by_cases hC:20<t\/20<n\/60<r\/8<lg
 ·simp only[if_pos hC]
  by_cases hm0:m<0
  ·rw[if_pos (by simpa using hm0),if_neg (show ¬0<=m by omega)]
   exact⟨.inr (by omega),by rw[if_pos (by omega)];rfl⟩
  ·rw[if_neg (fun h=>hm0 h.2)]
   exact⟨.inr (by omega),by rw[if_pos (by omega),if_pos (by omega)]⟩
 ·simp only[if_neg hC]
  rw[if_neg (fun h=>absurd h.1 (by decide))];refine⟨?_,rfl⟩
  rcases hm with h |h
  ·exact .inl ⟨h,fun h'=>hC (by omega)⟩
  ·exact .inr h
theorem K8  (h:x.2.length=1):AF (x::ls)=AF ls:=by
 unfold AF;simp[h]
theorem MI  (h:¬x.2.length=1):AF (x::ls)=(x.1,AV x.2,x.2)::AF ls:=by
 unfold AF;simp[h]
theorem SO (y:Ln) (P:List Ln):AH (y::P)=(if(BC y.2.1 y.2.2).toList.isEmpty then []else [BC y.2.1 y.2.2])++AH P:=by
 unfold AH;rw[List.map_cons,List.filter_cons];cases(BC y.2.1 y.2.2).toList.isEmpty <;> simp
theorem kX (y:Ln) (P:List Ln):O8 (y::P)=(if y.2.1=2 then 1 else 0)+O8 P:=by
 unfold O8;rw[List.filter_cons]
 by_cases h:y.2.1=2
 ·simp[h];omega
 ·simp[h]
theorem F5  (h:AR l=true) (h1:¬l.length=1) {k:Nat} (hk:AV l=k):
  match k with
  |0=>((nth l 0).toList== [116,111,107,101,110])=true
  |1=>((nth l 0).toList== [116,111,107,101,110])=false/\((nth l 0).toList== [115,119,97,112])=true
  |_=>((nth l 0).toList== [116,111,107,101,110])=false/\((nth l 0).toList== [115,119,97,112])=false/\((nth l 0).toList== [114,117,108,101])=true:=by
 have key:(AV l=0/\((nth l 0).toList== [116,111,107,101,110])=true)\/(AV l=1/\((nth l 0).toList== [116,111,107,101,110])=false/\((nth l 0).toList== [115,119,97,112])=true)\/
   (AV l=2/\((nth l 0).toList== [116,111,107,101,110])=false/\((nth l 0).toList== [115,119,97,112])=false/\((nth l 0).toList== [114,117,108,101])=true):=by
  unfold AR at h;rw[if_neg h1]at h;unfold AV;cases ht:((nth l 0).toList== [116,111,107,101,110])
  ·cases hw:((nth l 0).toList== [115,119,97,112])
   ·cases hr:((nth l 0).toList== [114,117,108,101])
    ·rw[ht,hw,hr]at h;simp at h
    ·exact .inr (.inr ⟨rfl,rfl,rfl,rfl⟩)
   ·exact .inr (.inl ⟨rfl,rfl,rfl⟩)
  ·exact .inl ⟨rfl,rfl⟩
 rcases key with⟨e,a⟩ | ⟨e,a⟩ | ⟨e,a⟩ <;> (rw[hk]at e;subst e;exact a)
def WV (P:List Ln) (ws:List ByteArray) (t n r:Nat) (m:Int) (res:Gr × Int × Option Nat):Prop:=
 (∀a,res.2.2=some a->CQ P ws=some a)/\
 (res.2.2=none->CQ P ws=none/\res.2.1=(if 0<=m then m else pC (BZ P t n r))/\∃t' r',Inv res.1 (ws++AH P) t' (n+O8 P) r')
theorem R8 {P:List Ln}{G1:Gr}{m:Int}{t1 n1 r1 lg:Nat}{ws1:List ByteArray}{y:Ln} (hm:m= -1\/0<=m) (hg:D7 G x.2=(G1,if 20<t1\/20<n1\/60<r1\/8<lg then 4 else 0))
  (hwl:ws1=ws++(if(BC y.2.1 y.2.2).toList.isEmpty then []else [BC y.2.1 y.2.2])) (hn1:n1=n+if y.2.1=2 then 1 else 0)
  (htw:CQ (y::P) ws=CQ P ws1) (hmn:BZ (y::P) t n r=if 20<t1\/20<n1\/60<r1\/8<lg then some x.1 else BZ P t1 n1 r1)
  (ih:∀m1:Int,(m1= -1/\¬(20<t1\/20<n1\/60<r1)\/0<=m1)->WV P ws1 t1 n1 r1 m1 (E2 ls G1 m1)):WV (y::P) ws t n r m (E2 (x::ls) G m):=by
 have hs:=mY (a:=x.1) (t:=t1) (n:=n1) (r:=r1) (lg:=lg) (BZ P t1 n1 r1) hm;have e3:¬(if 20<t1\/20<n1\/60<r1\/8<lg then(4:Int)else 0)=3:=by split <;> decide
 have ep:E2 (x::ls) G m=E2 ls G1 (if(if 20<t1\/20<n1\/60<r1\/8<lg then(4:Int)else 0)=4/\m<0 then(x.1:Int)else m):=by
  rw[E2,hg,if_neg e3]
 have h:=ih _ hs.1;rw[<-ep]at h;refine⟨fun a ha=>by rw[htw];exact h.1 a ha,fun ho=>?_⟩;obtain⟨h1,h2,t',r',h3⟩:=h.2 ho;refine⟨by rw[htw];exact h1,?_,t',r',?_⟩
 ·rw[h2,hs.2,hmn]
 ·rw[SO,kX,<-aA,<-hwl,<-Nat.add_assoc,<-hn1]
  exact h3
theorem Mz8 {P:Prop} (h:P:=by
  have ep:E2 (x::ls) G m=(G,m,some x.1):=by rw[E2,if_pos h3]
  rw[ep];refine⟨fun a ha=>?_,fun h=>(by cases h)⟩;rw[CQ,if_neg (by rw[hgv,hne];decide),if_pos (by rw[hgv];exact hc)];exact ha):P:=h
theorem KI:∀(ls:List (Nat × List ByteArray)) (G:Gr) (m:Int) (t n r:Nat) (ws:List ByteArray),(∀x∈ls,AR x.2=true)->Inv G ws t n r->(m= -1/\¬(20<t\/20<n\/60<r)\/0<=m)->
  WV (AF ls) ws t n r m (E2 ls G m)
 | [],G,m,t,n,r,ws,_,hI,hm=>by
  refine⟨fun a h=>(by cases h),fun _=>⟨rfl,?_,t,r,by simpa[AF,AH,O8,E2] using hI⟩⟩
  rcases hm with h |h
  ·rw[if_neg (by omega)];exact h.1
  ·rw[if_pos h];rfl
 |x::ls,G,m,t,n,r,ws,hall,hI,hm=>by
  have hx:=hall x (by simp);have hrest:∀y∈ls,AR y.2=true:=fun y hy=>hall y (by simp[hy])
  have hm':m= -1\/0<=m:=hm.imp (fun h=>h.1) id
  by_cases h1:x.2.length=1
  ·have hs:=VK hI hx h1
   rw[K8 h1];have e3:¬(D7 G x.2).2=3:=by rw[hs.2];split <;> decide
   have em:(if(D7 G x.2).2=4/\m<0 then(x.1:Int)else m)=m:=by
    rcases hm with h |h
    ·rw[hs.2,if_neg h.2,if_neg (fun h'=>absurd h'.1 (by decide))]
    ·rw[if_neg (fun h'=>by omega)]
   have ep:E2 (x::ls) G m=E2 ls G m:=by
    rw[E2,if_neg e3,em,hs.1]
   rw[ep];exact KI ls G m t n r ws hrest hI hm
  ·rw[MI h1]
   rcases KP hx h1 with⟨hsh,hlen,htk⟩ | ⟨hsh,hlen,htk,_⟩ | ⟨hsh,hlen,hnm,_⟩
   ·have hne:(nth x.2 1).toList.isEmpty=false:=S6 htk
    have h0:=F5 hx h1 hsh;have hgv:BC 0 x.2=nth x.2 1:=rfl;rw[hsh]
    rcases cZ hI h0 htk with⟨hc,h3⟩ | ⟨hc,hI2,h4⟩
    ·exact Mz8
    ·exact R8 (lg:=0) hm' (Prod.ext rfl h4) (by rw[hgv,if_neg (by rw[hne];decide)]) rfl
      y37Z rfl (fun m1 h=>KI ls _ m1 _ _ _ _ hrest hI2 h)
   ·have h0:=F5 hx h1 hsh
    have hgv:BC 1 x.2=ByteArray.empty:=rfl;have hemp:ByteArray.empty.toList.isEmpty=true:=by rw[ByteArray.toList_eq];rfl
    rw[hsh];have hs:=YL hI h0.1 h0.2;exact R8 (lg:=0) hm' (Prod.ext rfl hs.2) (by rw[hgv,if_pos hemp,List.append_nil]) rfl
     (by rw[CQ,if_pos (by rw[hgv];exact hemp)]) rfl (fun m1 h=>KI ls _ m1 _ _ _ _ hrest hs.1 h)
   ·have hne:(nth x.2 1).toList.isEmpty=false:=S6 hnm
    have h0:=F5 hx h1 hsh;have hgv:BC 2 x.2=nth x.2 1:=rfl;rw[hsh]
    rcases XS hI h0.1 h0.2.1 h0.2.2 hnm with⟨hc,h3⟩ | ⟨hc,hI2,h4⟩
    ·exact Mz8
    ·exact R8 (lg:=DW (A9 x.2)) hm' (Prod.ext rfl h4) (by rw[hgv,if_neg (by rw[hne];decide)]) rfl
      y37Z rfl (fun m1 h=>KI ls _ m1 _ _ _ _ hrest hI2 h)
theorem Inv.cnt0  (h:Inv G ws t n r) (u:ByteArray):(cnt ws u==0)=(!D2 G.toks u&& !C4 G.names u):=by
 rw[Bool.eq_iff_iff];have:=h.has u;simp only[beq_iff_eq,Bool.and_eq_true,Bool.not_eq_true'];constructor
 ·intro h0
  constructor
  ·cases hq:D2 G.toks u
   ·rfl
   ·have:=this.1 (.inl hq);omega
  ·cases hq:C4 G.names u
   ·rfl
   ·have:=this.1 (.inr hq);omega
 ·rintro⟨h1,h2⟩
  cases hc:cnt ws u with
  |zero=>rfl
  |succ k=>
   have:=this.2 (by omega);rw[h1,h2]at this;simp at this
theorem b7  (h:Inv G ws t n r) {u:ByteArray} (hu:DQ u=true):(cnt ws u==0)= !D2 G.toks u:=by
 rw[h.cnt0,h.no_name hu];simp
theorem rH  (h:Inv G ws t n r)  (hl:AR l=true) (h1:¬l.length=1):
  ES ws (a,AV l,l)=FK G l:=by
 rcases KP hl h1 with⟨hsh,_,_⟩ | ⟨hsh,_,ht1,ht2⟩ | ⟨hsh,_,_,_⟩
 ·have h0:=F5 hl h1 hsh
  have e:(nth l 0).toList=[116,111,107,101,110]:=by simpa using h0
  unfold ES FK GM;simp only[hsh,e];rfl
 ·have h0:=F5 hl h1 hsh
  unfold ES FK GM;rw[if_pos h0.2];simp only[hsh];simp only[beq_self_eq_true,Bool.true_and,if_true,List.any_cons,List.any_nil,Bool.or_false];rw[b7 h ht1,b7 h ht2]
  generalize D2 G.toks (nth l 1)=b1
  generalize D2 G.toks (nth l 2)=b2
  generalize ((nth l 1).toList==(nth l 2).toList)=b3
  revert b1 b2 b3;decide
 ·have h0:=F5 hl h1 hsh
  have eR:FK G l=(l.drop 3).any (pB G):=by
   unfold FK;rw[if_neg (by rw[h0.2.1];decide),if_pos h0.2.2]
  have eL:ES ws (a,AV l,l)=((l.drop 3).filter fun x=> !I0 x).any fun u=>cnt ws u==0:=by
   unfold ES GM;rw[hsh,<-Q1];rfl
  rw[eL,eR,List.any_filter]
  congr 1
  funext x
  unfold pB;rw[h.cnt0]
theorem eB  (hl:AR l=true) (h1:l.length=1):FK G l=false:=by
 unfold AR at hl;rw[if_pos h1]at hl;have e:(nth l 0).toList=[]:=by simpa using hl
 unfold FK;rw[e];rfl
theorem YJ {G:Gr}{ws:List ByteArray}{t n r:Nat} (h:Inv G ws t n r):∀(ls:List (Nat × List ByteArray)),(∀x∈ls,AR x.2=true)->
  EY ws (AF ls)=(ls.find? fun x=>FK G x.2).map (·.1)
 | [],_=>rfl
 |x::ls,hall=>by
  have hx:=hall x (by simp);have ih:=YJ h ls (fun y hy=>hall y (by simp[hy]))
  by_cases h1:x.2.length=1
  ·rw[K8 h1,ih,List.find?_cons_of_neg (by rw[eB hx h1];decide)]
  ·rw[MI h1]
   have e:=rH h (a:=x.1) hx h1;unfold EY;rw[e];cases hq:FK G x.2
   ·rw[if_neg (by decide),ih,List.find?_cons_of_neg (by rw[hq];decide)]
   ·rw[if_pos rfl,List.find?_cons_of_pos (p:=fun y=>FK G y.2) (a:=x) hq];rfl
theorem pA (P:List Ln):(P.any fun x=>x.2.1==2)=decide (¬O8 P=0):=by
 unfold O8;rw[Bool.eq_iff_iff,List.any_eq_true,decide_eq_true_eq];constructor
 ·rintro⟨x,hx,h⟩ h0
  rw[List.length_eq_zero_iff,List.filter_eq_nil_iff]at h0;exact h0 x hx h
 ·intro h0
  have:0< (P.filter fun x=>x.2.1==2).length:=by omega
  obtain⟨x,hx⟩:=List.length_pos_iff_exists_mem.1 this;rw[List.mem_filter]at hx;exact⟨x,hx.1,hx.2⟩
theorem QD (s:ByteArray):E8 s=((GN s).1,(GN s).2.1):=by
 unfold E8 GN
 by_cases h1:4000<s.size
 ·rw[if_pos h1,if_pos h1]
 ·rw[if_neg h1,if_neg h1]
  by_cases h2:(AG s 0).2<s.size
  ·rw[if_pos h2,if_pos h2]
  ·rw[if_neg h2,if_neg h2]
   have hall:∀x∈(AG s 0).1,AR x.2=true:=fun x hx=>(PZ s _ _ x hx).2
   have hI:Inv G0 [] 0 0 0:=⟨fun u=>by simp[D2,C4,G0,cnt],fun x hx=>by simp[G0]at hx,fun x hx=>by simp[G0]at hx,rfl,rfl,rfl⟩;have hS:=KI (AG s 0).1 G0 (-1) 0 0 0 [] hall hI (.inl ⟨rfl,by omega⟩)
   rcases hp:E2 (AG s 0).1 G0 (-1)with⟨G,m,o⟩
   rw[hp]at hS;cases o with
   |some a=>rw[hS.1 a rfl]
   |none=>
    obtain⟨ht,hm,t',r',hI'⟩:=hS.2 rfl;simp only[List.nil_append,Nat.zero_add]at hI' hm;rw[if_neg (by decide)]at hm;rw[ht];cases hM:BZ (AF (AG s 0).1) 0 0 0 with
    |some a=>
     rw[hM]at hm;have hm':m=(a:Int):=hm;simp only[hm'];rw[if_pos (by omega)]
    |none=>
     rw[hM]at hm;have hm':m= -1:=hm;simp only[hm'];have e0:¬(0:Int)<= -1:=by decide
     rw[if_neg e0,pA];have hn:=hI'.nn
     by_cases h0:O8 (AF (AG s 0).1)=0
     ·rw[if_pos (show G.names.length=0 by omega),if_neg (show ¬decide (¬O8 (AF (AG s 0).1)=0)=true by simp[h0])]
     ·rw[if_neg (show ¬G.names.length=0 by omega),if_pos (show decide (¬O8 (AF (AG s 0).1)=0)=true by simp[h0])]
      rw[YJ hI' _ hall];cases hf:(AG s 0).1.find? fun x=>FK G x.2 <;> rfl
def BQ:List (List UInt8)->List UInt8
 | []=>[]
 | [w]=>w
 |w::v::r=>w++32::BQ (v::r)
theorem bI {a b:ByteArray} (h:a.data.toList=b.data.toList):a=b:=by
 apply ByteArray.ext;exact Array.toList_inj.1 h
theorem U0:∀(l:List UInt8) (d:List ByteArray) (c:ByteArray),(∀b∈l,b≠32)->l.foldl E9 (d,c)=(d,⟨(c.data.toList++l).toArray⟩)
 | [],d,c,_=>by simp
 |b::l,d,c,h=>by
  rw[List.foldl_cons];have hb:b≠32:=h b (by simp);have e:E9 (d,c) b=(d,c++⟨#[b]⟩):=by unfold E9;rw[if_neg hb]
  rw[e,U0 l d _ (fun x hx=>h x y31Z)]
  congr 1
  apply bI;have e2:(c++(⟨#[b]⟩:ByteArray)).data.toList=c.data.toList++ [b]:=by simp
  rw[e2];simp
theorem ZJ:∀(ws:List (List UInt8)) (d:List ByteArray),ws≠ []->(∀w∈ws,∀b∈w,b≠32)->
  ((BQ ws).foldl E9 (d,ByteArray.empty)).1++ [((BQ ws).foldl E9 (d,ByteArray.empty)).2]=d++ws.map fun w=>⟨w.toArray⟩
 | [],d,h,_=>absurd rfl h
 | [w],d,_,h=>by
  show(w.foldl E9 (d,ByteArray.empty)).1++ [(w.foldl E9 (d,ByteArray.empty)).2]=_;rw[U0 w d _ (h w (by simp))];simp
 |w::v::r,d,_,h=>by
  have hw:=U0 w d ByteArray.empty (h w (by simp));have e0:ByteArray.empty.data.toList++w=w:=by simp
  rw[e0]at hw;have e:(BQ (w::v::r)).foldl E9 (d,ByteArray.empty)=(BQ (v::r)).foldl E9 (d++ [⟨w.toArray⟩],ByteArray.empty):=by
   show(w++32::BQ (v::r)).foldl E9 _=_;rw[List.foldl_append,hw,List.foldl_cons]
   congr 1
  rw[e,ZJ (v::r) _ (by simp) (fun x hx=>h x y31Z)];simp
theorem j7 (ws:List (List UInt8)) (h0:ws≠ []) (h:∀w∈ws,∀b∈w,b≠32):AA ⟨(BQ ws).toArray⟩=ws.map fun w=>⟨w.toArray⟩:=by
 have:=ZJ ws [] h0 h;unfold AA wst;simpa using this
def LS (ls:List (List UInt8)):List UInt8:=ls.flatMap fun l=>l++ [10]
theorem YY {l r:List UInt8} (h:∀b∈l,b≠10):(l++10::r).findIdx? (· ==10)=some l.length:=by
 rw[List.findIdx?_eq_some_iff_getElem];refine⟨by simp,by simp,fun j hj=>?_⟩;rw[List.getElem_append_left hj];have:=h _ (List.getElem_mem hj);simpa using this
theorem qX {s:ByteArray}{l r:List UInt8} (hd:s.data.toList.drop a=l++10::r) (h:∀b∈l,b≠10):BT s a=(⟨l.toArray⟩,((a+l.length+1:Nat):Int)):=by
 unfold BT;rw[hd,YY h];simp only
 congr 1
 apply bI;have:(s.extract a (a+l.length)).data.toList=(s.data.toList.drop a).take l.length:=by
  simp[ByteArray.data_extract]
 rw[this,hd];simp
def R6:List (List UInt8)->Nat->List Nat
 | [],_=>[]
 |l::r,a=>a::R6 r (a+l.length+1)
theorem VO (s:ByteArray):∀(ls:List (List UInt8)) (a:Nat),s.data.toList.drop a=LS ls->a<=s.size->(∀l∈ls,(∀b∈l,b≠10)/\AR (AA ⟨l.toArray⟩)=true)->
  AG s a=((R6 ls a).zip (ls.map fun l=>AA ⟨l.toArray⟩),s.size)
 | [],a,hd,ha,_=>by
  have hl:s.data.toList.length=s.size:=by simp
  have h0:¬a<s.size:=by
   intro h;have:=congrArg List.length hd;simp[LS]at this;omega
  rw[XE h0];show(_,a)=(_,s.size);rw[show a=s.size by omega];rfl
 |l::ls,a,hd,ha,h=>by
  have hl:s.data.toList.length=s.size:=by simp
  have hc:LS (l::ls)=l++10::LS ls:=by unfold LS;simp
  rw[hc]at hd;have hlen:=congrArg List.length hd;simp only[List.length_drop,hl,lA,lC]at hlen;obtain⟨h1,h2⟩:=h l (by simp);have hln:=qX hd h1;have hd2:s.data.toList.drop (a+l.length+1)=LS ls:=by
   have:s.data.toList.drop (a+l.length+1)=(s.data.toList.drop a).drop (l.length+1):=by rw[List.drop_drop];rfl
   rw[this,hd];simp[List.drop_append]
  have ih:=VO s ls (a+l.length+1) hd2 (by omega) (fun x hx=>h x y31Z);rw[V6 (by omega) (by rw[hln];simp;omega) (by rw[hln];exact h2),hln];simp only[Int.toNat_natCast];rw[ih];simp[R6]
section
open Go.RowKit Go.WideMaps Go.Maps
def OW (v:Value):Option (DataW Unit × List MemPlace):=
 match v with
 | .agg cs=>match cs.toList with
  | [.bool b,.int .i64 n]=>some (.lit (.int .i64 (2*n+if b then 1 else 0)),[])
  |_=>none
 |_=>none
theorem lG {v:Value}{c:Int}{ps:List MemPlace} (h:OW v=some (.lit (.int .i64 c),ps)):v=.agg #[.bool (decide (c % 2=1)),ab (c / 2)]:=by
 unfold OW at h;split at h
 ·rename_i cs
  split at h
  ·rename_i b n hcs
   simp only[Option.some.injEq,Prod.mk.injEq,DataW.lit.injEq,Lit.int.injEq,true_and]at h;obtain⟨h1,_⟩:=h;have h2:cs= #[.bool b,ab n]:=Array.toList_inj.1 hcs;rw[h2];cases b
   ·have e1:decide (c % 2=1)=false:=decide_eq_false (by simp at h1;omega)
    have e2:c / 2=n:=by simp at h1;omega
    rw[e1,e2]
   ·have e1:decide (c % 2=1)=true:=decide_eq_true (by simp at h1;omega)
    have e2:c / 2=n:=by simp at h1;omega
    rw[e1,e2]
  ·cases h
 ·cases h
def EL:List Ln->Nat->Nat->(ByteArray->Int)->ByteArray->Int
 | [],_,_,f=>f
 |x::r,t,n,f=>if x.2.1=0 then EL r (t+1) n (fun s=>if ED (BC 0 x.2.2) s=true then 2*(t:Int)else f s)
  else if x.2.1=2 then EL r t (n+1) (fun s=>if ED (BC 2 x.2.2) s=true then 2*(n:Int)+1 else f s)else EL r t n f
def EI (w:World) (b n:Nat) (f:ByteArray->Int):Prop:=∃D:DataW Unit,w.ownsMap Tryz.prog 9 OW b n D/\IsMap D/\∀s:ByteArray,D.atKey (.string s.data.toList) (.lit (.int .i64 0))=.lit (.int .i64 (f s))
theorem EI.block {w':World} (h:EI w b n f) (hb:w'.heap[b]?=w.heap[b]?):EI w' b n f:=by
 obtain⟨D,hown,h2,h3⟩:=h;obtain⟨es,clock,h4,h5⟩:=hown;exact⟨D,⟨es,clock,hb.trans h4,h5⟩,h2,h3⟩
theorem EI.lt  (h:EI w b n f):b<w.heap.size:=by
 obtain⟨D,hown,_⟩:=h;exact hown.lt
theorem EI.below {w':World} (h:EI w b n f) (hb:Below w.heap.size w w'):EI w' b n f:=h.block (hb.block b h.lt)
theorem sD {D:DataW Unit} (hm:IsMap D) (h:∀s:ByteArray,D.atKey (.string s.data.toList) (.lit (.int .i64 0))=.lit (.int .i64 (f s))) (x:ByteArray) (c:Int):
  ∀s:ByteArray,(D.put (.string x.data.toList) (.lit (.int .i64 c))).atKey (.string s.data.toList) (.lit (.int .i64 0))=.lit (.int .i64 (if ED x s=true then c else f s)):=by
 intro s
 by_cases e:x.data.toList=s.data.toList
 ·rw[<-e,atKey_put_same hm (by trivial),if_pos (show ED x s=true from decide_eq_true e)]
 ·rw[atKey_put_other (fun h=>e (by injection h with h;exact h.symm)),h s,if_neg (fun h:ED x s=true=>e (of_decide_eq_true h))]
theorem qY {ls:List Ln}{k:Nat}{x:Ln} (hx:ls[k]?=some x) (t n:Nat) (f:ByteArray->Int):EL (ls.drop k) t n f=if x.2.1=0 then EL (ls.drop (k+1)) (t+1) n (fun s=>if ED (BC 0 x.2.2) s=true then 2*(t:Int)else f s)
  else if x.2.1=2 then EL (ls.drop (k+1)) t (n+1) (fun s=>if ED (BC 2 x.2.2) s=true then 2*(n:Int)+1 else f s)else EL (ls.drop (k+1)) t n f:=by
 obtain⟨hk,rfl⟩:=gS_.1 hx;rw[List.drop_eq_getElem_cons hk];rfl
theorem Tryz.zeroPart (w:World):(zeroValue 105).run Tryz.prog w=.ok (.agg #[.bool false,ab 0]) w:=by kernel_rfl
theorem EI.look  (h:EI w b n f) (s:ByteArray) (hs:s.size<=maxLen):(Instr.lookup 191 (.map (some b)) (.string s) false).run Tryz.prog w=.ok (.agg #[.bool (decide (f s % 2=1)),ab (f s / 2)]) w:=by
 obtain⟨D,hown,_,hat⟩:=h;obtain⟨v,ps,hrun,hR⟩:=hown.lookup Tryz.lawStr Tryz.underlying191 (Tryz.zeroPart w) (zd:=.lit (.int .i64 0)) (zp:=[]) rfl (keyOf_string_mk Tryz.underlying9 hs);rw[hat s]at hR;rw[hrun,lG hR]
theorem aG (v:Value) (ls:List Ln) (pv:List Value) (B:Nat) (w:World) (hV:LnV w B v ls pv) (hok:LC ls):
  Calls Tryz.prog 97 #[v] w fun e w'=>e=.returned (.map (some w.heap.size))/\EI w' w.heap.size ls.length (EL ls 0 0 (fun _=>0))/\Below w.heap.size w w':=by
 have hmm:= @run_makeMap Tryz.prog
 rcases hV.form with⟨rfl,rfl⟩ | ⟨g,cap,rfl,hnc,hg⟩
 ·have HB:Hid (Below w.heap.size w (w.alloc (.map #[] 0))):=hid ((Below.refl _ _).alloc (lR_ _) _)
  have HM:Hid (EI (w.alloc (.map #[] 0)) w.heap.size 0 (fun _=>0)):=hid ⟨_,World.ownsMap_made _ _ _ _,isMap_empty,fun s=>rfl⟩;clear hV hok
  go_enter Tryz.func97,Tryz.ntmps97
  go_wp2;clear hmm
  go_loopw [11] (fun i wr=>i=ab 0/\Hid (EI wr w.heap.size 0 (fun _=>0))/\Hid (Below w.heap.size w wr)) (fun i _=>0)
  case atStart=>exact⟨rfl,HM,HB⟩
  case round=>
   obtain⟨rfl,hm,hbr⟩:=hrel;go_wp2;go_ret;exact⟨rfl,hm.out,hbr.out⟩
 ·obtain⟨n,hN⟩:=qF (ls.length)
  have hn:=hok.len;rw[<-hN]at hn hnc hV ⊢;have HN:Hid (n=ls.length):=hid hN;have HV:=hid hV;have HOK:=hid hok;have HB:Hid (Below w.heap.size w (w.alloc (.map #[] 0))):=hid ((Below.refl _ _).alloc (lR_ _) _);have HM:Hid (EI (w.alloc (.map #[] 0)) w.heap.size 0 (fun _=>0)):=hid ⟨_,World.ownsMap_made _ _ _ _,isMap_empty,fun s=>rfl⟩;clear hN hV hok
  go_enter Tryz.func97,Tryz.ntmps97
  go_wp2;clear hmm
  go_loopw [4,5,11] (fun a b i wr=>∃(k t m:Nat) (f:ByteArray->Int),k<=n/\t<=k/\m<=k/\i=ab k/\a=ab t/\b=ab m/\Hid (EL ls 0 0 (fun _=>0)=EL (ls.drop k) t m f)/\Hid (EI wr w.heap.size k f)/\Hid (Below w.heap.size w wr)) (fun _ _ i _=>n - (intOf i).toNat)
  case atStart=>exact⟨0,0,0,_,by omega,by omega,by omega,rfl,rfl,rfl,rfl,HM,HB⟩
  case round=>
   clear HM HB;obtain⟨k,t,m,f,hk,htk,hmk,rfl,rfl,rfl,ht,hm,hbr⟩:=hrel;have hsz:=hbr.out.size
   by_cases hlt:k<n
   ·obtain⟨x,hx⟩:∃x,ls[k]?=some x:=⟨_,gE y8Z⟩
    have hxok:=HOK.out.ok x (mG hx);have hxs:=HOK.out.gsz x (mG hx);have hx2:=HOK.out.sh x (mG hx);have hT:=qY hx t m f;obtain⟨p,hp,hWV,k0,k1,k2⟩:=(HV.out.below hbr.out).at hx;obtain⟨at_,sh,l⟩:=x;simp only at k0 k1 k2 hT hWV hxs hx2;have hgr:g<wr.heap.size:=lL hg hsz;have HWV:=hid hWV;obtain⟨gw,q,qc,ad,cs,rfl,_⟩:=hWV;have HB1:Hid (Below w.heap.size w (wr.alloc (.cells #[ab at_,ab sh,.slice ad q qc] 194))):=hid (hbr.out.alloc hsz _);have HA1:Hid (Below wr.heap.size wr (wr.alloc (.cells #[ab at_,ab sh,.slice ad q qc] 194))):=hid ((Below.refl _ _).alloc (lR_ _) _);obtain⟨wd,hwd⟩:=qE (BC sh l);have cG:=RF at_ sh (.slice ad q qc) l _ (HWV.out.below HA1.out) y50Z hxok.2;rw[hwd]at cG hxs;have CG:=hid cG;have HT:=hid (ht.out.trans hT);obtain⟨D,hown,hD,hat⟩:=hm.out;have hkey:keyOf Tryz.prog 9 (.string wd)=some (.string wd.data.toList):=keyOf_string_mk Tryz.underlying9 y3Z
    have HKey:=hid hkey;have HOwn:=hid hown;have HPut:=hid fun c=>sD hD hat wd c
    have HD2:Hid (∀c:Int,IsMap (D.put (.string wd.data.toList) (.lit (.int .i64 c)))):=hid fun c=>hD.put _ _
    have HWd:=hid hwd;clear hp hx hxok ht hT cG hwd hat hD hown hkey hxs;have hk4:k<4000:=by omega
    have hwsz:=HOwn.out.lt;have hshape:sh=0\/sh=1\/sh=2:=by omega
    clear hx2
    rcases hshape with rfl |rfl |rfl
    ·have HE:Hid (EL ls 0 0 (fun _=>0)=EL (ls.drop (k+1)) (t+1) m (fun s=>if ED wd s=true then 2*(t:Int)else f s)):=hid (by rw[HT.out,if_pos rfl,HWd.out])
     go_wp2_with (first
      | (go_at_call 120;refine CG.out.mono ?_;rintro e w2 ⟨rfl,hb2⟩;have HN2:Hid (Below w.heap.size w w2):=hid (HB1.out.trans (hb2.mono HB1.out.size));have hown2:w2.ownsMap Tryz.prog 9 OW w.heap.size k D:=y17Z;have HO2:=hid hown2;clear hown2 hb2)
      | (at_mapUpdate;refine wpList_mapUpdate_own _ rfl _ _ _ 191 rfl 9 105 Tryz.lawStr Tryz.underlying191 OW w.heap.size k _ rfl HO2.out y3Z _ _ _ rfl rfl HKey.out (.lit (.int .i64 (2*(t:Int)+if false=true then 1 else 0))) [] rfl ?_))
     intro w3 hown3 hgrow3;have HB3:Hid (Below w.heap.size w w3):=hid (HN2.out.grown hgrow3 HN2.out.size (fun j hj=>by cases hj;exact lR_ _));have HNV:Hid (EI w3 w.heap.size (k+1) (fun s=>if ED wd s=true then 2*(t:Int)else f s)):=hid ⟨_,hown3,HD2.out _,HPut.out _⟩;clear hown3 hgrow3;go_wp2
     go_roundw
     case rel=>exact⟨k+1,t+1,m,_,by omega,by omega,by omega,by go_num,by go_num,by go_num,HE,HNV,HB3⟩
     case measure=>simp[intOf];omega
    ·have HE:Hid (EL ls 0 0 (fun _=>0)=EL (ls.drop (k+1)) t m f):=hid (by rw[HT.out,if_neg (by decide),if_neg (by decide)])
     go_wp2
     go_roundw
     case rel=>exact⟨k+1,t,m,f,by omega,by omega,by omega,by go_num,rfl,rfl,HE,hid (by have h1:=hm.out.below HA1.out;obtain⟨D',⟨es,clock,h4,h5,h6,h7⟩,h2,h3⟩:=h1;exact⟨D',⟨es,clock,h4,h5,by omega,h7⟩,h2,h3⟩),HB1⟩
     case measure=>simp[intOf];omega
    ·have HE:Hid (EL ls 0 0 (fun _=>0)=EL (ls.drop (k+1)) t (m+1) (fun s=>if ED wd s=true then 2*(m:Int)+1 else f s)):=hid (by rw[HT.out,if_neg (by decide),if_pos rfl,HWd.out])
     go_wp2_with (first
      | (go_at_call 120;refine CG.out.mono ?_;rintro e w2 ⟨rfl,hb2⟩;have HN2:Hid (Below w.heap.size w w2):=hid (HB1.out.trans (hb2.mono HB1.out.size));have hown2:w2.ownsMap Tryz.prog 9 OW w.heap.size k D:=y17Z;have HO2:=hid hown2;clear hown2 hb2)
      | (at_mapUpdate;refine wpList_mapUpdate_own _ rfl _ _ _ 191 rfl 9 105 Tryz.lawStr Tryz.underlying191 OW w.heap.size k _ rfl HO2.out y3Z _ _ _ rfl rfl HKey.out (.lit (.int .i64 (2*(m:Int)+if true=true then 1 else 0))) [] rfl ?_))
     intro w3 hown3 hgrow3;have HB3:Hid (Below w.heap.size w w3):=hid (HN2.out.grown hgrow3 HN2.out.size (fun j hj=>by cases hj;exact lR_ _));have HNV:Hid (EI w3 w.heap.size (k+1) (fun s=>if ED wd s=true then 2*(m:Int)+1 else f s)):=hid ⟨_,hown3,HD2.out _,HPut.out _⟩;clear hown3 hgrow3;go_wp2
     go_roundw
     case rel=>exact⟨k+1,t,m+1,_,by omega,by omega,by omega,by go_num,by go_num,by go_num,HE,HNV,HB3⟩
     case measure=>simp[intOf];omega
   ·have HE:Hid (EL ls 0 0 (fun _=>0)=f):=hid (by
     rw[ht.out,List.drop_eq_nil_of_le y8Z];rfl)
    obtain rfl:k=n:=by omega
    go_wp2;go_ret;exact⟨rfl,by rw[HE.out];exact hm.out,hbr.out⟩
end
inductive Pt where
 |tok (t:Nat)
 |nam (n:Nat)
structure NG where
 nT:Nat
 nN:Nat
 put:Nat->Nat
 drop:Nat->Nat
 swp:Nat->Nat->Nat
 rules:List (Nat × List Pt)
structure NG.Ok (N:NG):Prop where
 pos:0<N.nN
 lt:∀r∈N.rules,r.1<N.nN
 pn:∀r∈N.rules,∀n,Pt.nam n∈r.2->n<N.nN
 pt:∀r∈N.rules,∀t,Pt.tok t∈r.2->t<N.nT
 put1:∀t,t<N.nT->1<=N.put t
 put2:∀t,t<N.nT->N.put t<=99
 drop1:∀t,t<N.nT->1<=N.drop t
 drop2:∀t,t<N.nT->N.drop t<=99
 swp2:∀t u,N.swp t u<=99
 parts:∀r∈N.rules,r.2.length<=8
def EJ {σ:Type} (F:σ->σ):Nat->σ->σ
 |0,s=>s
 |k+1,s=>EJ F k (F s)
theorem XU {σ ρ:Type} (step:σ->ρ->σ) (μ:σ->Nat) (I:σ->Prop) (l:List ρ) (h:∀s,I s->∀r∈l,(step s r=s\/μ (step s r)<μ s)/\I (step s r)):
  ∀s,I s->((l.foldl step s=s/\∀r∈l,step s r=s)\/μ (l.foldl step s)<μ s)/\I (l.foldl step s):=by
 induction l with
 |nil=>intro s hi;exact⟨.inl ⟨rfl,fun r hr=>by cases hr⟩,hi⟩
 |cons x r ih=>
  intro s hi;have ih':=ih (fun s hs q hq=>h s hs q (List.mem_cons_of_mem _ hq));obtain⟨h1,h2⟩:=h s hi x (List.mem_cons_self ..);rw[List.foldl_cons]
  rcases h1 with h1 |h1
  ·rw[h1]
   obtain⟨h3,h4⟩:=ih' s hi;refine⟨?_,h4⟩
   rcases h3 with⟨h3,h5⟩ |h3
   ·exact .inl ⟨h3,fun q hq=>by rcases List.mem_cons.1 hq with rfl |hq;exact h1;exact h5 q hq⟩
   ·exact .inr h3
  ·obtain⟨h3,h4⟩:=ih' _ h2
   refine⟨.inr ?_,h4⟩
   rcases h3 with⟨h3,_⟩ |h3
   ·rw[h3];exact h1
   ·omega
theorem rT {σ:Type} (F:σ->σ) (μ:σ->Nat) (I:σ->Prop) (h:∀s,I s->(F s=s\/μ (F s)<μ s)/\I (F s)):∀(k:Nat) (s:σ),I s->μ s<=k->F (EJ F k s)=EJ F k s/\I (EJ F k s):=by
 intro k
 induction k with
 |zero=>
  intro s hi hk;obtain⟨h1,h2⟩:=h s hi
  rcases h1 with h1 |h1
  ·exact⟨h1,hi⟩
  ·omega
 |succ k ih=>
  intro s hi hk;obtain⟨h1,h2⟩:=h s hi;show F (EJ F k (F s))=EJ F k (F s)/\_
  rcases h1 with h1 |h1
  ·rw[h1]
   have hfix:∀j,EJ F j s=s:=by
    intro j
    induction j with
    |zero=>rfl
    |succ j ihj=>show EJ F j (F s)=s;rw[h1];exact ihj
   show F (EJ F k s)=EJ F k s/\I (EJ F k (F s));rw[h1,hfix k];exact⟨h1,hi⟩
  ·exact ih (F s) h2 (by omega)
theorem rX {σ:Type} (F:σ->σ) (I:σ->Prop) (h:∀s,I s->I (F s)):∀(k:Nat) (s:σ),I s->I (EJ F k s):=by
 intro k
 induction k with
 |zero=>intro s hi;exact hi
 |succ k ih=>intro s hi;exact ih (F s) (h s hi)
theorem mQ {σ ρ:Type} (step:σ->ρ->σ) (I:σ->Prop) (l:List ρ) (h:∀s,I s->∀r∈l,I (step s r)):∀s,I s->I (l.foldl step s):=by
 induction l with
 |nil=>intro s hi;exact hi
 |cons x r ih=>intro s hi;exact ih (fun s hs q hq=>h s hs q (List.mem_cons_of_mem _ hq)) _ (h s hi x (List.mem_cons_self ..))
theorem MA {σ ρ:Type} (step:σ->ρ->σ) (μ:σ->Nat) (I:σ->Prop) (l:List ρ) (h:∀s,I s->∀r∈l,(step s r=s\/μ (step s r)<μ s)/\I (step s r)) (k:Nat) (s:σ) (hs:I s) (hk:μ s<=k):
  I (EJ (fun s=>l.foldl step s) k s)/\∀r∈l,step (EJ (fun s=>l.foldl step s) k s) r=EJ (fun s=>l.foldl step s) k s:=by
 have hround:=XU step μ I l h;have hit:=rT (fun s=>l.foldl step s) μ I (fun s hs=>⟨(hround s hs).1.imp (fun h=>h.1) id,(hround s hs).2⟩) k s hs hk;refine⟨hit.2,?_⟩
 rcases(hround _ hit.2).1 with⟨_,h1⟩ |h1
 ·exact h1
 ·have h2:List.foldl step (EJ (fun s=>l.foldl step s) k s) l=EJ (fun s=>l.foldl step s) k s:=hit.1
  rw[h2]at h1;omega
theorem MD {σ ρ:Type} (step:σ->ρ->σ) (I:σ->Prop) (l:List ρ) (h:∀s,I s->∀r∈l,I (step s r)) (k:Nat) (s:σ) (hs:I s):I (EJ (fun s=>l.foldl step s) k s):=
 rX _ I (fun s hs=>mQ step I l h s hs) k s hs
def bAt (l:List Bool) (n:Nat):Bool:=l.getD n false
theorem FM (l:List Bool) (n m:Nat) (b:Bool):bAt (l.set n b) m=if n=m/\n<l.length then b else bAt l m:=by
 unfold bAt;simp only[gD_,List.getElem?_set]
 by_cases h:n=m
 ·subst h
  by_cases hl:n<l.length
  ·simp[hl]
  ·simp[hl]
 ·simp[h]
theorem MN (k n:Nat):bAt (List.replicate k false) n=false:=by
 unfold bAt;rw[gD_,List.getElem?_replicate];split <;> rfl
def GR (l:List Bool):Nat:=(l.filter (· ==false)).length
theorem PJ (l:List Bool) (n:Nat):l.set n true=l\/GR (l.set n true)<GR l:=by
 induction l generalizing n with
 |nil=>left;rfl
 |cons b r ih=>
  cases n with
  |zero=>
   cases b
   ·right;simp[GR]
   ·left;rfl
  |succ n=>
   rw[List.set_cons_succ]
   rcases ih n with h |h
   ·left;rw[h]
   ·right
    unfold GR at h ⊢;cases b <;> simp <;> simpa using h
theorem RR (l:List Bool):GR l<=l.length:=List.length_filter_le _ _
def Lfp (C:(Nat->Bool)->Prop) (S:Nat->Bool):Prop:=C S/\∀T,C T->∀n,S n=true->T n=true
theorem Lfp.unique {C:(Nat->Bool)->Prop}{S:Nat->Bool} (h:Lfp C S) (k:Lfp C T):∀n,S n=T n:=by
 intro n;rw[Bool.eq_iff_iff];exact⟨h.2 T k.1 n,k.2 S h.1 n⟩
def JI (ps:List Pt) (ok:Nat->Bool) (tokens:Bool):Bool:=ps.all fun p=>match p with | .tok _=>tokens | .nam n=>ok n
theorem iC {ps:List Pt}{S:Nat->Bool}{b:Bool} (h:∀n,S n=true->T n=true) (he:JI ps S b=true):JI ps T b=true:=by
 unfold JI at*;rw[List.all_eq_true]at*;intro p hp;have:=he p hp;cases p with
 |tok t=>exact this
 |nam n=>exact h n this
def ON (N:NG) (tokens:Bool) (S:Nat->Bool):Prop:=∀r∈N.rules,JI r.2 S tokens=true->S r.1=true
def FT (tokens:Bool) (ok:List Bool) (r:Nat × List Pt):List Bool:=if JI r.2 (bAt ok) tokens then ok.set r.1 true else ok
def dO (N:NG) (tokens:Bool) (ok:List Bool):List Bool:=N.rules.foldl (FT tokens) ok
def BN (N:NG) (tokens:Bool):List Bool:=EJ (dO N tokens) (N.nN+1) (List.replicate N.nN false)
theorem NM {l m:List Bool} (h:l=m) (n:Nat):bAt l n=bAt m n:=by rw[h]
theorem LM (N:NG) (hN:N.Ok) (tokens:Bool):Lfp (ON N tokens) (bAt (BN N tokens))/\(BN N tokens).length=N.nN:=by
 have hstep:∀s:List Bool,s.length=N.nN->∀r∈N.rules,(FT tokens s r=s\/GR (FT tokens s r)<GR s)/\(FT tokens s r).length=N.nN:=by
  intro s hs r hr;unfold FT;split
  ·exact⟨PJ s r.1,by simpa using hs⟩
  ·exact⟨.inl rfl,hs⟩
 have hfix:=MA (FT tokens) GR (fun s=>s.length=N.nN) N.rules hstep (N.nN+1) (List.replicate N.nN false) (by simp) (by have:=RR (List.replicate N.nN false);simp at this;omega);have hlen:(BN N tokens).length=N.nN:=hfix.1;have hst:∀r∈N.rules,FT tokens (BN N tokens) r=BN N tokens:=hfix.2;refine⟨⟨?_,?_⟩,hlen⟩
 ·intro r hr he
  have h2:=hst r hr;unfold FT at h2;rw[if_pos he]at h2;have h3:=NM h2 r.1;rw[FM,if_pos ⟨rfl,by rw[hlen];exact hN.lt r hr⟩]at h3;exact h3.symm
 ·intro T hT
  refine MD (FT tokens) (fun s=>∀n,bAt s n=true->T n=true) N.rules (fun s hs r hr=>?_) _ _ (fun n h=>by rw[MN]at h;cases h);intro n hn;unfold FT at hn;split at hn
  ·rename_i he
   rw[FM]at hn;split at hn
   ·rename_i h1
    rw[<-h1.1];exact hT r hr (iC hs he)
   ·exact hs n hn
  ·exact hs n hn
def JU (ok:List Bool):List Pt->List Bool
 | []=>ok
 | .tok _::ps=>JU ok ps
 | .nam n::ps=>JU (ok.set n true) ps
def VU (N:NG) (S:Nat->Bool):Prop:=S 0=true/\∀r∈N.rules,S r.1=true->∀n,Pt.nam n∈r.2->S n=true
def FW (ok:List Bool) (r:Nat × List Pt):List Bool:=if bAt ok r.1 then JU ok r.2 else ok
def i7 (N:NG) (ok:List Bool):List Bool:=N.rules.foldl FW ok
def IP (N:NG):List Bool:=EJ (i7 N) (N.nN+1) ((List.replicate N.nN false).set 0 true)
theorem mZ (ps:List Pt):∀ok,(JU ok ps).length=ok.length:=by
 induction ps with
 |nil=>intro ok;rfl
 |cons p r ih=>intro ok;cases p <;> simp[JU,ih]
theorem XF (ps:List Pt):∀ok,(JU ok ps=ok/\∀n,Pt.nam n∈ps->n<ok.length->bAt ok n=true)\/GR (JU ok ps)<GR ok:=by
 induction ps with
 |nil=>intro ok;exact .inl ⟨rfl,fun n h=>by cases h⟩
 |cons p r ih=>
  intro ok;cases p with
  |tok t=>
   rcases ih ok with⟨h1,h2⟩ |h
   ·exact .inl ⟨h1,fun n h=>by rcases List.mem_cons.1 h with h |h;cases h;exact h2 n h⟩
   ·exact .inr h
  |nam n=>
   show(JU (ok.set n true) r=ok/\_)\/GR (JU (ok.set n true) r)<GR ok
   rcases PJ ok n with h0 |h0
   ·rw[h0]
    rcases ih ok with⟨h1,h2⟩ |h
    ·refine .inl ⟨h1,fun m h hm=>?_⟩
     rcases List.mem_cons.1 h with h |h
     ·injection h with h;subst h
      have:=NM h0 m;rw[FM,if_pos ⟨rfl,hm⟩]at this;exact this.symm
     ·exact h2 m h hm
    ·exact .inr h
   ·right
    rcases ih (ok.set n true)with⟨h1,_⟩ |h
    ·rw[h1];exact h0
    ·omega
theorem dR  (ps:List Pt):∀ok,(∀n,bAt ok n=true->T n=true)->(∀n,Pt.nam n∈ps->T n=true)->∀n,bAt (JU ok ps) n=true->T n=true:=by
 induction ps with
 |nil=>intro ok h _ n hn;exact h n hn
 |cons p r ih=>
  intro ok h hp;cases p with
  |tok t=>exact ih ok h (fun n hn=>hp n (List.mem_cons_of_mem _ hn))
  |nam m=>
   refine ih (ok.set m true) (fun n hn=>?_) (fun n hn=>hp n (List.mem_cons_of_mem _ hn));rw[FM]at hn;split at hn
   ·rename_i h1;rw[<-h1.1];exact hp m (List.mem_cons_self ..)
   ·exact h n hn
theorem VI (N:NG) (hN:N.Ok):Lfp (VU N) (bAt (IP N))/\(IP N).length=N.nN:=by
 have hstep:∀s:List Bool,(s.length=N.nN/\bAt s 0=true)->∀r∈N.rules,(FW s r=s\/GR (FW s r)<GR s)/\((FW s r).length=N.nN/\bAt (FW s r) 0=true):=by
  intro s hs r hr;unfold FW;split
  ·refine⟨(XF r.2 s).imp (fun h=>h.1) id,by rw[mZ];exact hs.1,?_⟩
   have:∀(ps:List Pt) (ok:List Bool),bAt ok 0=true->bAt (JU ok ps) 0=true:=by
    intro ps
    induction ps with
    |nil=>intro ok h;exact h
    |cons p q ih=>
     intro ok h;cases p with
     |tok t=>exact ih ok h
     |nam m=>
      refine ih _ ?_;rw[FM];split
      ·rfl
      ·exact h
   exact this r.2 s hs.2
  ·exact⟨.inl rfl,hs⟩
 have h0:((List.replicate N.nN false).set 0 true).length=N.nN/\bAt ((List.replicate N.nN false).set 0 true) 0=true:=by
  refine⟨by simp,?_⟩;rw[FM,if_pos ⟨rfl,by simpa using hN.pos⟩]
 have hfix:=MA FW GR (fun s=>s.length=N.nN/\bAt s 0=true) N.rules hstep (N.nN+1) _ h0 (by have:=RR ((List.replicate N.nN false).set 0 true);simp at this;omega);have hlen:(IP N).length=N.nN:=hfix.1.1;have hst:∀r∈N.rules,FW (IP N) r=IP N:=hfix.2;refine⟨⟨⟨hfix.1.2,?_⟩,?_⟩,hlen⟩
 ·intro r hr he n hn
  have h2:=hst r hr;unfold FW at h2;rw[if_pos he]at h2
  rcases XF r.2 (IP N)with h3 |h3
  ·exact h3.2 n hn (by rw[hlen];exact hN.pn r hr n hn)
  ·have h4:GR (JU (IP N) r.2)=GR (IP N):=congrArg GR h2
   omega
 ·intro T hT
  refine MD FW (fun s=>∀n,bAt s n=true->T n=true) N.rules (fun s hs r hr=>?_) _ _ (fun n h=>?_)
  ·intro n hn
   unfold FW at hn;split at hn
   ·rename_i he
    exact dR r.2 s hs (hT.2 r hr (hs _ he)) n hn
   ·exact hs n hn
  ·rw[FM]at h
   split at h
   ·rename_i h1;rw[<-h1.1];exact hT.1
   ·rw[MN]at h;cases h
end Go.Proofs.YtjjggdcnpndgjabGreatDoor
