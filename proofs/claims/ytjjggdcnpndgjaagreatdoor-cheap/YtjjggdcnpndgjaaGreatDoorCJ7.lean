import Derived.Test.YtjjggdcnpndgjaaGreatDoorCJ6
set_option linter.unusedSimpArgs false
set_option maxHeartbeats 2000000
set_option maxRecDepth 100000
namespace Go.Proofs.YtjjggdcnpndgjaaGreatDoor
abbrev lu:=@List.length_drop
abbrev nj:=@List.getElem?_replicate
abbrev uo:=@Nat.add_assoc
abbrev vk:=@List.set_cons_succ
abbrev vw:=@List.getElem?_set
abbrev xe:=@Prod.ext
abbrev yF:=@List.filter_eq_nil_iff
abbrev yJ:=@List.filter_cons
abbrev zj:=@List.drop_drop
open Go.RowKit
variable {G:Gr}{T:Nat->Bool}{a b n r t:Nat}{f:ByteArray->Int}{l ws:List ByteArray}{ls:List (Nat × List ByteArray)}{w:World}{x:Nat × List ByteArray}
def tJ (o:Option Nat):Int:=match o with |some a=>(a:Int) |none=> -1
def OC (P:List Ln):Nat:=(P.filter λx=>x.2.1==2).length
theorem nV {m:Int}{lg:Nat} (M:Option Nat) (hm:m= -1\/0<=m):
  ((if(if 20<t\/20<n\/60<r\/8<lg then(4:Int)else 0)=4/\m<0 then(a:Int)else m)= -1/\¬(20<t\/20<n\/60<r)\/0<=(if(if 20<t\/20<n\/60<r\/8<lg then(4:Int)else 0)=4/\m<0 then(a:Int)else m))/\
  (if 0<=(if(if 20<t\/20<n\/60<r\/8<lg then(4:Int)else 0)=4/\m<0 then(a:Int)else m)then(if(if 20<t\/20<n\/60<r\/8<lg then(4:Int)else 0)=4/\m<0 then(a:Int)else m)else tJ M)=
   if 0<=m then m else tJ (if 20<t\/20<n\/60<r\/8<lg then some a else M):=by
 by_cases hC:20<t\/20<n\/60<r\/8<lg
 ·simp only[ay hC]
  by_cases hm0:m<0
  ·rw[ay (by simpa using hm0),aq (show ¬0<=m by omega)]
   exact⟨.inr (by omega),by rw[ay (by omega)];rfl⟩
  ·rw[aq (λh=>hm0 h.2)]
   exact⟨.inr (by omega),by rw[ay (by omega),ay (by omega)]⟩
 ·simp only[aq hC]
  rw[aq (λh=>absurd h.1 (by decide))];refine⟨?_,rfl⟩
  rcases hm with h |h
  ·exact .inl ⟨h,λh'=>hC (by omega)⟩
  ·exact .inr h
theorem KM  (h:x.2.length=1):AK (x::ls)=AK ls:=by
 unfold AK;simp[h]
theorem MJ  (h:¬x.2.length=1):AK (x::ls)=(x.1,AZ x.2,x.2)::AK ls:=by
 unfold AK;simp[h]
theorem SX (y:Ln) (P:List Ln):AM (y::P)=(if(BI y.2.1 y.2.2).toList.isEmpty then []else [BI y.2.1 y.2.2])++AM P:=by
 unfold AM;rw[jx,yJ];cases(BI y.2.1 y.2.2).toList.isEmpty <;> simp
theorem oY (y:Ln) (P:List Ln):OC (y::P)=(if y.2.1=2 then 1 else 0)+OC P:=by
 unfold OC;rw[yJ]
 by_cases h:y.2.1=2
 ·simp[h];omega
 ·simp[h]
theorem FF  (h:AX l=true) (h1:¬l.length=1) {k:Nat} (hk:AZ l=k):
  match k with
  |0=>((nth l 0).toList== [116,111,107,101,110])=true
  |1=>((nth l 0).toList== [116,111,107,101,110])=false/\((nth l 0).toList== [115,119,97,112])=true
  |_=>((nth l 0).toList== [116,111,107,101,110])=false/\((nth l 0).toList== [115,119,97,112])=false/\((nth l 0).toList== [114,117,108,101])=true:=by
 have key:(AZ l=0/\((nth l 0).toList== [116,111,107,101,110])=true)\/(AZ l=1/\((nth l 0).toList== [116,111,107,101,110])=false/\((nth l 0).toList== [115,119,97,112])=true)\/
   (AZ l=2/\((nth l 0).toList== [116,111,107,101,110])=false/\((nth l 0).toList== [115,119,97,112])=false/\((nth l 0).toList== [114,117,108,101])=true):=by
  unfold AX at h;rw[aq h1]at h;unfold AZ;cases ht:((nth l 0).toList== [116,111,107,101,110])
  ·cases hw:((nth l 0).toList== [115,119,97,112])
   ·cases hr:((nth l 0).toList== [114,117,108,101])
    ·rw[ht,hw,hr]at h;simp at h
    ·exact .inr (.inr ⟨rfl,rfl,rfl,rfl⟩)
   ·exact .inr (.inl ⟨rfl,rfl,rfl⟩)
  ·exact .inl ⟨rfl,rfl⟩
 rcases key with⟨e,a⟩ | ⟨e,a⟩ | ⟨e,a⟩ <;> (rw[hk]at e;subst e;exact a)
def XM (P:List Ln) (ws:List ByteArray) (t n r:Nat) (m:Int) (res:Gr × Int × Option Nat):Prop:=
 (∀a,res.2.2=some a->D3 P ws=some a)/\
 (res.2.2=none->D3 P ws=none/\res.2.1=(if 0<=m then m else tJ (CK P t n r))/\∃t' r',Inv res.1 (ws++AM P) t' (n+OC P) r')
theorem RZ {P:List Ln}{G1:Gr}{m:Int}{t1 n1 r1 lg:Nat}{ws1:List ByteArray}{y:Ln} (hm:m= -1\/0<=m) (hg:DI G x.2=(G1,if 20<t1\/20<n1\/60<r1\/8<lg then 4 else 0))
  (Cs:ws1=ws++(if(BI y.2.1 y.2.2).toList.isEmpty then []else [BI y.2.1 y.2.2])) (hn1:n1=n+if y.2.1=2 then 1 else 0)
  (Pg:D3 (y::P) ws=D3 P ws1) (hmn:CK (y::P) t n r=if 20<t1\/20<n1\/60<r1\/8<lg then some x.1 else CK P t1 n1 r1)
  (ih:∀m1:Int,(m1= -1/\¬(20<t1\/20<n1\/60<r1)\/0<=m1)->XM P ws1 t1 n1 r1 m1 (EI ls G1 m1)):XM (y::P) ws t n r m (EI (x::ls) G m):=by
 have hs:=nV (a:=x.1) (t:=t1) (n:=n1) (r:=r1) (lg:=lg) (CK P t1 n1 r1) hm;have e3:¬(if 20<t1\/20<n1\/60<r1\/8<lg then(4:Int)else 0)=3:=by split <;> decide
 have ep:EI (x::ls) G m=EI ls G1 (if(if 20<t1\/20<n1\/60<r1\/8<lg then(4:Int)else 0)=4/\m<0 then(x.1:Int)else m):=by
  rw[EI,hg,aq e3]
 have h:=ih _ hs.1;rw[<-ep]at h;refine⟨λa ha=>by rw[Pg];exact h.1 a ha,λho=>?_⟩;obtain⟨h1,h2,t',r',h3⟩:=h.2 ho;refine⟨by rw[Pg];exact h1,?_,t',r',?_⟩
 ·rw[h2,hs.2,hmn]
 ·rw[SX,oY,<-aA,<-Cs,<-uo,<-hn1]
  exact h3
theorem Mz8 {P:Prop} (h:P:=by
  have ep:EI (x::ls) G m=(G,m,some x.1):=by rw[EI,ay h3]
  rw[ep];refine⟨λa ha=>?_,λh=>(by cases h)⟩;rw[D3,aq (by rw[Ma,hne];decide),ay (by rw[Ma];exact hc)];exact ha):P:=h
theorem KZ:∀(ls:List (Nat × List ByteArray)) (G:Gr) (m:Int) (t n r:Nat) (ws:List ByteArray),(∀x∈ls,AX x.2=true)->Inv G ws t n r->(m= -1/\¬(20<t\/20<n\/60<r)\/0<=m)->
  XM (AK ls) ws t n r m (EI ls G m)
 | [],G,m,t,n,r,ws,_,hI,hm=>by
  refine⟨λa h=>(by cases h),λ_=>⟨rfl,?_,t,r,by simpa[AK,AM,OC,EI] using hI⟩⟩
  rcases hm with h |h
  ·rw[aq (by omega)];exact h.1
  ·rw[ay h];rfl
 |x::ls,G,m,t,n,r,ws,hall,hI,hm=>by
  have hx:=hall x (by simp);have Ja:∀y∈ls,AX y.2=true:=λy hy=>hall y (by simp[hy])
  have hm':m= -1\/0<=m:=hm.imp (λh=>h.1) id
  by_cases h1:x.2.length=1
  ·have hs:=VZ hI hx h1
   rw[KM h1];have e3:¬(DI G x.2).2=3:=by rw[hs.2];split <;> decide
   have em:(if(DI G x.2).2=4/\m<0 then(x.1:Int)else m)=m:=by
    rcases hm with h |h
    ·rw[hs.2,aq h.2,aq (λh'=>absurd h'.1 (by decide))]
    ·rw[aq (λh'=>by omega)]
   have ep:EI (x::ls) G m=EI ls G m:=by
    rw[EI,aq e3,em,hs.1]
   rw[ep];exact KZ ls G m t n r ws Ja hI hm
  ·rw[MJ h1]
   rcases LB hx h1 with⟨hsh,hlen,htk⟩ | ⟨hsh,hlen,htk,_⟩ | ⟨hsh,hlen,hnm,_⟩
   ·have hne:(nth x.2 1).toList.isEmpty=false:=SG htk
    have h0:=FF hx h1 hsh;have Ma:BI 0 x.2=nth x.2 1:=rfl;rw[hsh]
    rcases aI hI h0 htk with⟨hc,h3⟩ | ⟨hc,Jb,h4⟩
    ·exact Mz8
    ·exact RZ (lg:=0) hm' (xe rfl h4) (by rw[Ma,aq (by rw[hne];decide)]) rfl
      afy rfl (λm1 h=>KZ ls _ m1 _ _ _ _ Ja Jb h)
   ·have h0:=FF hx h1 hsh
    have Ma:BI 1 x.2=ByteArray.empty:=rfl;have afM:ByteArray.empty.toList.isEmpty=true:=by rw[jl];rfl
    rw[hsh];have hs:=YT hI h0.1 h0.2;exact RZ (lg:=0) hm' (xe rfl hs.2) (by rw[Ma,ay afM,fy]) rfl
     (by rw[D3,ay (by rw[Ma];exact afM)]) rfl (λm1 h=>KZ ls _ m1 _ _ _ _ Ja hs.1 h)
   ·have hne:(nth x.2 1).toList.isEmpty=false:=SG hnm
    have h0:=FF hx h1 hsh;have Ma:BI 2 x.2=nth x.2 1:=rfl;rw[hsh]
    rcases ZH hI h0.1 h0.2.1 h0.2.2 hnm with⟨hc,h3⟩ | ⟨hc,Jb,h4⟩
    ·exact Mz8
    ·exact RZ (lg:=EA (AE x.2)) hm' (xe rfl h4) (by rw[Ma,aq (by rw[hne];decide)]) rfl
      afy rfl (λm1 h=>KZ ls _ m1 _ _ _ _ Ja Jb h)
theorem Inv.afN  (h:Inv G ws t n r) (u:ByteArray):(cnt ws u==0)=(!DC G.toks u&& !D0 G.names u):=by
 rw[ow];have:=h.has u;simp only[kr,gz,Bool.not_eq_true'];constructor
 ·intro h0
  constructor
  ·cases hq:DC G.toks u
   ·rfl
   ·have:=this.1 (.inl hq);omega
  ·cases hq:D0 G.names u
   ·rfl
   ·have:=this.1 (.inr hq);omega
 ·rintro⟨h1,h2⟩
  cases hc:cnt ws u with
  |zero=>rfl
  |succ k=>
   have:=this.2 (by omega);rw[h1,h2]at this;simp at this
theorem dK  (h:Inv G ws t n r) {u:ByteArray} (hu:DZ u=true):(cnt ws u==0)= !DC G.toks u:=by
 rw[h.afN,h.aaW hu];simp
theorem sK  (h:Inv G ws t n r)  (hl:AX l=true) (h1:¬l.length=1):
  FB ws (a,AZ l,l)=FZ G l:=by
 rcases LB hl h1 with⟨hsh,_,_⟩ | ⟨hsh,_,Gq,Jc⟩ | ⟨hsh,_,_,_⟩
 ·have h0:=FF hl h1 hsh
  have e:(nth l 0).toList=[116,111,107,101,110]:=by simpa using h0
  unfold FB FZ I3;simp only[hsh,e];rfl
 ·have h0:=FF hl h1 hsh
  unfold FB FZ I3;rw[ay h0.2];simp only[hsh];simp only[beq_self_eq_true,yH,xZ,List.any_cons,List.any_nil,Bool.or_false];rw[dK h Gq,dK h Jc]
  generalize DC G.toks (nth l 1)=b1
  generalize DC G.toks (nth l 2)=b2
  generalize ((nth l 1).toList==(nth l 2).toList)=b3
  revert b1 b2 b3;decide
 ·have h0:=FF hl h1 hsh
  have eR:FZ G l=(l.drop 3).any (rT G):=by
   unfold FZ;rw[aq (by rw[h0.2.1];decide),ay h0.2.2]
  have eL:FB ws (a,AZ l,l)=((l.drop 3).filter λx=> !IL x).any λu=>cnt ws u==0:=by
   unfold FB I3;rw[hsh,<-PZ];rfl
  rw[eL,eR,List.any_filter]
  congr 1
  funext x
  unfold rT;rw[h.afN]
theorem eW  (hl:AX l=true) (h1:l.length=1):FZ G l=false:=by
 unfold AX at hl;rw[ay h1]at hl;have e:(nth l 0).toList=[]:=by simpa using hl
 unfold FZ;rw[e];rfl
theorem ZB {G:Gr}{ws:List ByteArray}{t n r:Nat} (h:Inv G ws t n r):∀(ls:List (Nat × List ByteArray)),(∀x∈ls,AX x.2=true)->
  FD ws (AK ls)=(ls.find? λx=>FZ G x.2).map (·.1)
 | [],_=>rfl
 |x::ls,hall=>by
  have hx:=hall x (by simp);have ih:=ZB h ls (λy hy=>hall y (by simp[hy]))
  by_cases h1:x.2.length=1
  ·rw[KM h1,ih,List.find?_cons_of_neg (by rw[eW hx h1];decide)]
  ·rw[MJ h1]
   have e:=sK h (a:=x.1) hx h1;unfold FD;rw[e];cases hq:FZ G x.2
   ·rw[aq (by decide),ih,List.find?_cons_of_neg (by rw[hq];decide)]
   ·rw[ay rfl,List.find?_cons_of_pos (p:=λy=>FZ G y.2) (a:=x) hq];rfl
theorem qW (P:List Ln):(P.any λx=>x.2.1==2)=decide (¬OC P=0):=by
 unfold OC;rw[ow,qb,ir];constructor
 ·rintro⟨x,hx,h⟩ h0
  rw[List.length_eq_zero_iff,yF]at h0;exact h0 x hx h
 ·intro h0
  have:0< (P.filter λx=>x.2.1==2).length:=by omega
  obtain⟨x,hx⟩:=List.length_pos_iff_exists_mem.1 this;rw[ni]at hx;exact⟨x,hx.1,hx.2⟩
theorem RC (s:ByteArray):ES s=((I0 s).1,(I0 s).2.1):=by
 unfold ES I0
 by_cases h1:4000<s.size
 ·rw[ay h1,ay h1]
 ·rw[aq h1,aq h1]
  by_cases h2:(AL s 0).2<s.size
  ·rw[ay h2,ay h2]
  ·rw[aq h2,aq h2]
   have hall:∀x∈(AL s 0).1,AX x.2=true:=λx hx=>(PA s _ _ x hx).2
   have hI:Inv G0 [] 0 0 0:=⟨λu=>by simp[DC,D0,G0,cnt],λx hx=>by simp[G0]at hx,λx hx=>by simp[G0]at hx,rfl,rfl,rfl⟩;have hS:=KZ (AL s 0).1 G0 (-1) 0 0 0 [] hall hI (.inl ⟨rfl,by omega⟩)
   rcases hp:EI (AL s 0).1 G0 (-1)with⟨G,m,o⟩
   rw[hp]at hS;cases o with
   |some a=>rw[hS.1 a rfl]
   |none=>
    obtain⟨ht,hm,t',r',hI'⟩:=hS.2 rfl;simp only[ey,ju]at hI' hm;rw[aq (by decide)]at hm;rw[ht];cases hM:CK (AK (AL s 0).1) 0 0 0 with
    |some a=>
     rw[hM]at hm;have hm':m=(a:Int):=hm;simp only[hm'];rw[ay (by omega)]
    |none=>
     rw[hM]at hm;have hm':m= -1:=hm;simp only[hm'];have e0:¬(0:Int)<= -1:=by decide
     rw[aq e0,qW];have hn:=hI'.nn
     by_cases h0:OC (AK (AL s 0).1)=0
     ·rw[ay (show G.names.length=0 by omega),aq (show ¬decide (¬OC (AK (AL s 0).1)=0)=true by simp[h0])]
     ·rw[aq (show ¬G.names.length=0 by omega),ay (show decide (¬OC (AK (AL s 0).1)=0)=true by simp[h0])]
      rw[ZB hI' _ hall];cases hf:(AL s 0).1.find? λx=>FZ G x.2 <;> rfl
def BW:List (List UInt8)->List UInt8
 | []=>[]
 | [w]=>w
 |w::v::r=>w++32::BW (v::r)
theorem aS {a b:ByteArray} (h:a.data.toList=b.data.toList):a=b:=by
 apply ByteArray.ext;exact yI.1 h
theorem UC:∀(l:List UInt8) (d:List ByteArray) (c:ByteArray),(∀b∈l,b≠32)->l.foldl EN (d,c)=(d,⟨(c.data.toList++l).toArray⟩)
 | [],d,c,_=>by simp
 |b::l,d,c,h=>by
  rw[lz];have hb:b≠32:=h b (by simp);have e:EN (d,c) b=(d,c++⟨#[b]⟩):=by unfold EN;rw[aq hb]
  rw[e,UC l d _ (λx hx=>h x Lz)]
  congr 1
  apply aS;have e2:(c++(⟨#[b]⟩:ByteArray)).data.toList=c.data.toList++ [b]:=by simp
  rw[e2];simp
theorem bB:∀(ws:List (List UInt8)) (d:List ByteArray),ws≠ []->(∀w∈ws,∀b∈w,b≠32)->
  ((BW ws).foldl EN (d,ByteArray.empty)).1++ [((BW ws).foldl EN (d,ByteArray.empty)).2]=d++ws.map λw=>⟨w.toArray⟩
 | [],d,h,_=>absurd rfl h
 | [w],d,_,h=>by
  show(w.foldl EN (d,ByteArray.empty)).1++ [(w.foldl EN (d,ByteArray.empty)).2]=_;rw[UC w d _ (h w (by simp))];simp
 |w::v::r,d,_,h=>by
  have hw:=UC w d ByteArray.empty (h w (by simp));have e0:ByteArray.empty.data.toList++w=w:=by simp
  rw[e0]at hw;have e:(BW (w::v::r)).foldl EN (d,ByteArray.empty)=(BW (v::r)).foldl EN (d++ [⟨w.toArray⟩],ByteArray.empty):=by
   show(w++32::BW (v::r)).foldl EN _=_;rw[ux,hw,lz]
   congr 1
  rw[e,bB (v::r) _ (by simp) (λx hx=>h x Lz)];simp
theorem jB (ws:List (List UInt8)) (h0:ws≠ []) (h:∀w∈ws,∀b∈w,b≠32):AF ⟨(BW ws).toArray⟩=ws.map λw=>⟨w.toArray⟩:=by
 have:=bB ws [] h0 h;unfold AF Qy;simpa using this
def M6 (ls:List (List UInt8)):List UInt8:=ls.flatMap λl=>l++ [10]
theorem ZR {l r:List UInt8} (h:∀b∈l,b≠10):(l++10::r).findIdx? (· ==10)=some l.length:=by
 rw[pz];refine⟨by simp,by simp,λj hj=>?_⟩;rw[List.getElem_append_left hj];have:=h _ (ot hj);simpa using this
theorem rX {s:ByteArray}{l r:List UInt8} (hd:s.data.toList.drop a=l++10::r) (h:∀b∈l,b≠10):C3 s a=(⟨l.toArray⟩,((a+l.length+1:Nat):Int)):=by
 unfold C3;rw[hd,ZR h];simp only
 congr 1
 apply aS;have:(s.extract a (a+l.length)).data.toList=(s.data.toList.drop a).take l.length:=by
  simp[yE]
 rw[this,hd];simp
def QW:List (List UInt8)->Nat->List Nat
 | [],_=>[]
 |l::r,a=>a::QW r (a+l.length+1)
theorem VC (s:ByteArray):∀(ls:List (List UInt8)) (a:Nat),s.data.toList.drop a=M6 ls->a<=s.size->(∀l∈ls,(∀b∈l,b≠10)/\AX (AF ⟨l.toArray⟩)=true)->
  AL s a=((QW ls a).zip (ls.map λl=>AF ⟨l.toArray⟩),s.size)
 | [],a,hd,ha,_=>by
  have hl:s.data.toList.length=s.size:=by simp
  have h0:¬a<s.size:=by
   intro h;have:=congrArg List.length hd;simp[M6]at this;omega
  rw[YZ h0];show(_,a)=(_,s.size);rw[show a=s.size by omega];rfl
 |l::ls,a,hd,ha,h=>by
  have hl:s.data.toList.length=s.size:=by simp
  have hc:M6 (l::ls)=l++10::M6 ls:=by unfold M6;simp
  rw[hc]at hd;have hlen:=congrArg List.length hd;simp only[lu,hl,lA,lC]at hlen;obtain⟨h1,h2⟩:=h l (by simp);have Fg:=rX hd h1;have hd2:s.data.toList.drop (a+l.length+1)=M6 ls:=by
   have:s.data.toList.drop (a+l.length+1)=(s.data.toList.drop a).drop (l.length+1):=by rw[zj];rfl
   rw[this,hd];simp[List.drop_append]
  have ih:=VC s ls (a+l.length+1) hd2 (by omega) (λx hx=>h x Lz);rw[UX (by omega) (by rw[Fg];simp;omega) (by rw[Fg];exact h2),Fg];simp only[ug];rw[ih];simp[QW]
section
open Go.RowKit Go.WideMaps Go.Maps
def Q3 (v:Value):Option (DataW Unit × List MemPlace):=
 match v with
 | .agg cs=>match cs.toList with
  | [.bool b,.int .i64 n]=>some (.lit (.int .i64 (2*n+if b then 1 else 0)),[])
  |_=>none
 |_=>none
theorem o5 {v:Value}{c:Int}{ps:List MemPlace} (h:Q3 v=some (.lit (.int .i64 c),ps)):v=.agg #[.bool (decide (c % 2=1)),ab (c / 2)]:=by
 unfold Q3 at h;split at h
 ·rename_i cs
  split at h
  ·rename_i b n hcs
   simp only[uf,Prod.mk.injEq,DataW.lit.injEq,Lit.int.injEq,true_and]at h;obtain⟨h1,_⟩:=h;have h2:cs= #[.bool b,ab n]:=yI.1 hcs;rw[h2];cases b
   ·have e1:decide (c % 2=1)=false:=gy (by simp at h1;omega)
    have e2:c / 2=n:=by simp at h1;omega
    rw[e1,e2]
   ·have e1:decide (c % 2=1)=true:=iz (by simp at h1;omega)
    have e2:c / 2=n:=by simp at h1;omega
    rw[e1,e2]
  ·cases h
 ·cases h
def EX:List Ln->Nat->Nat->(ByteArray->Int)->ByteArray->Int
 | [],_,_,f=>f
 |x::r,t,n,f=>if x.2.1=0 then EX r (t+1) n (λs=>if EQ (BI 0 x.2.2) s=true then 2*(t:Int)else f s)
  else if x.2.1=2 then EX r t (n+1) (λs=>if EQ (BI 2 x.2.2) s=true then 2*(n:Int)+1 else f s)else EX r t n f
def EW (w:World) (b n:Nat) (f:ByteArray->Int):Prop:=∃D:DataW Unit,w.ownsMap Tryz.prog 9 Q3 b n D/\IsMap D/\∀s:ByteArray,D.atKey (.string s.data.toList) (.lit (.int .i64 0))=.lit (.int .i64 (f s))
theorem EW.block {w':World} (h:EW w b n f) (hb:w'.heap[b]?=w.heap[b]?):EW w' b n f:=by
 obtain⟨D,hown,h2,h3⟩:=h;obtain⟨es,clock,h4,h5⟩:=hown;exact⟨D,⟨es,clock,hb.trans h4,h5⟩,h2,h3⟩
theorem EW.lt  (h:EW w b n f):b<w.heap.size:=by
 obtain⟨D,hown,_⟩:=h;exact hown.lt
theorem EW.below {w':World} (h:EW w b n f) (hb:Below w.heap.size w w'):EW w' b n f:=h.block (hb.block b h.lt)
theorem uW {D:DataW Unit} (hm:IsMap D) (h:∀s:ByteArray,D.atKey (.string s.data.toList) (.lit (.int .i64 0))=.lit (.int .i64 (f s))) (x:ByteArray) (c:Int):
  ∀s:ByteArray,(D.put (.string x.data.toList) (.lit (.int .i64 c))).atKey (.string s.data.toList) (.lit (.int .i64 0))=.lit (.int .i64 (if EQ x s=true then c else f s)):=by
 intro s
 by_cases e:x.data.toList=s.data.toList
 ·rw[<-e,atKey_put_same hm (by trivial),ay (show EQ x s=true from iz e)]
 ·rw[atKey_put_other (λh=>e (by injection h with h;exact h.symm)),h s,aq (λh:EQ x s=true=>e (kg h))]
theorem sB {ls:List Ln}{k:Nat}{x:Ln} (hx:ls[k]?=some x) (t n:Nat) (f:ByteArray->Int):EX (ls.drop k) t n f=if x.2.1=0 then EX (ls.drop (k+1)) (t+1) n (λs=>if EQ (BI 0 x.2.2) s=true then 2*(t:Int)else f s)
  else if x.2.1=2 then EX (ls.drop (k+1)) t (n+1) (λs=>if EQ (BI 2 x.2.2) s=true then 2*(n:Int)+1 else f s)else EX (ls.drop (k+1)) t n f:=by
 obtain⟨hk,rfl⟩:=zM.1 hx;rw[gm hk];rfl
theorem Tryz.zeroPart (w:World):(zeroValue 235).run Tryz.prog w=.ok (.agg #[.bool false,ab 0]) w:=by kernel_rfl
theorem EW.look  (h:EW w b n f) (s:ByteArray) (hs:s.size<=maxLen):(Instr.lookup 322 (.map (some b)) (.string s) false).run Tryz.prog w=.ok (.agg #[.bool (decide (f s % 2=1)),ab (f s / 2)]) w:=by
 obtain⟨D,hown,_,hat⟩:=h;obtain⟨v,ps,hrun,hR⟩:=hown.lookup Tryz.lawStr Tryz.underlying322 (Tryz.zeroPart w) (zd:=.lit (.int .i64 0)) (zp:=[]) rfl (keyOf_string_mk Tryz.underlying9 hs);rw[hat s]at hR;rw[hrun,o5 hR]
theorem eA (v:Value) (ls:List Ln) (pv:List Value) (B:Nat) (w:World) (hV:Bv w B v ls pv) (hok:LN ls):
  Calls Tryz.prog 199 #[v] w λe w'=>e=.returned (.map (some w.heap.size))/\EW w' w.heap.size ls.length (EX ls 0 0 (λ_=>0))/\Below w.heap.size w w':=by
 have Rc:= @run_makeMap Tryz.prog
 rcases hV.form with⟨rfl,rfl⟩ | ⟨g,cap,rfl,hnc,hg⟩
 ·have HB:Hid (Below w.heap.size w (w.alloc (.map #[] 0))):=hid ((ah _ _).alloc (zn _) _)
  have HM:Hid (EW (w.alloc (.map #[] 0)) w.heap.size 0 (λ_=>0)):=hid ⟨_,yx _ _ _ _,isMap_empty,λs=>rfl⟩;clear hV hok
  go_enter Tryz.func199,Tryz.ntmps199
  go_wp2;clear Rc
  go_loopw [11] (λi wr=>i=ab 0/\Hid (EW wr w.heap.size 0 (λ_=>0))/\Hid (Below w.heap.size w wr)) (λi _=>0)
  case atStart=>exact⟨rfl,HM,HB⟩
  case round=>
   obtain⟨rfl,hm,hbr⟩:=hrel;go_wp2;go_ret;exact⟨rfl,hm.out,hbr.out⟩
 ·obtain⟨n,hN⟩:=qF (ls.length)
  have hn:=hok.len;rw[<-hN]at hn hnc hV ⊢;have HN:Hid (n=ls.length):=hid hN;have HV:=hid hV;have Bq:=hid hok;have HB:Hid (Below w.heap.size w (w.alloc (.map #[] 0))):=hid ((ah _ _).alloc (zn _) _);have HM:Hid (EW (w.alloc (.map #[] 0)) w.heap.size 0 (λ_=>0)):=hid ⟨_,yx _ _ _ _,isMap_empty,λs=>rfl⟩;clear hN hV hok
  go_enter Tryz.func199,Tryz.ntmps199
  go_wp2;clear Rc
  go_loopw [4,5,11] (λa b i wr=>∃(k t m:Nat) (f:ByteArray->Int),k<=n/\t<=k/\m<=k/\i=ab k/\a=ab t/\b=ab m/\Hid (EX ls 0 0 (λ_=>0)=EX (ls.drop k) t m f)/\Hid (EW wr w.heap.size k f)/\Hid (Below w.heap.size w wr)) (λ_ _ i _=>n - (intOf i).toNat)
  case atStart=>exact⟨0,0,0,_,by omega,by omega,by omega,rfl,rfl,rfl,rfl,HM,HB⟩
  case round=>
   clear HM HB;obtain⟨k,t,m,f,hk,htk,hmk,rfl,rfl,rfl,ht,hm,hbr⟩:=hrel;have hsz:=hbr.out.size
   by_cases hlt:k<n
   ·obtain⟨x,hx⟩:∃x,ls[k]?=some x:=⟨_,gE La⟩
    have Eg:=Bq.out.ok x (mG hx);have hxs:=Bq.out.gsz x (mG hx);have hx2:=Bq.out.sh x (mG hx);have hT:=sB hx t m f;obtain⟨p,hp,Dz,k0,k1,k2⟩:=(HV.out.below hbr.out).at hx;obtain⟨at_,sh,l⟩:=x;simp only at k0 k1 k2 hT Dz hxs hx2;have hgr:g<wr.heap.size:=lL hg hsz;have Ju:=hid Dz;obtain⟨gw,q,qc,ad,cs,rfl,_⟩:=Dz;have zL:Hid (Below w.heap.size w (wr.alloc (.cells #[ab at_,ab sh,.slice ad q qc] 325))):=hid (hbr.out.alloc hsz _);have Cy:Hid (Below wr.heap.size wr (wr.alloc (.cells #[ab at_,ab sh,.slice ad q qc] 325))):=hid ((ah _ _).alloc (zn _) _);obtain⟨wd,hwd⟩:=qE (BI sh l);have cG:=QV at_ sh (.slice ad q qc) l _ (Ju.out.below Cy.out) adN Eg.2;rw[hwd]at cG hxs;have CG:=hid cG;have HT:=hid (ht.out.trans hT);obtain⟨D,hown,hD,hat⟩:=hm.out;have hkey:keyOf Tryz.prog 9 (.string wd)=some (.string wd.data.toList):=keyOf_string_mk Tryz.underlying9 Bg
    have Na:=hid hkey;have Vq:=hid hown;have afO:=hid λc=>uW hD hat wd c
    have Yv:Hid (∀c:Int,IsMap (D.put (.string wd.data.toList) (.lit (.int .i64 c)))):=hid λc=>hD.put _ _
    have Le:=hid hwd;clear hp hx Eg ht hT cG hwd hat hD hown hkey hxs;have hk4:k<4000:=by omega
    have ah8:=Vq.out.lt;have adY:sh=0\/sh=1\/sh=2:=by omega
    clear hx2
    rcases adY with rfl |rfl |rfl
    ·have HE:Hid (EX ls 0 0 (λ_=>0)=EX (ls.drop (k+1)) (t+1) m (λs=>if EQ wd s=true then 2*(t:Int)else f s)):=hid (by rw[HT.out,ay rfl,Le.out])
     go_wp2_with (first
      | (go_at_call 210;refine CG.out.mono ?_;rintro e w2 ⟨rfl,hb2⟩;have Yx:Hid (Below w.heap.size w w2):=hid (zL.out.trans (hb2.mono zL.out.size));have Iz:w2.ownsMap Tryz.prog 9 Q3 w.heap.size k D:=afx;have HO2:=hid Iz;clear Iz hb2)
      | (at_mapUpdate;refine wm _ rfl _ _ _ 322 rfl 9 235 Tryz.lawStr Tryz.underlying322 Q3 w.heap.size k _ rfl HO2.out Bg _ _ _ rfl rfl Na.out (.lit (.int .i64 (2*(t:Int)+if false=true then 1 else 0))) [] rfl ?_))
     intro w3 Ad Ae;have Ap:Hid (Below w.heap.size w w3):=hid (Yx.out.grown Ae Yx.out.size (λj hj=>by cases hj;exact zn _));have Ua:Hid (EW w3 w.heap.size (k+1) (λs=>if EQ wd s=true then 2*(t:Int)else f s)):=hid ⟨_,Ad,Yv.out _,afO.out _⟩;clear Ad Ae;go_wp2
     go_roundw
     case rel=>exact⟨k+1,t+1,m,_,by omega,by omega,by omega,by go_num,by go_num,by go_num,HE,Ua,Ap⟩
     case measure=>simp[intOf];omega
    ·have HE:Hid (EX ls 0 0 (λ_=>0)=EX (ls.drop (k+1)) t m f):=hid (by rw[HT.out,aq (by decide),aq (by decide)])
     go_wp2
     go_roundw
     case rel=>exact⟨k+1,t,m,f,by omega,by omega,by omega,by go_num,rfl,rfl,HE,hid (by have h1:=hm.out.below Cy.out;obtain⟨D',⟨es,clock,h4,h5,h6,h7⟩,h2,h3⟩:=h1;exact⟨D',⟨es,clock,h4,h5,by omega,h7⟩,h2,h3⟩),zL⟩
     case measure=>simp[intOf];omega
    ·have HE:Hid (EX ls 0 0 (λ_=>0)=EX (ls.drop (k+1)) t (m+1) (λs=>if EQ wd s=true then 2*(m:Int)+1 else f s)):=hid (by rw[HT.out,aq (by decide),ay rfl,Le.out])
     go_wp2_with (first
      | (go_at_call 210;refine CG.out.mono ?_;rintro e w2 ⟨rfl,hb2⟩;have Yx:Hid (Below w.heap.size w w2):=hid (zL.out.trans (hb2.mono zL.out.size));have Iz:w2.ownsMap Tryz.prog 9 Q3 w.heap.size k D:=afx;have HO2:=hid Iz;clear Iz hb2)
      | (at_mapUpdate;refine wm _ rfl _ _ _ 322 rfl 9 235 Tryz.lawStr Tryz.underlying322 Q3 w.heap.size k _ rfl HO2.out Bg _ _ _ rfl rfl Na.out (.lit (.int .i64 (2*(m:Int)+if true=true then 1 else 0))) [] rfl ?_))
     intro w3 Ad Ae;have Ap:Hid (Below w.heap.size w w3):=hid (Yx.out.grown Ae Yx.out.size (λj hj=>by cases hj;exact zn _));have Ua:Hid (EW w3 w.heap.size (k+1) (λs=>if EQ wd s=true then 2*(m:Int)+1 else f s)):=hid ⟨_,Ad,Yv.out _,afO.out _⟩;clear Ad Ae;go_wp2
     go_roundw
     case rel=>exact⟨k+1,t,m+1,_,by omega,by omega,by omega,by go_num,by go_num,by go_num,HE,Ua,Ap⟩
     case measure=>simp[intOf];omega
   ·have HE:Hid (EX ls 0 0 (λ_=>0)=f):=hid (by
     rw[ht.out,oc La];rfl)
    obtain rfl:k=n:=by omega
    go_wp2;go_ret;exact⟨rfl,by rw[HE.out];exact hm.out,hbr.out⟩
end
inductive Pt where
 |tok (t:Nat)
 |zi (n:Nat)
structure NG where
 nT:Nat
 nN:Nat
 put:Nat->Nat
 drop:Nat->Nat
 swp:Nat->Nat->Nat
 rules:List (Nat × List Pt)
structure NG.Ok (N:NG):Prop where
 pos:0<N.nN
 lt:∀r∈N.rules,r.1<N.nN
 pn:∀r∈N.rules,∀n,Pt.zi n∈r.2->n<N.nN
 pt:∀r∈N.rules,∀t,Pt.tok t∈r.2->t<N.nT
 Yz:∀t,t<N.nT->1<=N.put t
 Za:∀t,t<N.nT->N.put t<=99
 abq:∀t,t<N.nT->1<=N.drop t
 acM:∀t,t<N.nT->N.drop t<=99
 acN:∀t u,N.swp t u<=99
 parts:∀r∈N.rules,r.2.length<=8
def EV {σ:Type} (F:σ->σ):Nat->σ->σ
 |0,s=>s
 |k+1,s=>EV F k (F s)
theorem ZO {σ ρ:Type} (step:σ->ρ->σ) (μ:σ->Nat) (I:σ->Prop) (l:List ρ) (h:∀s,I s->∀r∈l,(step s r=s\/μ (step s r)<μ s)/\I (step s r)):
  ∀s,I s->((l.foldl step s=s/\∀r∈l,step s r=s)\/μ (l.foldl step s)<μ s)/\I (l.foldl step s):=by
 induction l with
 |nil=>intro s hi;exact⟨.inl ⟨rfl,λr hr=>by cases hr⟩,hi⟩
 |cons x r ih=>
  intro s hi;have ih':=ih (λs hs q hq=>h s hs q (gj _ hq));obtain⟨h1,h2⟩:=h s hi x (ew ..);rw[lz]
  rcases h1 with h1 |h1
  ·rw[h1]
   obtain⟨h3,h4⟩:=ih' s hi;refine⟨?_,h4⟩
   rcases h3 with⟨h3,h5⟩ |h3
   ·exact .inl ⟨h3,λq hq=>by rcases bk.1 hq with rfl |hq;exact h1;exact h5 q hq⟩
   ·exact .inr h3
  ·obtain⟨h3,h4⟩:=ih' _ h2
   refine⟨.inr ?_,h4⟩
   rcases h3 with⟨h3,_⟩ |h3
   ·rw[h3];exact h1
   ·omega
theorem tF {σ:Type} (F:σ->σ) (μ:σ->Nat) (I:σ->Prop) (h:∀s,I s->(F s=s\/μ (F s)<μ s)/\I (F s)):∀(k:Nat) (s:σ),I s->μ s<=k->F (EV F k s)=EV F k s/\I (EV F k s):=by
 intro k
 induction k with
 |zero=>
  intro s hi hk;obtain⟨h1,h2⟩:=h s hi
  rcases h1 with h1 |h1
  ·exact⟨h1,hi⟩
  ·omega
 |succ k ih=>
  intro s hi hk;obtain⟨h1,h2⟩:=h s hi;show F (EV F k (F s))=EV F k (F s)/\_
  rcases h1 with h1 |h1
  ·rw[h1]
   have Lf:∀j,EV F j s=s:=by
    intro j
    induction j with
    |zero=>rfl
    |succ j ihj=>show EV F j (F s)=s;rw[h1];exact ihj
   show F (EV F k s)=EV F k s/\I (EV F k (F s));rw[h1,Lf k];exact⟨h1,hi⟩
  ·exact ih (F s) h2 (by omega)
theorem sA {σ:Type} (F:σ->σ) (I:σ->Prop) (h:∀s,I s->I (F s)):∀(k:Nat) (s:σ),I s->I (EV F k s):=by
 intro k
 induction k with
 |zero=>intro s hi;exact hi
 |succ k ih=>intro s hi;exact ih (F s) (h s hi)
theorem pJ {σ ρ:Type} (step:σ->ρ->σ) (I:σ->Prop) (l:List ρ) (h:∀s,I s->∀r∈l,I (step s r)):∀s,I s->I (l.foldl step s):=by
 induction l with
 |nil=>intro s hi;exact hi
 |cons x r ih=>intro s hi;exact ih (λs hs q hq=>h s hs q (gj _ hq)) _ (h s hi x (ew ..))
theorem MU {σ ρ:Type} (step:σ->ρ->σ) (μ:σ->Nat) (I:σ->Prop) (l:List ρ) (h:∀s,I s->∀r∈l,(step s r=s\/μ (step s r)<μ s)/\I (step s r)) (k:Nat) (s:σ) (hs:I s) (hk:μ s<=k):
  I (EV (λs=>l.foldl step s) k s)/\∀r∈l,step (EV (λs=>l.foldl step s) k s) r=EV (λs=>l.foldl step s) k s:=by
 have adZ:=ZO step μ I l h;have hit:=tF (λs=>l.foldl step s) μ I (λs hs=>⟨(adZ s hs).1.imp (λh=>h.1) id,(adZ s hs).2⟩) k s hs hk;refine⟨hit.2,?_⟩
 rcases(adZ _ hit.2).1 with⟨_,h1⟩ |h1
 ·exact h1
 ·have h2:List.foldl step (EV (λs=>l.foldl step s) k s) l=EV (λs=>l.foldl step s) k s:=hit.1
  rw[h2]at h1;omega
theorem MV {σ ρ:Type} (step:σ->ρ->σ) (I:σ->Prop) (l:List ρ) (h:∀s,I s->∀r∈l,I (step s r)) (k:Nat) (s:σ) (hs:I s):I (EV (λs=>l.foldl step s) k s):=
 sA _ I (λs hs=>pJ step I l h s hs) k s hs
def zN (l:List Bool) (n:Nat):Bool:=l.getD n false
theorem FT (l:List Bool) (n m:Nat) (b:Bool):zN (l.set n b) m=if n=m/\n<l.length then b else zN l m:=by
 unfold zN;simp only[Af,vw]
 by_cases h:n=m
 ·subst h
  by_cases hl:n<l.length
  ·simp[hl]
  ·simp[hl]
 ·simp[h]
theorem MW (k n:Nat):zN (List.replicate k false) n=false:=by
 unfold zN;rw[Af,nj];split <;> rfl
def I6 (l:List Bool):Nat:=(l.filter (· ==false)).length
theorem QA (l:List Bool) (n:Nat):l.set n true=l\/I6 (l.set n true)<I6 l:=by
 induction l generalizing n with
 |nil=>left;rfl
 |cons b r ih=>
  cases n with
  |zero=>
   cases b
   ·right;simp[I6]
   ·left;rfl
  |succ n=>
   rw[vk]
   rcases ih n with h |h
   ·left;rw[h]
   ·right
    unfold I6 at h ⊢;cases b <;> simp <;> simpa using h
theorem SS (l:List Bool):I6 l<=l.length:=qy _ _
def Ng (C:(Nat->Bool)->Prop) (S:Nat->Bool):Prop:=C S/\∀T,C T->∀n,S n=true->T n=true
theorem Ng.unique {C:(Nat->Bool)->Prop}{S:Nat->Bool} (h:Ng C S) (k:Ng C T):∀n,S n=T n:=by
 intro n;rw[ow];exact⟨h.2 T k.1 n,k.2 S h.1 n⟩
def JV (ps:List Pt) (ok:Nat->Bool) (tokens:Bool):Bool:=ps.all λp=>match p with | .tok _=>tokens | .zi n=>ok n
theorem l9 {ps:List Pt}{S:Nat->Bool}{b:Bool} (h:∀n,S n=true->T n=true) (he:JV ps S b=true):JV ps T b=true:=by
 unfold JV at*;rw[oh]at*;intro p hp;have:=he p hp;cases p with
 |tok t=>exact this
 |zi n=>exact h n this
def P4 (N:NG) (tokens:Bool) (S:Nat->Bool):Prop:=∀r∈N.rules,JV r.2 S tokens=true->S r.1=true
def G6 (tokens:Bool) (ok:List Bool) (r:Nat × List Pt):List Bool:=if JV r.2 (zN ok) tokens then ok.set r.1 true else ok
def fC (N:NG) (tokens:Bool) (ok:List Bool):List Bool:=N.rules.foldl (G6 tokens) ok
def BU (N:NG) (tokens:Bool):List Bool:=EV (fC N tokens) (N.nN+1) (List.replicate N.nN false)
theorem NX {l m:List Bool} (h:l=m) (n:Nat):zN l n=zN m n:=by rw[h]
theorem M5 (N:NG) (hN:N.Ok) (tokens:Bool):Ng (P4 N tokens) (zN (BU N tokens))/\(BU N tokens).length=N.nN:=by
 have hstep:∀s:List Bool,s.length=N.nN->∀r∈N.rules,(G6 tokens s r=s\/I6 (G6 tokens s r)<I6 s)/\(G6 tokens s r).length=N.nN:=by
  intro s hs r hr;unfold G6;split
  ·exact⟨QA s r.1,by simpa using hs⟩
  ·exact⟨.inl rfl,hs⟩
 have Lf:=MU (G6 tokens) I6 (λs=>s.length=N.nN) N.rules hstep (N.nN+1) (List.replicate N.nN false) (by simp) (by have:=SS (List.replicate N.nN false);simp at this;omega);have hlen:(BU N tokens).length=N.nN:=Lf.1;have hst:∀r∈N.rules,G6 tokens (BU N tokens) r=BU N tokens:=Lf.2;refine⟨⟨?_,?_⟩,hlen⟩
 ·intro r hr he
  have h2:=hst r hr;unfold G6 at h2;rw[ay he]at h2;have h3:=NX h2 r.1;rw[FT,ay ⟨rfl,by rw[hlen];exact hN.lt r hr⟩]at h3;exact h3.symm
 ·intro T hT
  refine MV (G6 tokens) (λs=>∀n,zN s n=true->T n=true) N.rules (λs hs r hr=>?_) _ _ (λn h=>by rw[MW]at h;cases h);intro n hn;unfold G6 at hn;split at hn
  ·rename_i he
   rw[FT]at hn;split at hn
   ·rename_i h1
    rw[<-h1.1];exact hT r hr (l9 hs he)
   ·exact hs n hn
  ·exact hs n hn
def K5 (ok:List Bool):List Pt->List Bool
 | []=>ok
 | .tok _::ps=>K5 ok ps
 | .zi n::ps=>K5 (ok.set n true) ps
def WW (N:NG) (S:Nat->Bool):Prop:=S 0=true/\∀r∈N.rules,S r.1=true->∀n,Pt.zi n∈r.2->S n=true
def GB (ok:List Bool) (r:Nat × List Pt):List Bool:=if zN ok r.1 then K5 ok r.2 else ok
def iQ (N:NG) (ok:List Bool):List Bool:=N.rules.foldl GB ok
def J6 (N:NG):List Bool:=EV (iQ N) (N.nN+1) ((List.replicate N.nN false).set 0 true)
theorem oT (ps:List Pt):∀ok,(K5 ok ps).length=ok.length:=by
 induction ps with
 |nil=>intro ok;rfl
 |cons p r ih=>intro ok;cases p <;> simp[K5,ih]
theorem YL (ps:List Pt):∀ok,(K5 ok ps=ok/\∀n,Pt.zi n∈ps->n<ok.length->zN ok n=true)\/I6 (K5 ok ps)<I6 ok:=by
 induction ps with
 |nil=>intro ok;exact .inl ⟨rfl,λn h=>by cases h⟩
 |cons p r ih=>
  intro ok;cases p with
  |tok t=>
   rcases ih ok with⟨h1,h2⟩ |h
   ·exact .inl ⟨h1,λn h=>by rcases bk.1 h with h |h;cases h;exact h2 n h⟩
   ·exact .inr h
  |zi n=>
   show(K5 (ok.set n true) r=ok/\_)\/I6 (K5 (ok.set n true) r)<I6 ok
   rcases QA ok n with h0 |h0
   ·rw[h0]
    rcases ih ok with⟨h1,h2⟩ |h
    ·refine .inl ⟨h1,λm h hm=>?_⟩
     rcases bk.1 h with h |h
     ·injection h with h;subst h
      have:=NX h0 m;rw[FT,ay ⟨rfl,hm⟩]at this;exact this.symm
     ·exact h2 m h hm
    ·exact .inr h
   ·right
    rcases ih (ok.set n true)with⟨h1,_⟩ |h
    ·rw[h1];exact h0
    ·omega
theorem eV  (ps:List Pt):∀ok,(∀n,zN ok n=true->T n=true)->(∀n,Pt.zi n∈ps->T n=true)->∀n,zN (K5 ok ps) n=true->T n=true:=by
 induction ps with
 |nil=>intro ok h _ n hn;exact h n hn
 |cons p r ih=>
  intro ok h hp;cases p with
  |tok t=>exact ih ok h (λn hn=>hp n (gj _ hn))
  |zi m=>
   refine ih (ok.set m true) (λn hn=>?_) (λn hn=>hp n (gj _ hn));rw[FT]at hn;split at hn
   ·rename_i h1;rw[<-h1.1];exact hp m (ew ..)
   ·exact h n hn
theorem VE (N:NG) (hN:N.Ok):Ng (WW N) (zN (J6 N))/\(J6 N).length=N.nN:=by
 have hstep:∀s:List Bool,(s.length=N.nN/\zN s 0=true)->∀r∈N.rules,(GB s r=s\/I6 (GB s r)<I6 s)/\((GB s r).length=N.nN/\zN (GB s r) 0=true):=by
  intro s hs r hr;unfold GB;split
  ·refine⟨(YL r.2 s).imp (λh=>h.1) id,by rw[oT];exact hs.1,?_⟩
   have:∀(ps:List Pt) (ok:List Bool),zN ok 0=true->zN (K5 ok ps) 0=true:=by
    intro ps
    induction ps with
    |nil=>intro ok h;exact h
    |cons p q ih=>
     intro ok h;cases p with
     |tok t=>exact ih ok h
     |zi m=>
      refine ih _ ?_;rw[FT];split
      ·rfl
      ·exact h
   exact this r.2 s hs.2
  ·exact⟨.inl rfl,hs⟩
 have h0:((List.replicate N.nN false).set 0 true).length=N.nN/\zN ((List.replicate N.nN false).set 0 true) 0=true:=by
  refine⟨by simp,?_⟩;rw[FT,ay ⟨rfl,by simpa using hN.pos⟩]
 have Lf:=MU GB I6 (λs=>s.length=N.nN/\zN s 0=true) N.rules hstep (N.nN+1) _ h0 (by have:=SS ((List.replicate N.nN false).set 0 true);simp at this;omega);have hlen:(J6 N).length=N.nN:=Lf.1.1;have hst:∀r∈N.rules,GB (J6 N) r=J6 N:=Lf.2;refine⟨⟨⟨Lf.1.2,?_⟩,?_⟩,hlen⟩
 ·intro r hr he n hn
  have h2:=hst r hr;unfold GB at h2;rw[ay he]at h2
  rcases YL r.2 (J6 N)with h3 |h3
  ·exact h3.2 n hn (by rw[hlen];exact hN.pn r hr n hn)
  ·have h4:I6 (K5 (J6 N) r.2)=I6 (J6 N):=congrArg I6 h2
   omega
 ·intro T hT
  refine MV GB (λs=>∀n,zN s n=true->T n=true) N.rules (λs hs r hr=>?_) _ _ (λn h=>?_)
  ·intro n hn
   unfold GB at hn;split at hn
   ·rename_i he
    exact eV r.2 s hs (hT.2 r hr (hs _ he)) n hn
   ·exact hs n hn
  ·rw[FT]at h
   split at h
   ·rename_i h1;rw[<-h1.1];exact hT.1
   ·rw[MW]at h;cases h
end Go.Proofs.YtjjggdcnpndgjaaGreatDoor
