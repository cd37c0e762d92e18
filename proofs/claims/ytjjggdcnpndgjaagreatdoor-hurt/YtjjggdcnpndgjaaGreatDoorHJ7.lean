import Derived.Test.YtjjggdcnpndgjaaGreatDoorHJ6
set_option linter.unusedSimpArgs false
set_option maxHeartbeats 2000000
set_option maxRecDepth 100000
namespace Go.Proofs.YtjjggdcnpndgjaaGreatDoor
abbrev ku:=@List.length_drop
abbrev ny:=@List.getElem?_replicate
abbrev tu:=@Nat.add_assoc
abbrev uu:=@List.set_cons_succ
abbrev vg:=@List.getElem?_set
abbrev vv:=@Prod.ext
abbrev xT:=@List.filter_eq_nil_iff
abbrev xW:=@List.filter_cons
open Go.RowKit
variable {G:Gr}{T:Nat->Bool}{a b n r t:Nat}{f:ByteArray->Int}{l ws:List ByteArray}{ls:List (Nat × List ByteArray)}{w:World}{x:Nat × List ByteArray}
def rJ (o:Option Nat):Int:=match o with |some a=>(a:Int) |none=> -1
def O2 (P:List Ln):Nat:=(P.filter λx=>x.2.1==2).length
theorem o5 {m:Int}{lg:Nat} (M:Option Nat) (hm:m= -1\/0<=m):
  ((if(if 20<t\/20<n\/60<r\/8<lg then(4:Int)else 0)=4/\m<0 then(a:Int)else m)= -1/\¬(20<t\/20<n\/60<r)\/0<=(if(if 20<t\/20<n\/60<r\/8<lg then(4:Int)else 0)=4/\m<0 then(a:Int)else m))/\
  (if 0<=(if(if 20<t\/20<n\/60<r\/8<lg then(4:Int)else 0)=4/\m<0 then(a:Int)else m)then(if(if 20<t\/20<n\/60<r\/8<lg then(4:Int)else 0)=4/\m<0 then(a:Int)else m)else rJ M)=
   if 0<=m then m else rJ (if 20<t\/20<n\/60<r\/8<lg then some a else M):=by
 by_cases hC:20<t\/20<n\/60<r\/8<lg
 ·simp only[aq hC]
  by_cases hm0:m<0
  ·rw[aq (by simpa using hm0),au (show ¬0<=m by omega)]
   exact⟨.inr (by omega),by rw[aq (by omega)];rfl⟩
  ·rw[au (λh=>hm0 h.2)]
   exact⟨.inr (by omega),by rw[aq (by omega),aq (by omega)]⟩
 ·simp only[au hC]
  rw[au (λh=>absurd h.1 (by decide))];refine⟨?_,rfl⟩
  rcases hm with h |h
  ·exact .inl ⟨h,λh'=>hC (by omega)⟩
  ·exact .inr h
theorem KC  (h:x.2.length=1):AF (x::ls)=AF ls:=by
 unfold AF;simp[h]
theorem ME  (h:¬x.2.length=1):AF (x::ls)=(x.1,AW x.2,x.2)::AF ls:=by
 unfold AF;simp[h]
theorem SH (y:Ln) (P:List Ln):AH (y::P)=(if(BC y.2.1 y.2.2).toList.isEmpty then []else [BC y.2.1 y.2.2])++AH P:=by
 unfold AH;rw[jv,xW];cases(BC y.2.1 y.2.2).toList.isEmpty <;> simp
theorem pB (y:Ln) (P:List Ln):O2 (y::P)=(if y.2.1=2 then 1 else 0)+O2 P:=by
 unfold O2;rw[xW]
 by_cases h:y.2.1=2
 ·simp[h];omega
 ·simp[h]
theorem F9  (h:AR l=true) (h1:¬l.length=1) {k:Nat} (hk:AW l=k):
  match k with
  |0=>((nth l 0).toList== [116,111,107,101,110])=true
  |1=>((nth l 0).toList== [116,111,107,101,110])=false/\((nth l 0).toList== [115,119,97,112])=true
  |_=>((nth l 0).toList== [116,111,107,101,110])=false/\((nth l 0).toList== [115,119,97,112])=false/\((nth l 0).toList== [114,117,108,101])=true:=by
 have key:(AW l=0/\((nth l 0).toList== [116,111,107,101,110])=true)\/(AW l=1/\((nth l 0).toList== [116,111,107,101,110])=false/\((nth l 0).toList== [115,119,97,112])=true)\/
   (AW l=2/\((nth l 0).toList== [116,111,107,101,110])=false/\((nth l 0).toList== [115,119,97,112])=false/\((nth l 0).toList== [114,117,108,101])=true):=by
  unfold AR at h;rw[au h1]at h;unfold AW;cases ht:((nth l 0).toList== [116,111,107,101,110])
  ·cases hw:((nth l 0).toList== [115,119,97,112])
   ·cases hr:((nth l 0).toList== [114,117,108,101])
    ·rw[ht,hw,hr]at h;simp at h
    ·exact .inr (.inr ⟨rfl,rfl,rfl,rfl⟩)
   ·exact .inr (.inl ⟨rfl,rfl,rfl⟩)
  ·exact .inl ⟨rfl,rfl⟩
 rcases key with⟨e,a⟩ | ⟨e,a⟩ | ⟨e,a⟩ <;> (rw[hk]at e;subst e;exact a)
def VY (P:List Ln) (ws:List ByteArray) (t n r:Nat) (m:Int) (res:Gr × Int × Option Nat):Prop:=
 (∀a,res.2.2=some a->CK P ws=some a)/\
 (res.2.2=none->CK P ws=none/\res.2.1=(if 0<=m then m else rJ (BU P t n r))/\∃t' r',Inv res.1 (ws++AH P) t' (n+O2 P) r')
theorem R8 {P:List Ln}{G1:Gr}{m:Int}{t1 n1 r1 lg:Nat}{ws1:List ByteArray}{y:Ln} (hm:m= -1\/0<=m) (hg:D9 G x.2=(G1,if 20<t1\/20<n1\/60<r1\/8<lg then 4 else 0))
  (Au:ws1=ws++(if(BC y.2.1 y.2.2).toList.isEmpty then []else [BC y.2.1 y.2.2])) (hn1:n1=n+if y.2.1=2 then 1 else 0)
  (Nh:CK (y::P) ws=CK P ws1) (hmn:BU (y::P) t n r=if 20<t1\/20<n1\/60<r1\/8<lg then some x.1 else BU P t1 n1 r1)
  (ih:∀m1:Int,(m1= -1/\¬(20<t1\/20<n1\/60<r1)\/0<=m1)->VY P ws1 t1 n1 r1 m1 (E5 ls G1 m1)):VY (y::P) ws t n r m (E5 (x::ls) G m):=by
 have hs:=o5 (a:=x.1) (t:=t1) (n:=n1) (r:=r1) (lg:=lg) (BU P t1 n1 r1) hm;have e3:¬(if 20<t1\/20<n1\/60<r1\/8<lg then(4:Int)else 0)=3:=by split <;> decide
 have ep:E5 (x::ls) G m=E5 ls G1 (if(if 20<t1\/20<n1\/60<r1\/8<lg then(4:Int)else 0)=4/\m<0 then(x.1:Int)else m):=by
  rw[E5,hg,au e3]
 have h:=ih _ hs.1;rw[<-ep]at h;refine⟨λa ha=>by rw[Nh];exact h.1 a ha,λho=>?_⟩;obtain⟨h1,h2,t',r',h3⟩:=h.2 ho;refine⟨by rw[Nh];exact h1,?_,t',r',?_⟩
 ·rw[h2,hs.2,hmn]
 ·rw[SH,pB,<-aA,<-Au,<-tu,<-hn1]
  exact h3
theorem Mz8 {P:Prop} (h:P:=by
  have ep:E5 (x::ls) G m=(G,m,some x.1):=by rw[E5,aq h3]
  rw[ep];refine⟨λa ha=>?_,λh=>(by cases h)⟩;rw[CK,au (by rw[Kc,hne];decide),aq (by rw[Kc];exact hc)];exact ha):P:=h
theorem KE:∀(ls:List (Nat × List ByteArray)) (G:Gr) (m:Int) (t n r:Nat) (ws:List ByteArray),(∀x∈ls,AR x.2=true)->Inv G ws t n r->(m= -1/\¬(20<t\/20<n\/60<r)\/0<=m)->
  VY (AF ls) ws t n r m (E5 ls G m)
 | [],G,m,t,n,r,ws,_,hI,hm=>by
  refine⟨λa h=>(by cases h),λ_=>⟨rfl,?_,t,r,by simpa[AF,AH,O2,E5] using hI⟩⟩
  rcases hm with h |h
  ·rw[au (by omega)];exact h.1
  ·rw[aq h];rfl
 |x::ls,G,m,t,n,r,ws,hall,hI,hm=>by
  have hx:=hall x (by simp);have Gh:∀y∈ls,AR y.2=true:=λy hy=>hall y (by simp[hy])
  have hm':m= -1\/0<=m:=hm.imp (λh=>h.1) id
  by_cases h1:x.2.length=1
  ·have hs:=UH hI hx h1
   rw[KC h1];have e3:¬(D9 G x.2).2=3:=by rw[hs.2];split <;> decide
   have em:(if(D9 G x.2).2=4/\m<0 then(x.1:Int)else m)=m:=by
    rcases hm with h |h
    ·rw[hs.2,au h.2,au (λh'=>absurd h'.1 (by decide))]
    ·rw[au (λh'=>by omega)]
   have ep:E5 (x::ls) G m=E5 ls G m:=by
    rw[E5,au e3,em,hs.1]
   rw[ep];exact KE ls G m t n r ws Gh hI hm
  ·rw[ME h1]
   rcases KP hx h1 with⟨hsh,hlen,htk⟩ | ⟨hsh,hlen,htk,_⟩ | ⟨hsh,hlen,hnm,_⟩
   ·have hne:(nth x.2 1).toList.isEmpty=false:=S8 htk
    have h0:=F9 hx h1 hsh;have Kc:BC 0 x.2=nth x.2 1:=rfl;rw[hsh]
    rcases aF hI h0 htk with⟨hc,h3⟩ | ⟨hc,Gi,h4⟩
    ·exact Mz8
    ·exact R8 (lg:=0) hm' (vv rfl h4) (by rw[Kc,au (by rw[hne];decide)]) rfl
      aeV rfl (λm1 h=>KE ls _ m1 _ _ _ _ Gh Gi h)
   ·have h0:=F9 hx h1 hsh
    have Kc:BC 1 x.2=ByteArray.empty:=rfl;have afa:ByteArray.empty.toList.isEmpty=true:=by rw[jf];rfl
    rw[hsh];have hs:=YN hI h0.1 h0.2;exact R8 (lg:=0) hm' (vv rfl hs.2) (by rw[Kc,aq afa,iq]) rfl
     (by rw[CK,aq (by rw[Kc];exact afa)]) rfl (λm1 h=>KE ls _ m1 _ _ _ _ Gh hs.1 h)
   ·have hne:(nth x.2 1).toList.isEmpty=false:=S8 hnm
    have h0:=F9 hx h1 hsh;have Kc:BC 2 x.2=nth x.2 1:=rfl;rw[hsh]
    rcases Y3 hI h0.1 h0.2.1 h0.2.2 hnm with⟨hc,h3⟩ | ⟨hc,Gi,h4⟩
    ·exact Mz8
    ·exact R8 (lg:=DW (A8 x.2)) hm' (vv rfl h4) (by rw[Kc,au (by rw[hne];decide)]) rfl
      aeV rfl (λm1 h=>KE ls _ m1 _ _ _ _ Gh Gi h)
theorem Inv.afb  (h:Inv G ws t n r) (u:ByteArray):(cnt ws u==0)=(!D2 G.toks u&& !BW G.names u):=by
 rw[og];have:=h.has u;simp only[lq,fu,Bool.not_eq_true'];constructor
 ·intro h0
  constructor
  ·cases hq:D2 G.toks u
   ·rfl
   ·have:=this.1 (.inl hq);omega
  ·cases hq:BW G.names u
   ·rfl
   ·have:=this.1 (.inr hq);omega
 ·rintro⟨h1,h2⟩
  cases hc:cnt ws u with
  |zero=>rfl
  |succ k=>
   have:=this.2 (by omega);rw[h1,h2]at this;simp at this
theorem aJ  (h:Inv G ws t n r) {u:ByteArray} (hu:DS u=true):(cnt ws u==0)= !D2 G.toks u:=by
 rw[h.afb,h.aah hu];simp
theorem rZ  (h:Inv G ws t n r)  (hl:AR l=true) (h1:¬l.length=1):
  EW ws (a,AW l,l)=FK G l:=by
 rcases KP hl h1 with⟨hsh,_,_⟩ | ⟨hsh,_,Et,Gj⟩ | ⟨hsh,_,_,_⟩
 ·have h0:=F9 hl h1 hsh
  have e:(nth l 0).toList=[116,111,107,101,110]:=by simpa using h0
  unfold EW FK GP;simp only[hsh,e];rfl
 ·have h0:=F9 hl h1 hsh
  unfold EW FK GP;rw[aq h0.2];simp only[hsh];simp only[beq_self_eq_true,xU,xz,List.any_cons,List.any_nil,Bool.or_false];rw[aJ h Et,aJ h Gj]
  generalize D2 G.toks (nth l 1)=b1
  generalize D2 G.toks (nth l 2)=b2
  generalize ((nth l 1).toList==(nth l 2).toList)=b3
  revert b1 b2 b3;decide
 ·have h0:=F9 hl h1 hsh
  have eR:FK G l=(l.drop 3).any (qK G):=by
   unfold FK;rw[au (by rw[h0.2.1];decide),aq h0.2.2]
  have eL:EW ws (a,AW l,l)=((l.drop 3).filter λx=> !I5 x).any λu=>cnt ws u==0:=by
   unfold EW GP;rw[hsh,<-PM];rfl
  rw[eL,eR,List.any_filter]
  congr 1
  funext x
  unfold qK;rw[h.afb]
theorem eQ  (hl:AR l=true) (h1:l.length=1):FK G l=false:=by
 unfold AR at hl;rw[aq h1]at hl;have e:(nth l 0).toList=[]:=by simpa using hl
 unfold FK;rw[e];rfl
theorem YH {G:Gr}{ws:List ByteArray}{t n r:Nat} (h:Inv G ws t n r):∀(ls:List (Nat × List ByteArray)),(∀x∈ls,AR x.2=true)->
  F3 ws (AF ls)=(ls.find? λx=>FK G x.2).map (·.1)
 | [],_=>rfl
 |x::ls,hall=>by
  have hx:=hall x (by simp);have ih:=YH h ls (λy hy=>hall y (by simp[hy]))
  by_cases h1:x.2.length=1
  ·rw[KC h1,ih,List.find?_cons_of_neg (by rw[eQ hx h1];decide)]
  ·rw[ME h1]
   have e:=rZ h (a:=x.1) hx h1;unfold F3;rw[e];cases hq:FK G x.2
   ·rw[au (by decide),ih,List.find?_cons_of_neg (by rw[hq];decide)]
   ·rw[aq rfl,List.find?_cons_of_pos (p:=λy=>FK G y.2) (a:=x) hq];rfl
theorem qD (P:List Ln):(P.any λx=>x.2.1==2)=decide (¬O2 P=0):=by
 unfold O2;rw[og,ot,ia];constructor
 ·rintro⟨x,hx,h⟩ h0
  rw[List.length_eq_zero_iff,xT]at h0;exact h0 x hx h
 ·intro h0
  have:0< (P.filter λx=>x.2.1==2).length:=by omega
  obtain⟨x,hx⟩:=List.length_pos_iff_exists_mem.1 this;rw[mo]at hx;exact⟨x,hx.1,hx.2⟩
theorem QZ (s:ByteArray):EA s=((GR s).1,(GR s).2.1):=by
 unfold EA GR
 by_cases h1:4000<s.size
 ·rw[aq h1,aq h1]
 ·rw[au h1,au h1]
  by_cases h2:(AG s 0).2<s.size
  ·rw[aq h2,aq h2]
  ·rw[au h2,au h2]
   have hall:∀x∈(AG s 0).1,AR x.2=true:=λx hx=>(PQ s _ _ x hx).2
   have hI:Inv G0 [] 0 0 0:=⟨λu=>by simp[D2,BW,G0,cnt],λx hx=>by simp[G0]at hx,λx hx=>by simp[G0]at hx,rfl,rfl,rfl⟩;have hS:=KE (AG s 0).1 G0 (-1) 0 0 0 [] hall hI (.inl ⟨rfl,by omega⟩)
   rcases hp:E5 (AG s 0).1 G0 (-1)with⟨G,m,o⟩
   rw[hp]at hS;cases o with
   |some a=>rw[hS.1 a rfl]
   |none=>
    obtain⟨ht,hm,t',r',hI'⟩:=hS.2 rfl;simp only[eu,jl]at hI' hm;rw[au (by decide)]at hm;rw[ht];cases hM:BU (AF (AG s 0).1) 0 0 0 with
    |some a=>
     rw[hM]at hm;have hm':m=(a:Int):=hm;simp only[hm'];rw[aq (by omega)]
    |none=>
     rw[hM]at hm;have hm':m= -1:=hm;simp only[hm'];have e0:¬(0:Int)<= -1:=by decide
     rw[au e0,qD];have hn:=hI'.nn
     by_cases h0:O2 (AF (AG s 0).1)=0
     ·rw[aq (show G.names.length=0 by omega),au (show ¬decide (¬O2 (AF (AG s 0).1)=0)=true by simp[h0])]
     ·rw[au (show ¬G.names.length=0 by omega),aq (show decide (¬O2 (AF (AG s 0).1)=0)=true by simp[h0])]
      rw[YH hI' _ hall];cases hf:(AG s 0).1.find? λx=>FK G x.2 <;> rfl
def BP:List (List UInt8)->List UInt8
 | []=>[]
 | [w]=>w
 |w::v::r=>w++32::BP (v::r)
theorem bX {a b:ByteArray} (h:a.data.toList=b.data.toList):a=b:=by
 apply ByteArray.ext;exact xV.1 h
theorem TN:∀(l:List UInt8) (d:List ByteArray) (c:ByteArray),(∀b∈l,b≠32)->l.foldl E9 (d,c)=(d,⟨(c.data.toList++l).toArray⟩)
 | [],d,c,_=>by simp
 |b::l,d,c,h=>by
  rw[ld];have hb:b≠32:=h b (by simp);have e:E9 (d,c) b=(d,c++⟨#[b]⟩):=by unfold E9;rw[au hb]
  rw[e,TN l d _ (λx hx=>h x Le)]
  congr 1
  apply bX;have e2:(c++(⟨#[b]⟩:ByteArray)).data.toList=c.data.toList++ [b]:=by simp
  rw[e2];simp
theorem bW:∀(ws:List (List UInt8)) (d:List ByteArray),ws≠ []->(∀w∈ws,∀b∈w,b≠32)->
  ((BP ws).foldl E9 (d,ByteArray.empty)).1++ [((BP ws).foldl E9 (d,ByteArray.empty)).2]=d++ws.map λw=>⟨w.toArray⟩
 | [],d,h,_=>absurd rfl h
 | [w],d,_,h=>by
  show(w.foldl E9 (d,ByteArray.empty)).1++ [(w.foldl E9 (d,ByteArray.empty)).2]=_;rw[TN w d _ (h w (by simp))];simp
 |w::v::r,d,_,h=>by
  have hw:=TN w d ByteArray.empty (h w (by simp));have e0:ByteArray.empty.data.toList++w=w:=by simp
  rw[e0]at hw;have e:(BP (w::v::r)).foldl E9 (d,ByteArray.empty)=(BP (v::r)).foldl E9 (d++ [⟨w.toArray⟩],ByteArray.empty):=by
   show(w++32::BP (v::r)).foldl E9 _=_;rw[uk,hw,ld]
   congr 1
  rw[e,bW (v::r) _ (by simp) (λx hx=>h x Le)];simp
theorem kO (ws:List (List UInt8)) (h0:ws≠ []) (h:∀w∈ws,∀b∈w,b≠32):A9 ⟨(BP ws).toArray⟩=ws.map λw=>⟨w.toArray⟩:=by
 have:=bW ws [] h0 h;unfold A9 Oy;simpa using this
def LR (ls:List (List UInt8)):List UInt8:=ls.flatMap λl=>l++ [10]
theorem YW {l r:List UInt8} (h:∀b∈l,b≠10):(l++10::r).findIdx? (· ==10)=some l.length:=by
 rw[oo];refine⟨by simp,by simp,λj hj=>?_⟩;rw[List.getElem_append_left hj];have:=h _ (oc hj);simpa using this
theorem pU {s:ByteArray}{l r:List UInt8} (hd:s.data.toList.drop a=l++10::r) (h:∀b∈l,b≠10):BR s a=(⟨l.toArray⟩,((a+l.length+1:Nat):Int)):=by
 unfold BR;rw[hd,YW h];simp only
 congr 1
 apply bX;have:(s.extract a (a+l.length)).data.toList=(s.data.toList.drop a).take l.length:=by
  simp[xS]
 rw[this,hd];simp
def RJ:List (List UInt8)->Nat->List Nat
 | [],_=>[]
 |l::r,a=>a::RJ r (a+l.length+1)
theorem VR (s:ByteArray):∀(ls:List (List UInt8)) (a:Nat),s.data.toList.drop a=LR ls->a<=s.size->(∀l∈ls,(∀b∈l,b≠10)/\AR (A9 ⟨l.toArray⟩)=true)->
  AG s a=((RJ ls a).zip (ls.map λl=>A9 ⟨l.toArray⟩),s.size)
 | [],a,hd,ha,_=>by
  have hl:s.data.toList.length=s.size:=by simp
  have h0:¬a<s.size:=by
   intro h;have:=congrArg List.length hd;simp[LR]at this;omega
  rw[YB h0];show(_,a)=(_,s.size);rw[show a=s.size by omega];rfl
 |l::ls,a,hd,ha,h=>by
  have hl:s.data.toList.length=s.size:=by simp
  have hc:LR (l::ls)=l++10::LR ls:=by unfold LR;simp
  rw[hc]at hd;have hlen:=congrArg List.length hd;simp only[ku,hl,lA,lC]at hlen;obtain⟨h1,h2⟩:=h l (by simp);have Dn:=pU hd h1;have hd2:s.data.toList.drop (a+l.length+1)=LR ls:=by
   have:s.data.toList.drop (a+l.length+1)=(s.data.toList.drop a).drop (l.length+1):=by rw[List.drop_drop];rfl
   rw[this,hd];simp[List.drop_append]
  have ih:=VR s ls (a+l.length+1) hd2 (by omega) (λx hx=>h x Le);rw[V5 (by omega) (by rw[Dn];simp;omega) (by rw[Dn];exact h2),Dn];simp only[sr];rw[ih];simp[RJ]
section
open Go.RowKit Go.WideMaps Go.Maps
def OZ (v:Value):Option (DataW Unit × List MemPlace):=
 match v with
 | .agg cs=>match cs.toList with
  | [.bool b,.int .i64 n]=>some (.lit (.int .i64 (2*n+if b then 1 else 0)),[])
  |_=>none
 |_=>none
theorem pJ {v:Value}{c:Int}{ps:List MemPlace} (h:OZ v=some (.lit (.int .i64 c),ps)):v=.agg #[.bool (decide (c % 2=1)),ab (c / 2)]:=by
 unfold OZ at h;split at h
 ·rename_i cs
  split at h
  ·rename_i b n hcs
   simp only[sj,Prod.mk.injEq,DataW.lit.injEq,Lit.int.injEq,true_and]at h;obtain⟨h1,_⟩:=h;have h2:cs= #[.bool b,ab n]:=xV.1 hcs;rw[h2];cases b
   ·have e1:decide (c % 2=1)=false:=fq (by simp at h1;omega)
    have e2:c / 2=n:=by simp at h1;omega
    rw[e1,e2]
   ·have e1:decide (c % 2=1)=true:=ij (by simp at h1;omega)
    have e2:c / 2=n:=by simp at h1;omega
    rw[e1,e2]
  ·cases h
 ·cases h
def EO:List Ln->Nat->Nat->(ByteArray->Int)->ByteArray->Int
 | [],_,_,f=>f
 |x::r,t,n,f=>if x.2.1=0 then EO r (t+1) n (λs=>if EF (BC 0 x.2.2) s=true then 2*(t:Int)else f s)
  else if x.2.1=2 then EO r t (n+1) (λs=>if EF (BC 2 x.2.2) s=true then 2*(n:Int)+1 else f s)else EO r t n f
def EJ (w:World) (b n:Nat) (f:ByteArray->Int):Prop:=∃D:DataW Unit,w.ownsMap Tryz.prog 9 OZ b n D/\IsMap D/\∀s:ByteArray,D.atKey (.string s.data.toList) (.lit (.int .i64 0))=.lit (.int .i64 (f s))
theorem EJ.block {w':World} (h:EJ w b n f) (hb:w'.heap[b]?=w.heap[b]?):EJ w' b n f:=by
 obtain⟨D,hown,h2,h3⟩:=h;obtain⟨es,clock,h4,h5⟩:=hown;exact⟨D,⟨es,clock,hb.trans h4,h5⟩,h2,h3⟩
theorem EJ.lt  (h:EJ w b n f):b<w.heap.size:=by
 obtain⟨D,hown,_⟩:=h;exact hown.lt
theorem EJ.below {w':World} (h:EJ w b n f) (hb:Below w.heap.size w w'):EJ w' b n f:=h.block (hb.block b h.lt)
theorem uR {D:DataW Unit} (hm:IsMap D) (h:∀s:ByteArray,D.atKey (.string s.data.toList) (.lit (.int .i64 0))=.lit (.int .i64 (f s))) (x:ByteArray) (c:Int):
  ∀s:ByteArray,(D.put (.string x.data.toList) (.lit (.int .i64 c))).atKey (.string s.data.toList) (.lit (.int .i64 0))=.lit (.int .i64 (if EF x s=true then c else f s)):=by
 intro s
 by_cases e:x.data.toList=s.data.toList
 ·rw[<-e,atKey_put_same hm (by trivial),aq (show EF x s=true from ij e)]
 ·rw[atKey_put_other (λh=>e (by injection h with h;exact h.symm)),h s,au (λh:EF x s=true=>e (kf h))]
theorem qQ {ls:List Ln}{k:Nat}{x:Ln} (hx:ls[k]?=some x) (t n:Nat) (f:ByteArray->Int):EO (ls.drop k) t n f=if x.2.1=0 then EO (ls.drop (k+1)) (t+1) n (λs=>if EF (BC 0 x.2.2) s=true then 2*(t:Int)else f s)
  else if x.2.1=2 then EO (ls.drop (k+1)) t (n+1) (λs=>if EF (BC 2 x.2.2) s=true then 2*(n:Int)+1 else f s)else EO (ls.drop (k+1)) t n f:=by
 obtain⟨hk,rfl⟩:=yS.1 hx;rw[gm hk];rfl
theorem Tryz.zeroPart (w:World):(zeroValue 235).run Tryz.prog w=.ok (.agg #[.bool false,ab 0]) w:=by kernel_rfl
theorem EJ.look  (h:EJ w b n f) (s:ByteArray) (hs:s.size<=maxLen):(Instr.lookup 322 (.map (some b)) (.string s) false).run Tryz.prog w=.ok (.agg #[.bool (decide (f s % 2=1)),ab (f s / 2)]) w:=by
 obtain⟨D,hown,_,hat⟩:=h;obtain⟨v,ps,hrun,hR⟩:=hown.lookup Tryz.lawStr Tryz.underlying322 (Tryz.zeroPart w) (zd:=.lit (.int .i64 0)) (zp:=[]) rfl (keyOf_string_mk Tryz.underlying9 hs);rw[hat s]at hR;rw[hrun,pJ hR]
theorem aZ (v:Value) (ls:List Ln) (pv:List Value) (B:Nat) (w:World) (hV:Ac w B v ls pv) (hok:LJ ls):
  Calls Tryz.prog 199 #[v] w λe w'=>e=.returned (.map (some w.heap.size))/\EJ w' w.heap.size ls.length (EO ls 0 0 (λ_=>0))/\Below w.heap.size w w':=by
 have Pc:= @run_makeMap Tryz.prog
 rcases hV.form with⟨rfl,rfl⟩ | ⟨g,cap,rfl,hnc,hg⟩
 ·have HB:Hid (Below w.heap.size w (w.alloc (.map #[] 0))):=hid ((ah _ _).alloc (yF _) _)
  have HM:Hid (EJ (w.alloc (.map #[] 0)) w.heap.size 0 (λ_=>0)):=hid ⟨_,xM _ _ _ _,isMap_empty,λs=>rfl⟩;clear hV hok
  go_enter Tryz.func199,Tryz.ntmps199
  go_wp2;clear Pc
  go_loopw [11] (λi wr=>i=ab 0/\Hid (EJ wr w.heap.size 0 (λ_=>0))/\Hid (Below w.heap.size w wr)) (λi _=>0)
  case atStart=>exact⟨rfl,HM,HB⟩
  case round=>
   obtain⟨rfl,hm,hbr⟩:=hrel;go_wp2;go_ret;exact⟨rfl,hm.out,hbr.out⟩
 ·obtain⟨n,hN⟩:=qF (ls.length)
  have hn:=hok.len;rw[<-hN]at hn hnc hV ⊢;have HN:Hid (n=ls.length):=hid hN;have HV:=hid hV;have zZ:=hid hok;have HB:Hid (Below w.heap.size w (w.alloc (.map #[] 0))):=hid ((ah _ _).alloc (yF _) _);have HM:Hid (EJ (w.alloc (.map #[] 0)) w.heap.size 0 (λ_=>0)):=hid ⟨_,xM _ _ _ _,isMap_empty,λs=>rfl⟩;clear hN hV hok
  go_enter Tryz.func199,Tryz.ntmps199
  go_wp2;clear Pc
  go_loopw [4,5,11] (λa b i wr=>∃(k t m:Nat) (f:ByteArray->Int),k<=n/\t<=k/\m<=k/\i=ab k/\a=ab t/\b=ab m/\Hid (EO ls 0 0 (λ_=>0)=EO (ls.drop k) t m f)/\Hid (EJ wr w.heap.size k f)/\Hid (Below w.heap.size w wr)) (λ_ _ i _=>n - (intOf i).toNat)
  case atStart=>exact⟨0,0,0,_,by omega,by omega,by omega,rfl,rfl,rfl,rfl,HM,HB⟩
  case round=>
   clear HM HB;obtain⟨k,t,m,f,hk,htk,hmk,rfl,rfl,rfl,ht,hm,hbr⟩:=hrel;have hsz:=hbr.out.size
   by_cases hlt:k<n
   ·obtain⟨x,hx⟩:∃x,ls[k]?=some x:=⟨_,gE Iz⟩
    have Cq:=zZ.out.ok x (mG hx);have hxs:=zZ.out.gsz x (mG hx);have hx2:=zZ.out.sh x (mG hx);have hT:=qQ hx t m f;obtain⟨p,hp,Cl,k0,k1,k2⟩:=(HV.out.below hbr.out).at hx;obtain⟨at_,sh,l⟩:=x;simp only at k0 k1 k2 hT Cl hxs hx2;have hgr:g<wr.heap.size:=lL hg hsz;have Ho:=hid Cl;obtain⟨gw,q,qc,ad,cs,rfl,_⟩:=Cl;have yR:Hid (Below w.heap.size w (wr.alloc (.cells #[ab at_,ab sh,.slice ad q qc] 325))):=hid (hbr.out.alloc hsz _);have Az:Hid (Below wr.heap.size wr (wr.alloc (.cells #[ab at_,ab sh,.slice ad q qc] 325))):=hid ((ah _ _).alloc (yF _) _);obtain⟨wd,hwd⟩:=qE (BC sh l);have cG:=RO at_ sh (.slice ad q qc) l _ (Ho.out.below Az.out) acU Cq.2;rw[hwd]at cG hxs;have CG:=hid cG;have HT:=hid (ht.out.trans hT);obtain⟨D,hown,hD,hat⟩:=hm.out;have hkey:keyOf Tryz.prog 9 (.string wd)=some (.string wd.data.toList):=keyOf_string_mk Tryz.underlying9 zX
    have Ll:=hid hkey;have Tg:=hid hown;have afc:=hid λc=>uR hD hat wd c
    have Pf:Hid (∀c:Int,IsMap (D.put (.string wd.data.toList) (.lit (.int .i64 c)))):=hid λc=>hD.put _ _
    have Jf:=hid hwd;clear hp hx Cq ht hT cG hwd hat hD hown hkey hxs;have hk4:k<4000:=by omega
    have ahy:=Tg.out.lt;have ac4:sh=0\/sh=1\/sh=2:=by omega
    clear hx2
    rcases ac4 with rfl |rfl |rfl
    ·have HE:Hid (EO ls 0 0 (λ_=>0)=EO (ls.drop (k+1)) (t+1) m (λs=>if EF wd s=true then 2*(t:Int)else f s)):=hid (by rw[HT.out,aq rfl,Jf.out])
     go_wp2_with (first
      | (go_at_call 210;refine CG.out.mono ?_;rintro e w2 ⟨rfl,hb2⟩;have Vx:Hid (Below w.heap.size w w2):=hid (yR.out.trans (hb2.mono yR.out.size));have Gf:w2.ownsMap Tryz.prog 9 OZ w.heap.size k D:=aeU;have HO2:=hid Gf;clear Gf hb2)
      | (at_mapUpdate;refine vk _ rfl _ _ _ 322 rfl 9 235 Tryz.lawStr Tryz.underlying322 OZ w.heap.size k _ rfl HO2.out zX _ _ _ rfl rfl Ll.out (.lit (.int .i64 (2*(t:Int)+if false=true then 1 else 0))) [] rfl ?_))
     intro w3 zO zM;have zy:Hid (Below w.heap.size w w3):=hid (Vx.out.grown zM Vx.out.size (λj hj=>by cases hj;exact yF _));have Rk:Hid (EJ w3 w.heap.size (k+1) (λs=>if EF wd s=true then 2*(t:Int)else f s)):=hid ⟨_,zO,Pf.out _,afc.out _⟩;clear zO zM;go_wp2
     go_roundw
     case rel=>exact⟨k+1,t+1,m,_,by omega,by omega,by omega,by go_num,by go_num,by go_num,HE,Rk,zy⟩
     case measure=>simp[intOf];omega
    ·have HE:Hid (EO ls 0 0 (λ_=>0)=EO (ls.drop (k+1)) t m f):=hid (by rw[HT.out,au (by decide),au (by decide)])
     go_wp2
     go_roundw
     case rel=>exact⟨k+1,t,m,f,by omega,by omega,by omega,by go_num,rfl,rfl,HE,hid (by have h1:=hm.out.below Az.out;obtain⟨D',⟨es,clock,h4,h5,h6,h7⟩,h2,h3⟩:=h1;exact⟨D',⟨es,clock,h4,h5,by omega,h7⟩,h2,h3⟩),yR⟩
     case measure=>simp[intOf];omega
    ·have HE:Hid (EO ls 0 0 (λ_=>0)=EO (ls.drop (k+1)) t (m+1) (λs=>if EF wd s=true then 2*(m:Int)+1 else f s)):=hid (by rw[HT.out,au (by decide),aq rfl,Jf.out])
     go_wp2_with (first
      | (go_at_call 210;refine CG.out.mono ?_;rintro e w2 ⟨rfl,hb2⟩;have Vx:Hid (Below w.heap.size w w2):=hid (yR.out.trans (hb2.mono yR.out.size));have Gf:w2.ownsMap Tryz.prog 9 OZ w.heap.size k D:=aeU;have HO2:=hid Gf;clear Gf hb2)
      | (at_mapUpdate;refine vk _ rfl _ _ _ 322 rfl 9 235 Tryz.lawStr Tryz.underlying322 OZ w.heap.size k _ rfl HO2.out zX _ _ _ rfl rfl Ll.out (.lit (.int .i64 (2*(m:Int)+if true=true then 1 else 0))) [] rfl ?_))
     intro w3 zO zM;have zy:Hid (Below w.heap.size w w3):=hid (Vx.out.grown zM Vx.out.size (λj hj=>by cases hj;exact yF _));have Rk:Hid (EJ w3 w.heap.size (k+1) (λs=>if EF wd s=true then 2*(m:Int)+1 else f s)):=hid ⟨_,zO,Pf.out _,afc.out _⟩;clear zO zM;go_wp2
     go_roundw
     case rel=>exact⟨k+1,t,m+1,_,by omega,by omega,by omega,by go_num,by go_num,by go_num,HE,Rk,zy⟩
     case measure=>simp[intOf];omega
   ·have HE:Hid (EO ls 0 0 (λ_=>0)=f):=hid (by
     rw[ht.out,nh Iz];rfl)
    obtain rfl:k=n:=by omega
    go_wp2;go_ret;exact⟨rfl,by rw[HE.out];exact hm.out,hbr.out⟩
end
inductive Pt where
 |tok (t:Nat)
 |yB (n:Nat)
structure NG where
 nT:Nat
 nN:Nat
 put:Nat->Nat
 drop:Nat->Nat
 swp:Nat->Nat->Nat
 rules:List (Nat × List Pt)
structure NG.Ok (N:NG):Prop where
 pos:0<N.nN
 lt:∀r∈N.rules,r.1<N.nN
 pn:∀r∈N.rules,∀n,Pt.yB n∈r.2->n<N.nN
 pt:∀r∈N.rules,∀t,Pt.tok t∈r.2->t<N.nT
 Tm:∀t,t<N.nT->1<=N.put t
 Vz:∀t,t<N.nT->N.put t<=99
 aai:∀t,t<N.nT->1<=N.drop t
 abY:∀t,t<N.nT->N.drop t<=99
 abZ:∀t u,N.swp t u<=99
 parts:∀r∈N.rules,r.2.length<=8
def EK {σ:Type} (F:σ->σ):Nat->σ->σ
 |0,s=>s
 |k+1,s=>EK F k (F s)
theorem YL {σ ρ:Type} (step:σ->ρ->σ) (μ:σ->Nat) (I:σ->Prop) (l:List ρ) (h:∀s,I s->∀r∈l,(step s r=s\/μ (step s r)<μ s)/\I (step s r)):
  ∀s,I s->((l.foldl step s=s/\∀r∈l,step s r=s)\/μ (l.foldl step s)<μ s)/\I (l.foldl step s):=by
 induction l with
 |nil=>intro s hi;exact⟨.inl ⟨rfl,λr hr=>by cases hr⟩,hi⟩
 |cons x r ih=>
  intro s hi;have ih':=ih (λs hs q hq=>h s hs q (fj _ hq));obtain⟨h1,h2⟩:=h s hi x (eo ..);rw[ld]
  rcases h1 with h1 |h1
  ·rw[h1]
   obtain⟨h3,h4⟩:=ih' s hi;refine⟨?_,h4⟩
   rcases h3 with⟨h3,h5⟩ |h3
   ·exact .inl ⟨h3,λq hq=>by rcases bh.1 hq with rfl |hq;exact h1;exact h5 q hq⟩
   ·exact .inr h3
  ·obtain⟨h3,h4⟩:=ih' _ h2
   refine⟨.inr ?_,h4⟩
   rcases h3 with⟨h3,_⟩ |h3
   ·rw[h3];exact h1
   ·omega
theorem qC {σ:Type} (F:σ->σ) (μ:σ->Nat) (I:σ->Prop) (h:∀s,I s->(F s=s\/μ (F s)<μ s)/\I (F s)):∀(k:Nat) (s:σ),I s->μ s<=k->F (EK F k s)=EK F k s/\I (EK F k s):=by
 intro k
 induction k with
 |zero=>
  intro s hi hk;obtain⟨h1,h2⟩:=h s hi
  rcases h1 with h1 |h1
  ·exact⟨h1,hi⟩
  ·omega
 |succ k ih=>
  intro s hi hk;obtain⟨h1,h2⟩:=h s hi;show F (EK F k (F s))=EK F k (F s)/\_
  rcases h1 with h1 |h1
  ·rw[h1]
   have Jg:∀j,EK F j s=s:=by
    intro j
    induction j with
    |zero=>rfl
    |succ j ihj=>show EK F j (F s)=s;rw[h1];exact ihj
   show F (EK F k s)=EK F k s/\I (EK F k (F s));rw[h1,Jg k];exact⟨h1,hi⟩
  ·exact ih (F s) h2 (by omega)
theorem qN {σ:Type} (F:σ->σ) (I:σ->Prop) (h:∀s,I s->I (F s)):∀(k:Nat) (s:σ),I s->I (EK F k s):=by
 intro k
 induction k with
 |zero=>intro s hi;exact hi
 |succ k ih=>intro s hi;exact ih (F s) (h s hi)
theorem mE {σ ρ:Type} (step:σ->ρ->σ) (I:σ->Prop) (l:List ρ) (h:∀s,I s->∀r∈l,I (step s r)):∀s,I s->I (l.foldl step s):=by
 induction l with
 |nil=>intro s hi;exact hi
 |cons x r ih=>intro s hi;exact ih (λs hs q hq=>h s hs q (fj _ hq)) _ (h s hi x (eo ..))
theorem MB {σ ρ:Type} (step:σ->ρ->σ) (μ:σ->Nat) (I:σ->Prop) (l:List ρ) (h:∀s,I s->∀r∈l,(step s r=s\/μ (step s r)<μ s)/\I (step s r)) (k:Nat) (s:σ) (hs:I s) (hk:μ s<=k):
  I (EK (λs=>l.foldl step s) k s)/\∀r∈l,step (EK (λs=>l.foldl step s) k s) r=EK (λs=>l.foldl step s) k s:=by
 have ac5:=YL step μ I l h;have hit:=qC (λs=>l.foldl step s) μ I (λs hs=>⟨(ac5 s hs).1.imp (λh=>h.1) id,(ac5 s hs).2⟩) k s hs hk;refine⟨hit.2,?_⟩
 rcases(ac5 _ hit.2).1 with⟨_,h1⟩ |h1
 ·exact h1
 ·have h2:List.foldl step (EK (λs=>l.foldl step s) k s) l=EK (λs=>l.foldl step s) k s:=hit.1
  rw[h2]at h1;omega
theorem M9 {σ ρ:Type} (step:σ->ρ->σ) (I:σ->Prop) (l:List ρ) (h:∀s,I s->∀r∈l,I (step s r)) (k:Nat) (s:σ) (hs:I s):I (EK (λs=>l.foldl step s) k s):=
 qN _ I (λs hs=>mE step I l h s hs) k s hs
def yU (l:List Bool) (n:Nat):Bool:=l.getD n false
theorem FL (l:List Bool) (n m:Nat) (b:Bool):yU (l.set n b) m=if n=m/\n<l.length then b else yU l m:=by
 unfold yU;simp only[zh,vg]
 by_cases h:n=m
 ·subst h
  by_cases hl:n<l.length
  ·simp[hl]
  ·simp[hl]
 ·simp[h]
theorem MQ (k n:Nat):yU (List.replicate k false) n=false:=by
 unfold yU;rw[zh,ny];split <;> rfl
def GU (l:List Bool):Nat:=(l.filter (· ==false)).length
theorem PE (l:List Bool) (n:Nat):l.set n true=l\/GU (l.set n true)<GU l:=by
 induction l generalizing n with
 |nil=>left;rfl
 |cons b r ih=>
  cases n with
  |zero=>
   cases b
   ·right;simp[GU]
   ·left;rfl
  |succ n=>
   rw[uu]
   rcases ih n with h |h
   ·left;rw[h]
   ·right
    unfold GU at h ⊢;cases b <;> simp <;> simpa using h
theorem S9 (l:List Bool):GU l<=l.length:=qj _ _
def Lq (C:(Nat->Bool)->Prop) (S:Nat->Bool):Prop:=C S/\∀T,C T->∀n,S n=true->T n=true
theorem Lq.unique {C:(Nat->Bool)->Prop}{S:Nat->Bool} (h:Lq C S) (k:Lq C T):∀n,S n=T n:=by
 intro n;rw[og];exact⟨h.2 T k.1 n,k.2 S h.1 n⟩
def JI (ps:List Pt) (ok:Nat->Bool) (tokens:Bool):Bool:=ps.all λp=>match p with | .tok _=>tokens | .yB n=>ok n
theorem kI {ps:List Pt}{S:Nat->Bool}{b:Bool} (h:∀n,S n=true->T n=true) (he:JI ps S b=true):JI ps T b=true:=by
 unfold JI at*;rw[nj]at*;intro p hp;have:=he p hp;cases p with
 |tok t=>exact this
 |yB n=>exact h n this
def O8 (N:NG) (tokens:Bool) (S:Nat->Bool):Prop:=∀r∈N.rules,JI r.2 S tokens=true->S r.1=true
def FQ (tokens:Bool) (ok:List Bool) (r:Nat × List Pt):List Bool:=if JI r.2 (yU ok) tokens then ok.set r.1 true else ok
def eF (N:NG) (tokens:Bool) (ok:List Bool):List Bool:=N.rules.foldl (FQ tokens) ok
def BN (N:NG) (tokens:Bool):List Bool:=EK (eF N tokens) (N.nN+1) (List.replicate N.nN false)
theorem NK {l m:List Bool} (h:l=m) (n:Nat):yU l n=yU m n:=by rw[h]
theorem LK (N:NG) (hN:N.Ok) (tokens:Bool):Lq (O8 N tokens) (yU (BN N tokens))/\(BN N tokens).length=N.nN:=by
 have hstep:∀s:List Bool,s.length=N.nN->∀r∈N.rules,(FQ tokens s r=s\/GU (FQ tokens s r)<GU s)/\(FQ tokens s r).length=N.nN:=by
  intro s hs r hr;unfold FQ;split
  ·exact⟨PE s r.1,by simpa using hs⟩
  ·exact⟨.inl rfl,hs⟩
 have Jg:=MB (FQ tokens) GU (λs=>s.length=N.nN) N.rules hstep (N.nN+1) (List.replicate N.nN false) (by simp) (by have:=S9 (List.replicate N.nN false);simp at this;omega);have hlen:(BN N tokens).length=N.nN:=Jg.1;have hst:∀r∈N.rules,FQ tokens (BN N tokens) r=BN N tokens:=Jg.2;refine⟨⟨?_,?_⟩,hlen⟩
 ·intro r hr he
  have h2:=hst r hr;unfold FQ at h2;rw[aq he]at h2;have h3:=NK h2 r.1;rw[FL,aq ⟨rfl,by rw[hlen];exact hN.lt r hr⟩]at h3;exact h3.symm
 ·intro T hT
  refine M9 (FQ tokens) (λs=>∀n,yU s n=true->T n=true) N.rules (λs hs r hr=>?_) _ _ (λn h=>by rw[MQ]at h;cases h);intro n hn;unfold FQ at hn;split at hn
  ·rename_i he
   rw[FL]at hn;split at hn
   ·rename_i h1
    rw[<-h1.1];exact hT r hr (kI hs he)
   ·exact hs n hn
  ·exact hs n hn
def JZ (ok:List Bool):List Pt->List Bool
 | []=>ok
 | .tok _::ps=>JZ ok ps
 | .yB n::ps=>JZ (ok.set n true) ps
def VV (N:NG) (S:Nat->Bool):Prop:=S 0=true/\∀r∈N.rules,S r.1=true->∀n,Pt.yB n∈r.2->S n=true
def FY (ok:List Bool) (r:Nat × List Pt):List Bool:=if yU ok r.1 then JZ ok r.2 else ok
def j4 (N:NG) (ok:List Bool):List Bool:=N.rules.foldl FY ok
def IV (N:NG):List Bool:=EK (j4 N) (N.nN+1) ((List.replicate N.nN false).set 0 true)
theorem oX (ps:List Pt):∀ok,(JZ ok ps).length=ok.length:=by
 induction ps with
 |nil=>intro ok;rfl
 |cons p r ih=>intro ok;cases p <;> simp[JZ,ih]
theorem YR (ps:List Pt):∀ok,(JZ ok ps=ok/\∀n,Pt.yB n∈ps->n<ok.length->yU ok n=true)\/GU (JZ ok ps)<GU ok:=by
 induction ps with
 |nil=>intro ok;exact .inl ⟨rfl,λn h=>by cases h⟩
 |cons p r ih=>
  intro ok;cases p with
  |tok t=>
   rcases ih ok with⟨h1,h2⟩ |h
   ·exact .inl ⟨h1,λn h=>by rcases bh.1 h with h |h;cases h;exact h2 n h⟩
   ·exact .inr h
  |yB n=>
   show(JZ (ok.set n true) r=ok/\_)\/GU (JZ (ok.set n true) r)<GU ok
   rcases PE ok n with h0 |h0
   ·rw[h0]
    rcases ih ok with⟨h1,h2⟩ |h
    ·refine .inl ⟨h1,λm h hm=>?_⟩
     rcases bh.1 h with h |h
     ·injection h with h;subst h
      have:=NK h0 m;rw[FL,aq ⟨rfl,hm⟩]at this;exact this.symm
     ·exact h2 m h hm
    ·exact .inr h
   ·right
    rcases ih (ok.set n true)with⟨h1,_⟩ |h
    ·rw[h1];exact h0
    ·omega
theorem eG  (ps:List Pt):∀ok,(∀n,yU ok n=true->T n=true)->(∀n,Pt.yB n∈ps->T n=true)->∀n,yU (JZ ok ps) n=true->T n=true:=by
 induction ps with
 |nil=>intro ok h _ n hn;exact h n hn
 |cons p r ih=>
  intro ok h hp;cases p with
  |tok t=>exact ih ok h (λn hn=>hp n (fj _ hn))
  |yB m=>
   refine ih (ok.set m true) (λn hn=>?_) (λn hn=>hp n (fj _ hn));rw[FL]at hn;split at hn
   ·rename_i h1;rw[<-h1.1];exact hp m (eo ..)
   ·exact h n hn
theorem UK (N:NG) (hN:N.Ok):Lq (VV N) (yU (IV N))/\(IV N).length=N.nN:=by
 have hstep:∀s:List Bool,(s.length=N.nN/\yU s 0=true)->∀r∈N.rules,(FY s r=s\/GU (FY s r)<GU s)/\((FY s r).length=N.nN/\yU (FY s r) 0=true):=by
  intro s hs r hr;unfold FY;split
  ·refine⟨(YR r.2 s).imp (λh=>h.1) id,by rw[oX];exact hs.1,?_⟩
   have:∀(ps:List Pt) (ok:List Bool),yU ok 0=true->yU (JZ ok ps) 0=true:=by
    intro ps
    induction ps with
    |nil=>intro ok h;exact h
    |cons p q ih=>
     intro ok h;cases p with
     |tok t=>exact ih ok h
     |yB m=>
      refine ih _ ?_;rw[FL];split
      ·rfl
      ·exact h
   exact this r.2 s hs.2
  ·exact⟨.inl rfl,hs⟩
 have h0:((List.replicate N.nN false).set 0 true).length=N.nN/\yU ((List.replicate N.nN false).set 0 true) 0=true:=by
  refine⟨by simp,?_⟩;rw[FL,aq ⟨rfl,by simpa using hN.pos⟩]
 have Jg:=MB FY GU (λs=>s.length=N.nN/\yU s 0=true) N.rules hstep (N.nN+1) _ h0 (by have:=S9 ((List.replicate N.nN false).set 0 true);simp at this;omega);have hlen:(IV N).length=N.nN:=Jg.1.1;have hst:∀r∈N.rules,FY (IV N) r=IV N:=Jg.2;refine⟨⟨⟨Jg.1.2,?_⟩,?_⟩,hlen⟩
 ·intro r hr he n hn
  have h2:=hst r hr;unfold FY at h2;rw[aq he]at h2
  rcases YR r.2 (IV N)with h3 |h3
  ·exact h3.2 n hn (by rw[hlen];exact hN.pn r hr n hn)
  ·have h4:GU (JZ (IV N) r.2)=GU (IV N):=congrArg GU h2
   omega
 ·intro T hT
  refine M9 FY (λs=>∀n,yU s n=true->T n=true) N.rules (λs hs r hr=>?_) _ _ (λn h=>?_)
  ·intro n hn
   unfold FY at hn;split at hn
   ·rename_i he
    exact eG r.2 s hs (hT.2 r hr (hs _ he)) n hn
   ·exact hs n hn
  ·rw[FL]at h
   split at h
   ·rename_i h1;rw[<-h1.1];exact hT.1
   ·rw[MQ]at h;cases h
end Go.Proofs.YtjjggdcnpndgjaaGreatDoor
