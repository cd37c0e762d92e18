import Derived.Test.YtjjggdcnpndgjaaGreatDoorHJ2
import Derived.Lib.SplitLaws
import Derived.Deep.QuietTactic
import Derived.BigQuiet
set_option linter.unusedSimpArgs false
namespace Go.Proofs.YtjjggdcnpndgjaaGreatDoor
abbrev eu:=@List.nil_append
abbrev ey:=@List.length_singleton
abbrev fy:=@List.getElem?_toArray
abbrev gj:=@List.mem_append
abbrev ir:=@List.mem_range
abbrev iz:=@List.size_toArray
abbrev je:=@Go.World.ownsRow_nil
abbrev jm:=@Option.getD_some
abbrev jv:=@List.map_cons
abbrev jw:=@Nat.lt_or_ge
abbrev ko:=@Option.map_some
abbrev kr:=@Go.wpAnyH_take
abbrev lu:=@Array.getD_eq_getD_getElem?
abbrev nj:=@List.all_eq_true
abbrev oa:=@Bool.or_eq_true
abbrev oo:=@List.findIdx?_eq_some_iff_getElem
abbrev ot:=@List.any_eq_true
abbrev oy:=@Bool.false_eq_true
abbrev qw:=@List.take_succ_cons
abbrev sr:=@Int.toNat_natCast
abbrev ug:=@Nat.add_zero
abbrev uz:=@List.setIfInBounds_toArray
abbrev vp:=@Go.AllReadyH.cons
abbrev xu:=@Go.mem_ready
abbrev xx:=@if_false
abbrev xz:=@if_true
abbrev xP:=@Ne.symm
abbrev xS:=@ByteArray.data_extract
abbrev xV:=@Array.toList_inj
abbrev yD:=@Go.getD_set_ne
abbrev yK:=@List.cons.inj
open Go.RowKit
variable {P:Program}{Q:Exit->Act->World->Prop}{S:World->Prop}{a:Act}{fuel i:Nat}{l:List ByteArray}{listed:Array Bool}{md:Region.Mode}{o:Oper}{ops:Array Oper}{p v:Value}{s:ByteArray}{w w':World}
def D9 (G:Gr) (l:List ByteArray):Gr × Int:=
 if(nth l 0).toList== [116,111,107,101,110]then
  (if D2 G.toks (nth l 1)then(G,3)
   else({G with toks:=G.toks++ [(nth l 1,C4 (nth l 2).data.toList,C4 (nth l 3).data.toList)]},RL {G with toks:=G.toks++ [(nth l 1,C4 (nth l 2).data.toList,C4 (nth l 3).data.toList)]} false))
 else if(nth l 0).toList== [115,119,97,112]then
  ({G with Vs:=G.Vs++ [(nth l 1,nth l 2,C4 (nth l 3).data.toList)]},RL {G with Vs:=G.Vs++ [(nth l 1,nth l 2,C4 (nth l 3).data.toList)]} false)
 else if(nth l 0).toList== [114,117,108,101]then
  (if BW G.names (nth l 1)then(G,3)
   else({G with names:=G.names++ [nth l 1],rules:=(Nc G.rules (nth l 1) (l.drop 3)).1++ [(nth l 1,(Nc G.rules (nth l 1) (l.drop 3)).2.1)]},
   RL {G with names:=G.names++ [nth l 1],rules:=(Nc G.rules (nth l 1) (l.drop 3)).1++ [(nth l 1,(Nc G.rules (nth l 1) (l.drop 3)).2.1)]} (Nc G.rules (nth l 1) (l.drop 3)).2.2))
 else(G,RL G false)
theorem dD  (h:AR l=true) {x:UInt8}{r:List UInt8} (ht:((nth l 0).toList==x::r)=true):¬l.length=1:=by
 intro h1;unfold AR at h;rw[aq h1]at h;rw[lq]at ht;rw[ht]at h;cases h
theorem rQ  (h:AR l=true) (ht:((nth l 0).toList== [116,111,107,101,110])=true):l.length=4/\DS (nth l 1)=true/\DH (nth l 2)=true/\DH (nth l 3)=true:=by
 have h1:=dD h ht;unfold AR at h;rw[au h1,aq ht]at h;simpa[D6] using h
theorem mO  (h:AR l=true) (h0:((nth l 0).toList== [116,111,107,101,110])=false) (ht:((nth l 0).toList== [115,119,97,112])=true):l.length=4/\DS (nth l 1)=true/\DS (nth l 2)=true/\DH (nth l 3)=true:=by
 have h1:=dD h ht;unfold AR at h;rw[au h1,au Rf,aq ht]at h;simpa[BQ] using h
theorem PS  (h:DH s=true):s.size<=2/\DF s.data.toList 48 57=true:=by
 have hlen:s.data.toList.length=s.size:=by simp
 unfold DH KY J2 at h;simp only[fu,ia]at h;exact⟨by omega,h.1.2.2⟩
def JE (s:ByteArray):Nat->Nat->List (Nat × List ByteArray) × Nat
 |0,a=>([],a)
 |f+1,a=>
  if a<s.size then
   (if(BR s a).2=0\/AR (A9 (BR s a).1)=false then([],a)
    else((a,A9 (BR s a).1)::(JE s f (BR s a).2.toNat).1,(JE s f (BR s a).2.toNat).2))
  else([],a)
theorem JY {a:Nat} (h:¬(BR s a).2=0):a+(BR s a).1.size+1=(BR s a).2.toNat/\(BR s a).2.toNat<=s.size/\0<=(BR s a).2:=by
 unfold BR at h ⊢;split at h
 ·rename_i j hj
  simp only;have h1:=(oo.1 hj).1;simp at h1;refine⟨?_,by omega,by omega⟩;simp[ByteArray.size_extract];omega
 ·simp at h
theorem nV (s:ByteArray):∀(f f' a:Nat),s.size - a<=f->s.size - a<=f'->JE s f a=JE s f' a:=by
 intro f
 induction f with
 |zero=>
  intro f' a h h';have:¬a<s.size:=by omega
  cases f' with
  |zero=>rfl
  |succ f'=>simp[JE,this]
 |succ f ih=>
  intro f' a h h'
  by_cases ha:a<s.size
  ·cases f' with
   |zero=>omega
   |succ f'=>
    simp only[JE,aq ha]
    by_cases hb:(BR s a).2=0\/AR (A9 (BR s a).1)=false
    ·rw[aq hb,aq hb]
    ·rw[au hb,au hb]
     have h0:¬(BR s a).2=0:=λe=>hb (.inl e)
     have h1:=JY h0;rw[ih f' (BR s a).2.toNat (by omega) (by omega)]
  ·cases f' with
   |zero=>simp[JE,ha]
   |succ f'=>simp[JE,ha]
def AG (s:ByteArray) (a:Nat):List (Nat × List ByteArray) × Nat:=JE s (s.size - a) a
theorem YB {a:Nat} (h:¬a<s.size):AG s a=([],a):=by
 unfold AG;have:s.size - a=0:=by omega
 rw[this];rfl
theorem Y6 {a:Nat} (h:a<s.size) (hb:(BR s a).2=0\/AR (A9 (BR s a).1)=false):AG s a=([],a):=by
 unfold AG;obtain⟨f,hf⟩:∃f,s.size - a=f+1:=⟨s.size - a - 1,by omega⟩;rw[hf];simp only[JE,aq h,aq hb]
theorem V5 {a:Nat} (h:a<s.size) (h0:¬(BR s a).2=0) (hb:AR (A9 (BR s a).1)=true):
  AG s a=((a,A9 (BR s a).1)::(AG s (BR s a).2.toNat).1,(AG s (BR s a).2.toNat).2):=by
 have h1:=JY h0;unfold AG;obtain⟨f,hf⟩:∃f,s.size - a=f+1:=⟨s.size - a - 1,by omega⟩;rw[hf];have h2:¬((BR s a).2=0\/AR (A9 (BR s a).1)=false):=by
  rw[hb];simp[h0]
 simp only[JE,aq h,au h2];rw[nV s f (s.size - (BR s a).2.toNat) _ (by omega) (yF _)]
def E5:List (Nat × List ByteArray)->Gr->Int->Gr × Int × Option Nat
 | [],G,m=>(G,m,none)
 |x::r,G,m=>if(D9 G x.2).2=3 then(G,m,some x.1)else E5 r (D9 G x.2).1 (if(D9 G x.2).2=4/\m<0 then x.1 else m)
def G0:Gr:={toks:=[],Vs:=[],names:=[],rules:=[]}
def GR (s:ByteArray):Int × Int × Gr:=
 if 4000<s.size then(1,0,G0)
 else if(AG s 0).2<s.size then(2,(AG s 0).2,G0)
 else match E5 (AG s 0).1 G0 (-1)with
  | (_,_,some a)=>(3,a,G0)
  | (G,m,none)=>
   if 0<=m then(4,m,G0)
   else if G.names.length=0 then(4,s.size,G0)
   else match (AG s 0).1.find? λx=>FK G x.2 with
    |some x=>(5,x.1,G0)
    |none=>(0,0,G)
section
open Go.Lib Go.RowKit
theorem Y9 (c:UInt8):∀l:List UInt8,index l [c]=match l.findIdx? (· ==c)with |some j=>(j:Int) |none=> -1
 | []=>by simp[index]
 |b::l=>by
  rw[index,List.findIdx?_cons]
  by_cases h:b=c
  ·subst h;simp[List.isPrefixOf]
  ·have h1:([c]:List UInt8).isPrefixOf (b::l)=false:=by simp[List.isPrefixOf,xP h]
   have h2:(b==c)=false:=by simpa using h
   rw[h1,h2,Y9 c l];cases l.findIdx? (· ==c)with
   |none=>simp
   |some j=>
    simp only[ko,oy,xx];rw[au (by simp)];simp
def wl:List UInt8->List UInt8->List (List UInt8)
 | [],cur=>[cur]
 |b::r,cur=>if b=32 then cur::wl r []else wl r (cur++ [b])
theorem bZ:∀(l:List UInt8) (d:List ByteArray) (c:ByteArray),((l.foldl E9 (d,c)).1++ [(l.foldl E9 (d,c)).2]).map (·.data.toList)=d.map (·.data.toList)++wl l c.data.toList
 | [],d,c=>by simp[wl]
 |b::r,d,c=>by
  rw[ld]
  by_cases hb:b=32
  ·have e:E9 (d,c) b=(d++ [c],ByteArray.empty):=by unfold E9;rw[aq hb]
   rw[e,bZ r (d++ [c]) ByteArray.empty,wl,aq hb];simp
  ·have e:E9 (d,c) b=(d,c++⟨#[b]⟩):=by unfold E9;rw[au hb]
   rw[e,bZ r d (c++⟨#[b]⟩),wl,au hb];simp
theorem pP (s:ByteArray):(A9 s).map (·.data.toList)=wl s.data.toList []:=by
 have:=bZ s.data.toList [] ByteArray.empty;simpa[A9,Oy] using this
def sp (l:List UInt8):List (List UInt8):=splitK [32] 0 (count l [32]) l
theorem x8 (l:List UInt8):sp (32::l)=[]::sp l:=by
 unfold sp;rw[count_cons_eq,Nat.add_comm,splitK];have h:index (32::l) [32]=0:=by rw[index];simp[List.isPrefixOf]
 rw[au (by rw[h];decide),h];simp
theorem sQ (l:List UInt8):∃x r,sp l=x::r:=by
 unfold sp;cases count l [32]with
 |zero=>exact⟨_,_,rfl⟩
 |succ k=>
  unfold splitK;split
  ·exact⟨_,_,rfl⟩
  ·exact⟨_,_,rfl⟩
theorem tP {b:UInt8} (hb:b≠32) (l:List UInt8) {x:List UInt8}{r:List (List UInt8)} (h:sp l=x::r):sp (b::l)=(b::x)::r:=by
 have hp:([32]:List UInt8).isPrefixOf (b::l)=false:=by simp[List.isPrefixOf,xP hb]
 have hix:index (b::l) [32]=if index l [32]== -1 then -1 else index l [32]+1:=by rw[index,hp];simp
 unfold sp at h ⊢;rw[count_cons_ne b 32 l hb];cases hc:count l [32]with
 |zero=>
  rw[hc]at h;simp only[splitK]at h ⊢;injection h with h1 h2
  rw[h1,h2]
 |succ k=>
  rw[hc]at h;simp only[splitK]at h ⊢
  by_cases hm:index l [32]= -1
  ·rw[aq (lq.2 hm)]at h
   rw[aq (by rw[hix,aq (lq.2 hm)];rfl)];injection h with h1 h2
   rw[h1,h2]
  ·have hge:=index_ge l [32]
   obtain⟨j,hj⟩:∃j:Nat,index l [32]=j:=⟨(index l [32]).toNat,by omega⟩;have e1:index (b::l) [32]=((j+1:Nat):Int):=by rw[hix,au (λe=>hm (lq.1 e)),hj];omega
   rw[au (λe=>hm (lq.1 e)),hj]at h;rw[au (by rw[e1];simp;omega),e1];simp only[sr,ug,qw]at h ⊢;injection h with h1 h2
   rw[<-h1,<-h2]
   congr 1
theorem jP:∀(l cur:List UInt8) (x:List UInt8) (r:List (List UInt8)),sp l=x::r->wl l cur=(cur++x)::r
 | [],cur,x,r,h=>by
  have:sp []=[[]]:=rfl;rw[this]at h;injection h with h1 h2
  subst h1;subst h2;simp[wl]
 |b::l,cur,x,r,h=>by
  obtain⟨y,q,hy⟩:=sQ l
  by_cases hb:b=32
  ·subst hb
   rw[x8]at h;injection h with h1 h2
   subst h1;rw[wl,aq rfl,jP l [] y q hy];rw[<-h2,hy];simp
  ·rw[tP hb l hy]at h
   injection h with h1 h2
   subst h1;subst h2;rw[wl,au hb,jP l (cur++ [b]) y q hy];simp
theorem fG {a b:List ByteArray} (h:a.map (·.data.toList)=b.map (·.data.toList)):a=b:=by
 induction a generalizing b with
 |nil=>cases b with |nil=>rfl |cons _ _=>simp at h
 |cons x r ih=>
  cases b with
  |nil=>simp at h
  |cons y q=>
   simp only[jv,List.cons.injEq]at h;have h1:x=y:=by
    obtain⟨⟨x⟩⟩:=x;obtain⟨⟨y⟩⟩:=y;have:=h.1;simp at this;subst this;rfl
   rw[h1,ih h.2]
theorem NR (s:ByteArray):splitB ⟨#[32]⟩ 0 (countB s ⟨#[32]⟩) s=A9 s:=by
 apply fG;rw[pP];obtain⟨x,r,h⟩:=sQ s.data.toList;rw[jP _ [] x r h];rw[splitB_data];simp only[eu];rw[<-h];rfl
theorem SD (s:ByteArray):countB s ⟨#[32]⟩+1=(A9 s).length:=by
 rw[<-NR s];exact(splitB_all ⟨#[32]⟩ (yF 1) 0 _ s rfl).symm
theorem mA (s:ByteArray) (k:Nat):(s.extract k s.size).data.toList=s.data.toList.drop k:=by
 simp only[xS,Array.toList_extract,List.extract_eq_take_drop];exact jk (by simp)
theorem qS (s:ByteArray) (k:Nat):
  (¬(BR s k).2=0->(⟨(cut (s.extract k s.size).data.toList [10]).1.toArray⟩:ByteArray)=(BR s k).1/\(cut (s.extract k s.size).data.toList [10]).2.2=true)/\
  ((BR s k).2=0->(cut (s.extract k s.size).data.toList [10]).2.2=false):=by
 rw[mA];have hi:=Y9 10 (s.data.toList.drop k);unfold BR;cases hf:(s.data.toList.drop k).findIdx? (· ==10)with
 |none=>
  rw[hf]at hi;simp only at hi;refine⟨λh=>absurd rfl h,λ_=>?_⟩;unfold cut;rw[hi];rfl
 |some j=>
  have hi:index (s.data.toList.drop k) [10]=(j:Int):=by rw[hi,hf]
  refine⟨λ_=>?_,λh=>?_⟩
  ·unfold cut
   rw[aq (by rw[hi];omega),hi];refine⟨?_,rfl⟩;apply ByteArray.ext;apply xV.1;simp only[xS,Array.toList_extract,List.extract_eq_take_drop];rw[show k+j - k=(j:Int).toNat by omega]
  ·simp only at h
   omega
end
def AW (l:List ByteArray):Nat:=if(nth l 0).toList== [116,111,107,101,110]then 0 else if(nth l 0).toList== [115,119,97,112]then 1 else 2
def AF (ls:List (Nat × List ByteArray)):List (Nat × Nat × List ByteArray):=(ls.filter λx=>decide (¬x.2.length=1)).map λx=>(x.1,AW x.2,x.2)
def EM (w:World) (p:Value) (l:List ByteArray):Prop:=
 ∃(g n cap:Nat) (ad:Option Addr) (cs:Array Value),p=.slice ad n cap/\l.length=1+n/\n<=cap/\cap<=9223372036854775807/\w.heap[g]?=some (.cells cs 9 (0,0))/\
  (∀j,j<l.length->cs[j]?=some (.string (nth l j)))/\(0<n->ad=some (af g 1))
def OI (ls:List (Nat × Nat × List ByteArray)) (pv:List Value):List Value:=(ls.zip pv).flatMap λt=>[ab t.1.1,ab t.1.2.1,t.2]
structure Ac (w:World) (B:Nat) (v:Value) (ls:List (Nat × Nat × List ByteArray)) (pv:List Value):Prop where
 row:w.ownsRow B 325 3 v ls.length (OI ls pv)
 Cz:pv.length=ls.length
 Dm:∀(i:Nat) (x:Nat × Nat × List ByteArray) (p:Value),ls[i]?=some x->pv[i]?=some p->EM w p x.2.2
theorem EM.keeps {S:List Nat} (h:EM w p l) (hk:A1 w w' S) (hS:∀g cs,w.heap[g]?=some (.cells cs 9 (0,0))->g∉S):EM w' p l:=by
 obtain⟨g,n,cap,ad,cs,h1,h2,h3,h4,h5,h6,h7⟩:=h;exact⟨g,n,cap,ad,cs,h1,h2,h3,h4,(hk.block g (ak h5) (hS g cs h5)).trans h5,h6,h7⟩
theorem EM.below  (h:EM w p l) (hb:Below w.heap.size w w'):EM w' p l:=h.keeps (A1.yX hb []) (by simp)
theorem Ac.below {B:Nat}{ls:List (Nat × Nat × List ByteArray)}{pv:List Value} (h:Ac w B v ls pv) (hb:Below w.heap.size w w'):Ac w' B v ls pv where
 row:=A7 h.row (A1.yX hb []) (by simp)
 Cz:=h.Cz
 Dm:=λi x p hx hp=>(h.Dm i x p hx hp).below hb
theorem Ac.nil (w:World) (B:Nat):Ac w B (.slice none 0 0) [] [] where
 row:=je _ _ _ _
 Cz:=rfl
 Dm:=λi x p hx=>by simp at hx
theorem Ac.push {w1:World}{B:Nat}{v':Value}{ls:List (Nat × Nat × List ByteArray)}{pv:List Value} (h:Ac w B v ls pv) (hk:A1 w w1 v.ownBlock.toList) {x:Nat × Nat × List ByteArray} (hp:EM w p x.2.2)
  (hown:w1.ownsRow B 325 3 v' (ls.length+1) (OI ls pv++ [ab x.1,ab x.2.1,p])):Ac w1 B v' (ls++ [x]) (pv++ [p]):=by
 have hl:=h.Cz;have hoff:∀g cs,w.heap[g]?=some (.cells cs 9 (0,0))->g∉v.ownBlock.toList:=by
  intro g cs hg hm;exact A5 h.row hg (by decide) (by
   cases hv:v.ownBlock with
   |none=>rw[hv]at hm;simp at hm
   |some k=>rw[hv]at hm;simp at hm;rw[hm])
 refine⟨?_,by simp[hl],λi y q hy hq=>?_⟩
 ·have e1:OI (ls++ [x]) (pv++ [p])=OI ls pv++ [ab x.1,ab x.2.1,p]:=by
   unfold OI;rw[List.zip_append hl.symm];simp
  rw[e1,lA];exact hown
 ·by_cases hi:i<ls.length
  ·rw[aL hi]at hy
   rw[aL (by omega)]at hq;exact(h.Dm i y q hy hq).keeps hk hoff
  ·rw[zQ (by omega)]at hy
   rw[zQ (by omega)]at hq;obtain⟨h1,_⟩:=yS.1 hy;simp at h1;rw[show i - ls.length=0 by omega]at hy;rw[show i - pv.length=0 by omega]at hq;simp at hy hq;subst hy;subst hq;exact hp.keeps hk hoff
def DY (i:Nat) (l:List ByteArray):Bool:=
 if i=0 then((nth l 0).toList== [116,111,107,101,110])&&D6 l else if i=1 then((nth l 0).toList== [115,119,97,112])&&BQ l else((nth l 0).toList== [114,117,108,101])&&CY l
theorem WG  (h:(A9 s).length=1):nth (A9 s) 0=s:=by
 apply fG (a:=[nth (A9 s) 0]) (b:=[s]) ?_ |> yK |>.1;have h1:=NR s;have h2:=SD s;have h3:Lib.countB s ⟨#[32]⟩=0:=by omega
 rw[h3]at h1;rw[<-h1];rfl
theorem YZ  (hne:s.toList.isEmpty=false):AR (A9 s)=(DY 0 (A9 s)||(DY 1 (A9 s)||DY 2 (A9 s))):=by
 unfold AR DY
 by_cases h1:(A9 s).length=1
 ·rw[aq h1,WG h1,hne]
  have h2:D6 (A9 s)=false:=by unfold D6;rw[fq (by omega)];rfl
  have h3:BQ (A9 s)=false:=by unfold BQ;rw[fq (by omega)];rfl
  have h4:CY (A9 s)=false:=by unfold CY NI;rw[fq (by omega)];rfl
  rw[h2,h3,h4];simp
 ·rw[au h1]
  cases ht:((nth (A9 s) 0).toList== [116,111,107,101,110])
  ·cases hw:((nth (A9 s) 0).toList== [115,119,97,112])
   ·cases hr:((nth (A9 s) 0).toList== [114,117,108,101]) <;> simp
   ·rw[lq]at hw
    rw[hw];simp
  ·rw[lq]at ht
   rw[ht];simp
theorem jM  (hi:i<3) (h:DY i l=true):AW l=i/\¬l.length=1:=by
 unfold DY at h;unfold AW;have h':i=0\/i=1\/i=2:=by omega
 rcases h' with rfl |rfl |rfl
 ·simp only[fu,xz]at h
  rw[aq h.1];refine⟨rfl,λe=>?_⟩;have:=h.2;unfold D6 at this;rw[fq (by omega)]at this;cases this
 ·have h:((nth l 0).toList== [115,119,97,112])=true/\BQ l=true:=by simpa using h
  have e:=h.1;rw[lq]at e;rw[e];refine⟨rfl,λe=>?_⟩;have:=h.2;unfold BQ at this;rw[fq (by omega)]at this;cases this
 ·have h:((nth l 0).toList== [114,117,108,101])=true/\CY l=true:=by simpa using h
  have e:=h.1;rw[lq]at e;rw[e];refine⟨rfl,λe=>?_⟩;have:=h.2;unfold CY NI at this;rw[fq (by omega)]at this;cases this
theorem SP  (h:s.toList.isEmpty=true):(A9 s).length=1/\AR (A9 s)=true:=by
 have e:s.data.toList=[]:=by rw[jf]at h;simpa using h
 have e2:A9 s=[ByteArray.empty]:=by unfold A9 Oy;rw[e];rfl
 rw[e2];exact⟨rfl,by unfold AR nth;simp[jf]⟩
section
theorem tkA  (i:Nat) {oi:Oper} (v:Value)  (hi:ops[i]?=some oi)
  (hy:∀w,S w->(execOp a.eval oi).run P w=.ok (.value v) w) (hS:S w) (h:wpAnyH P md ops Q S fuel (listed.setIfInBounds i true) (a.put oi.dst v) w)
  (hw:Region.wanted oi (yielded ops a.tmps)=true:=by rfl) (hs:Region.noSelect ops=true:=by kernel_rfl) (hf:Region.free md ops listed i=true:=by kernel_rfl) (hr:(Region.ready md ops listed).contains i=true:=by kernel_rfl)
  (hQ:∀c a w,Q (.panic c) (a.put oi.dst v) w->Q (.panic c) a w:=by exact λ_ _ _ h=>h):wpAnyH P md ops Q S (fuel+1) listed a w:=
 kr hi hs hf hr hQ (.inl ⟨hw,hy⟩) hS h
theorem tB  (i:Nat) {oi:Oper} (hS:S w) (h:wpAnyH P md ops Q S fuel (listed.setIfInBounds i true) (a.put oi.dst v) w) (hi:ops[i]?=some oi:=by rfl)
  (hy:∀w,S w->(execOp a.eval oi).run P w=.ok (.value v) w:=by(intro w hSw;(try dsimp only at hSw);first | (go_simp;done) | (go_simp;with_reducible rfl)))
  (hw:Region.wanted oi (yielded ops a.tmps)=true:=by rfl) (hs:Region.noSelect ops=true:=by kernel_rfl) (hf:Region.free md ops listed i=true:=by kernel_rfl) (hr:(Region.ready md ops listed).contains i=true:=by kernel_rfl)
  (hQ:∀c a w,Q (.panic c) (a.put oi.dst v) w->Q (.panic c) a w:=by exact λ_ _ _ h=>h):wpAnyH P md ops Q S (fuel+1) listed a w:=
 kr hi hs hf hr hQ (.inl ⟨hw,hy⟩) hS h
theorem tS  (i:Nat) 
  (h:∀K':Act->World->Prop,Shut (∀a w,S w->(S w->wpAnyH P md ops Q S fuel (listed.setIfInBounds i true) a w)->K' a w)->if Region.wanted o (yielded ops a.tmps)=true then Oper.wp P o a w K' Q else K' (a.put o.dst undef) w)
  (ho:ops[i]?=some o:=by rfl) (hr:Region.ready md ops listed=[i]:=by kernel_rfl):wpAnyH P md ops Q S (fuel+1) listed a w:=
 wpAnyH_ready hr (by simp) (vp ho h AllReadyH.nil)
theorem zA {α:Type _}{xs:List α} (h:i<xs.toArray.size):xs.toArray[i]=xs[i]'Kb:=rfl
theorem zB {α:Type _} (a:α) (bs:List α) (i:Nat) (h:i+1< (a::bs).length):(a::bs)[i+1]=bs[i]'Kb:=rfl
theorem zC {α:Type _} (a:α) (bs:List α) (h:0< (a::bs).length):(a::bs)[0]=a:=rfl
theorem zD {α:Type _} (l:List α) (i:Nat) (a:α):l.toArray.setIfInBounds i a=(l.set i a).toArray:=uz l i a
theorem zE {α:Type _}{x:α}{xs:List α}{a:α}:(x::xs).set 0 a=a::xs:=rfl
theorem zF {α:Type _}{x:α}{xs:List α}{n:Nat}{a:α}:(x::xs).set (n+1) a=x::xs.set n a:=rfl
theorem tL {P Q:Prop} (h:Q) (e:P=Q:=by first | (simp only[zA,zB,zC,Act.put,zD,zE,zF];with_reducible rfl) | with_reducible rfl):P:=e.symm.subst (motive:=λx=>x) h
theorem tM {P Q:Prop} (h:Q) (e:P=Q:=by first | (simp only[zA,zB,zC];with_reducible rfl) | with_reducible rfl):P:=e.symm.subst (motive:=λx=>x) h
def EX (R:Act->World->Prop):Exit->Act->World->Prop
 | .normal,a,w=>R a w
 |_,_,_=>False
def BM (o:Oper):Oper:={o with op:=.move (.const undef)}
def AB:List Oper->List Oper
 | []=>[]
 | [o]=>[BM o]
 |o::p::r=>o::AB (p::r)
theorem OA:∀l:List Oper,(AB l).length=l.length
 | []=>rfl
 | [_]=>rfl
 |_::p::r=>by simp[AB,OA (p::r)]
theorem KZ:∀(l:List Oper) (i:Nat),i+1≠l.length->(AB l)[i]?=l[i]?
 | [],i,_=>rfl
 | [o],i,h=>by
  match i with
  |0=>simp at h
  |i+1=>rfl
 |o::p::r,i,h=>by
  match i with
  |0=>rfl
  |i+1=>
   show(AB (p::r))[i]?=(p::r)[i]?;exact KZ (p::r) i (by simp at h ⊢;omega)
theorem I6:∀(l:List Oper) (o:Oper),l.getLast?=some o->(AB l)[l.length - 1]?=some (BM o)/\l[l.length - 1]?=some o
 | [],o,h=>by simp at h
 | [x],o,h=>by simp at h;subst h;exact⟨rfl,rfl⟩
 |x::p::r,o,h=>by
  have:=I6 (p::r) o Kb;refine⟨?_,?_⟩
  ·show(x::AB (p::r))[(p::r).length]?=_
   simpa using this.1
  ·simpa using this.2
def MA (l:List Oper):Bool:=
 match l.getLast? with
 |none=>false
 |some o=>o.guard.isNone&&(o.dst.isNone&&((List.range (l.length - 1)).all (λj=>o.after.toList.any λe=>Region.binds .any e&&(e.on==j||((l[e.on]?).map λx=>x.after.toList.any λe2=>Region.binds .any e2&&e2.on==j).getD false))&&
   (List.range l.length).all λi=>((l[i]?).map λx=>x.after.toList.all λe=>decide (e.on<i)).getD true))
section
variable {P:Program}{Q:Exit->Act->World->Prop}{S:World->Prop}
theorem KK (l:List Oper) (listed:Array Bool):Region.ready .any (AB l).toArray listed=Region.ready .any l.toArray listed:=by
 unfold Region.ready;rw[iz,iz,OA];apply List.filter_congr;intro i hi;rw[ir]at hi
 congr 1
 by_cases h:i+1=l.length
 ·cases hl:l.getLast? with
  |none=>rw[List.getLast?_eq_none_iff]at hl;subst hl;simp at hi
  |some o=>
   have:=I6 l o hl;have e:i=l.length - 1:=by omega
   rw[fy,fy,e,this.1,this.2];rfl
 ·rw[fy,fy,KZ l i h]
theorem SU (l:List Oper) (t:Array Value):yielded (AB l).toArray t=yielded l.toArray t:=by
 funext j
 unfold yielded;rw[fy,fy]
 by_cases h:j+1=l.length
 ·cases hl:l.getLast? with
  |none=>rw[List.getLast?_eq_none_iff]at hl;subst hl;rfl
  |some o=>
   have:=I6 l o hl;have e:j=l.length - 1:=by omega
   rw[e,this.1,this.2];rfl
 ·rw[KZ l j h]
theorem US {R:Act->World->Prop}{K K':Act->World->Prop} (hK:∀a w,K a w->K' a w) (h:o.wp P a w K (EX R)\/(o.asks P a w/\LetsOut (EX R))):
  o.wp P a w K' Q\/(o.asks P a w/\LetsOut Q):=by
 rcases h with h | ⟨_,a',w',h⟩
 ·left
  unfold Oper.wp at*
  generalize (execOp a.eval o).run P w=r at*
  cases r with
  |ok n w'=>
   cases n <;> simp only[Oper.upon]at h ⊢ <;>
    first
     |exact hK _ _ h
     |exact Calls.mono h (λe w'' he=>by
       cases e with
       |returned v=>exact hK _ _ he
       |panicked c=>exact False.elim he
       |outgrown=>obtain⟨_,_,he⟩:=he;exact False.elim he)
     |exact Rows.mono h (λ_ _ he=>hK _ _ he)
  |halt x w'=>
   cases x <;> simp only[Oper.upon]at h ⊢
   case panic v=>exact False.elim h
 ·exact False.elim h
theorem YS {l:List Oper} (hB:MA l=true)  (hs:listed.size=l.length) (h:Region.ready .any l.toArray listed=[]):∀i,i<l.length->listed.getD i true=true:=by
 intro i
 induction i using Nat.strongRecOn with
 |_ i ih=>
  intro hi;cases hv:listed.getD i true with
  |true=>rfl
  |false=>
   have hmem:i∈Region.ready .any l.toArray listed:=by
    rw[xu];refine⟨hv,l[i],by simp[hi],λe he hb=>?_⟩;unfold MA at hB;split at hB
    ·cases hB
    ·simp only[fu,nj,ir]at hB
     have h1:=hB.2.2.2 i hi;rw[gE hi]at h1;simp only[ko,jm,nj,ia]at h1;have h2:=h1 e aaC;have h3:=ih e.on h2 (by omega);rw[lu]at h3 ⊢;rw[jt (by omega)]at h3 ⊢;simpa using h3
   rw[h]at hmem;cases hmem
def M3 (l:List Oper) (listed:Array Bool):Prop:=∀(k:Nat) (o:Oper),l[k]?=some o->listed.getD k false=true->∀e∈o.after,Region.binds .any e=true->listed.getD e.on false=true
theorem M3.step {l:List Oper} (hc:M3 l listed)  (hi:i∈Region.ready .any l.toArray listed):M3 l (listed.setIfInBounds i true):=by
 intro k o hk hl e he hb
 by_cases hki:i=k
 ·subst hki
  obtain⟨_,o',h1,h2⟩:=xu.1 hi;rw[fy,hk]at h1;injection h1 with h1
  subst h1;exact getD_set_true (h2 e he hb)
 ·rw[yD false hki]at hl
  exact getD_set_true (hc k o hk hl e he hb)
theorem jC {l:List Oper} (hB:MA l=true)  (hc:M3 l listed) (h:l.length - 1∈Region.ready .any l.toArray listed):∀j,j+1<l.length->listed.getD j false=true:=by
 intro j hj;obtain⟨_,o,ho,hall⟩:=xu.1 h;unfold MA at hB;split at hB
 ·cases hB
 ·rename_i o' hl
  have h2:=(I6 l o' hl).2;rw[fy,h2]at ho;injection ho with ho
  subst ho;simp only[fu,nj,ir]at hB;have h3:=hB.2.2.1 j (by omega);rw[ot]at h3;obtain⟨e,he,h3⟩:=h3;simp only[fu,oa,lq]at h3;have h4:=hall e aaC h3.1
  rcases h3.2 with h5 |h5
  ·rw[h5]at h4;exact h4
  ·cases hx:l[e.on]? with
   |none=>rw[hx]at h5;simp at h5
   |some x=>
    rw[hx]at h5;simp only[ko,jm,ot,fu,lq]at h5;obtain⟨e2,Pa,hb2,hj2⟩:=h5;have:=hc e.on x hx h4 e2 (by simpa using Pa) hb2;rw[hj2]at this;exact this
theorem SL {l:List Oper} (ho:l.getLast?=some o) (hB:MA l=true):∀(fuel:Nat) (listed:Array Bool) (a:Act) (w:World),listed.size=l.length->M3 l listed->listed.getD (l.length - 1) true=false->
  wpAny P .any (AB l).toArray (EX λa w=>wpList P #[o] Q [o] a w) fuel listed a w->wpAny P .any l.toArray Q fuel listed a w:=by
 have hpos:0<l.length:=by cases l with |nil=>simp at ho |cons _ _=>simp
 intro fuel
 induction fuel with
 |zero=>
  intro listed a w hs hcl hl h;have h1:=h.1;rw[KK]at h1;have:=YS hB hs h1 (l.length - 1) (by omega);rw[hl]at this;cases this
 |succ fuel ih=>
  intro listed a w hs hcl hl h;refine⟨λh1=>?_,λi hi=>?_⟩
  ·have:=YS hB hs h1 (l.length - 1) (by omega)
   rw[hl]at this;cases this
  ·have h2:=h.2 i (by rw[KK];exact hi)
   unfold wpOp at h2 ⊢;have hio:∃oi,l[i]?=some oi:=by
    obtain⟨_,oi,h3,_⟩:=xu.1 hi;exact⟨oi,by simpa using h3⟩
   obtain⟨oi,hoi⟩:=hio
   by_cases Rh:i+1=l.length
   ·have e:i=l.length - 1:=by omega
    subst e;have hc:=I6 l o ho;rw[fy,hc.1]at h2;rw[fy,hc.2];have hg:o.guard=none/\o.dst=none:=by
     unfold MA at hB;rw[ho]at hB;simp only[fu,Option.isNone_iff_eq_none]at hB;exact⟨hB.1,hB.2.1⟩
    have hw1:Region.wanted (BM o) (yielded (AB l).toArray a.tmps)=true:=by
     unfold Region.wanted BM;rw[hg.1]
    have hw2:Region.wanted o (yielded l.toArray a.tmps)=true:=by
     unfold Region.wanted;rw[hg.1]
    have hw3:Region.wanted o (yielded #[o] a.tmps)=true:=by
     unfold Region.wanted;rw[hg.1]
    simp only[hw1,hw2,xz]at h2 ⊢;have hnil:Region.ready .any l.toArray (listed.setIfInBounds (l.length - 1) true)=[]:=by
     rw[List.eq_nil_iff_forall_not_mem];intro j hj;obtain⟨h4,oj,h5,_⟩:=xu.1 hj;have hjl:j<l.length:=by
      rw[fy]at h5;exact(yS.1 h5).1
     by_cases aaH:j=l.length - 1
     ·subst aaH
      simp[hs]at h4
     ·rw[yD true (xP aaH)]at h4
      have h6:=jC hB hcl hi j (by omega);rw[lu,jt (by omega)]at h4 h6;simp at h4 h6;rw[h4]at h6;cases h6
    have hend:wpList P #[o] Q [o] a w:=by
     rcases h2 with h2 | ⟨_,a',w',h2⟩
     ·have h7:(BM o).wp P a w (wpAny P .any (AB l).toArray (EX λa w=>wpList P #[o] Q [o] a w) fuel (listed.setIfInBounds (l.length - 1) true)) (EX λa w=>wpList P #[o] Q [o] a w):=h2
      unfold Oper.wp at h7;have hr:(execOp a.eval (BM o)).run P w=.ok (.value undef) w:=by
       simp[execOp,BM,Act.eval]
      rw[hr]at h7;have h8:wpAny P .any (AB l).toArray (EX λa w=>wpList P #[o] Q [o] a w) fuel (listed.setIfInBounds (l.length - 1) true) (a.put o.dst undef) w:=h7;rw[hg.2]at h8;have h9:a.put none undef=a:=rfl;rw[h9]at h8;cases fuel with
      |zero=>exact h8.2
      |succ f=>exact h8.1 (by rw[KK];exact hnil)
     ·exact False.elim h2
    unfold wpList at hend;rw[hw3,aq rfl]at hend;refine hend.imp (λh=>Oper.wp_mono (λa' w' h'=>?_) h) id;cases fuel with
    |zero=>exact⟨hnil,h'⟩
    |succ f=>exact⟨λ_=>h',by rw[hnil];simp⟩
   ·rw[fy,KZ l i Rh,hoi]at h2
    rw[fy,hoi];simp only at h2 ⊢;rw[SU]at h2;have hs':(listed.setIfInBounds i true).size=l.length:=by simp[hs]
    have aaI:=hcl.step hi;have hl':(listed.setIfInBounds i true).getD (l.length - 1) true=false:=by rw[yD true (by omega)];exact hl
    split at h2
    ·rename_i hw
     rw[aq hw];exact US (λa' w' h'=>ih _ a' w' hs' aaI hl' h') h2
    ·rename_i hw
     rw[au hw];exact ih _ _ _ hs' aaI hl' h2
def AO:List Oper->Oper
 | []=>default
 | [o]=>o
 |_::p::r=>AO (p::r)
theorem LT:∀(l:List Oper),l≠ []->l.getLast?=some (AO l)
 | [],h=>absurd rfl h
 | [o],_=>rfl
 |x::p::r,_=>by
  have:=LT (p::r) (by simp);show(x::p::r).getLast?=some (AO (p::r));rw[List.getLast?_cons_cons];exact this
theorem AE {id:Nat}{l:List Oper} (S:World->Prop) (hm:P.follows .mixedOrders=true) (hB:MA l=true) (hS:S w.drew)
  (h:S w.drew->wpAnyH P .any (AB l).toArray (EX λa w=>wpList P #[AO l] Q [AO l] a w) S l.length (Array.replicate l.length false) a w.drew):(Code.region id l.toArray true).wp P Q a w:=by
 refine wp_region_any hm ?_;have ho:l.getLast?=some (AO l):=by
  refine LT l ?_;intro e;subst e;cases hB
 have hpos:0<l.length:=by cases l with |nil=>simp at ho |cons _ _=>simp
 rw[iz];refine SL ho hB _ _ _ _ (by simp) ?_ ?_ (wpAny_of_held _ _ _ _ (h hS))
 ·intro k o' hk hl
  rw[lu]at hl
  rcases jw k l.length with h' |h'
  ·simp[h']at hl
  ·simp[h']at hl
 rw[lu,jt yM];simp
end
end
theorem Tryz.info9:(Tryz.prog.info? 9).map (λi=>(i.zero,i.size,i.bytes))=some (some (.string ByteArray.empty),1,16):=by kernel_rfl
theorem uI (l:List UInt8):∀x∈(Oy l).1,x.size<=l.length:=by
 suffices h:∀(l:List UInt8) (p:List ByteArray × ByteArray) (n:Nat),(∀x∈p.1,x.size<=n)->p.2.size<=n->∀x∈(l.foldl E9 p).1,x.size<=n+l.length by
  have:=h l ([],ByteArray.empty) 0 (by simp) (by simp);simpa[Oy] using this
 intro l
 induction l with
 |nil=>intro p n h1 _ x hx;simpa using h1 x hx
 |cons b r ih=>
  intro p n h1 h2 x hx;rw[ld]at hx;have h3:=cU p b;have:=ih (E9 p b) (n+1) (by
   intro y hy;unfold E9 at hy;split at hy
   ·rcases gj.1 hy with hy |hy
    ·have:=h1 y hy;omega
    ·simp at hy;subst hy;omega
   ·have:=h1 y hy;omega) (by omega) x hx
  simp only[lC];omega
theorem VI (s:ByteArray):1<=(A9 s).length/\(A9 s).length<=s.size+1:=by
 have h:=l6 s.data.toList;have hlen:s.data.toList.length=s.size:=by simp
 unfold A9;simp only[lA,ey];omega
theorem SV (s:ByteArray) (j:Nat):(nth (A9 s) j).size<=s.size:=by
 have hlen:s.data.toList.length=s.size:=by simp
 have h1:=uI s.data.toList;have h2:=(l6 s.data.toList).2;unfold nth;rw[zh];cases h:(A9 s)[j]? with
 |none=>simp
 |some x=>
  have hm:=mG h;unfold A9 at hm
  rcases gj.1 hm with hm |hm
  ·have:=h1 x hm;simp only[jm];omega
  ·simp at hm;subst hm;simp only[jm];omega
theorem VJ (s:ByteArray) (a:Nat):(BR s a).1.size<=s.size:=by
 unfold BR;split
 ·simp[ByteArray.size_extract];omega
 ·simp
end Go.Proofs.YtjjggdcnpndgjaaGreatDoor
