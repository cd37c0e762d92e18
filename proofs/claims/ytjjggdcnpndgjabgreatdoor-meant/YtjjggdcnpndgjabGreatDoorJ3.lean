import Derived.Test.YtjjggdcnpndgjabGreatDoorJ2
import Derived.Lib.SplitLaws
import Derived.Deep.QuietTactic
import Derived.BigQuiet
set_option linter.unusedSimpArgs false
namespace Go.Proofs.YtjjggdcnpndgjabGreatDoor
open Go.RowKit
variable {P:Program}{Q:Exit->Act->World->Prop}{S:World->Prop}{a:Act}{fuel i:Nat}{l:List ByteArray}{listed:Array Bool}{md:Region.Mode}{o:Oper}{ops:Array Oper}{p v:Value}{s:ByteArray}{w w':World}
def D7 (G:Gr) (l:List ByteArray):Gr × Int:=
 if(nth l 0).toList== [116,111,107,101,110]then
  (if D2 G.toks (nth l 1)then(G,3)
   else({G with toks:=G.toks++ [(nth l 1,CV (nth l 2).data.toList,CV (nth l 3).data.toList)]},RB {G with toks:=G.toks++ [(nth l 1,CV (nth l 2).data.toList,CV (nth l 3).data.toList)]} false))
 else if(nth l 0).toList== [115,119,97,112]then
  ({G with swps:=G.swps++ [(nth l 1,nth l 2,CV (nth l 3).data.toList)]},RB {G with swps:=G.swps++ [(nth l 1,nth l 2,CV (nth l 3).data.toList)]} false)
 else if(nth l 0).toList== [114,117,108,101]then
  (if C4 G.names (nth l 1)then(G,3)
   else({G with names:=G.names++ [nth l 1],rules:=(rst G.rules (nth l 1) (l.drop 3)).1++ [(nth l 1,(rst G.rules (nth l 1) (l.drop 3)).2.1)]},
   RB {G with names:=G.names++ [nth l 1],rules:=(rst G.rules (nth l 1) (l.drop 3)).1++ [(nth l 1,(rst G.rules (nth l 1) (l.drop 3)).2.1)]} (rst G.rules (nth l 1) (l.drop 3)).2.2))
 else(G,RB G false)
theorem bP  (h:AR l=true) {x:UInt8}{r:List UInt8} (ht:((nth l 0).toList==x::r)=true):¬l.length=1:=by
 intro h1;unfold AR at h;rw[if_pos h1]at h;rw[beq_iff_eq]at ht;rw[ht]at h;cases h
theorem rP  (h:AR l=true) (ht:((nth l 0).toList== [116,111,107,101,110])=true):l.length=4/\DQ (nth l 1)=true/\DI (nth l 2)=true/\DI (nth l 3)=true:=by
 have h1:=bP h ht;unfold AR at h;rw[if_neg h1,if_pos ht]at h;simpa[D5] using h
theorem lJ  (h:AR l=true) (h0:((nth l 0).toList== [116,111,107,101,110])=false) (ht:((nth l 0).toList== [115,119,97,112])=true):l.length=4/\DQ (nth l 1)=true/\DQ (nth l 2)=true/\DI (nth l 3)=true:=by
 have h1:=bP h ht;unfold AR at h;rw[if_neg h1,if_neg y56Z,if_pos ht]at h;simpa[BS] using h
theorem PP  (h:DI s=true):s.size<=2/\DF s.data.toList 48 57=true:=by
 have hlen:s.data.toList.length=s.size:=by simp
 unfold DI L3 J1 at h;simp only[Bool.and_eq_true,decide_eq_true_eq]at h;exact⟨by omega,h.1.2.2⟩
def JD (s:ByteArray):Nat->Nat->List (Nat × List ByteArray) × Nat
 |0,a=>([],a)
 |f+1,a=>
  if a<s.size then
   (if(BT s a).2=0\/AR (AA (BT s a).1)=false then([],a)
    else((a,AA (BT s a).1)::(JD s f (BT s a).2.toNat).1,(JD s f (BT s a).2.toNat).2))
  else([],a)
theorem JZ {a:Nat} (h:¬(BT s a).2=0):a+(BT s a).1.size+1=(BT s a).2.toNat/\(BT s a).2.toNat<=s.size/\0<=(BT s a).2:=by
 unfold BT at h ⊢;split at h
 ·rename_i j hj
  simp only;have h1:=(List.findIdx?_eq_some_iff_getElem.1 hj).1;simp at h1;refine⟨?_,by omega,by omega⟩;simp[ByteArray.size_extract];omega
 ·simp at h
theorem l5 (s:ByteArray):∀(f f' a:Nat),s.size - a<=f->s.size - a<=f'->JD s f a=JD s f' a:=by
 intro f
 induction f with
 |zero=>
  intro f' a h h';have:¬a<s.size:=by omega
  cases f' with
  |zero=>rfl
  |succ f'=>simp[JD,this]
 |succ f ih=>
  intro f' a h h'
  by_cases ha:a<s.size
  ·cases f' with
   |zero=>omega
   |succ f'=>
    simp only[JD,if_pos ha]
    by_cases hb:(BT s a).2=0\/AR (AA (BT s a).1)=false
    ·rw[if_pos hb,if_pos hb]
    ·rw[if_neg hb,if_neg hb]
     have h0:¬(BT s a).2=0:=fun e=>hb (.inl e)
     have h1:=JZ h0;rw[ih f' (BT s a).2.toNat (by omega) (by omega)]
  ·cases f' with
   |zero=>simp[JD,ha]
   |succ f'=>simp[JD,ha]
def AG (s:ByteArray) (a:Nat):List (Nat × List ByteArray) × Nat:=JD s (s.size - a) a
theorem XE {a:Nat} (h:¬a<s.size):AG s a=([],a):=by
 unfold AG;have:s.size - a=0:=by omega
 rw[this];rfl
theorem YP {a:Nat} (h:a<s.size) (hb:(BT s a).2=0\/AR (AA (BT s a).1)=false):AG s a=([],a):=by
 unfold AG;obtain⟨f,hf⟩:∃f,s.size - a=f+1:=⟨s.size - a - 1,by omega⟩;rw[hf];simp only[JD,if_pos h,if_pos hb]
theorem V6 {a:Nat} (h:a<s.size) (h0:¬(BT s a).2=0) (hb:AR (AA (BT s a).1)=true):
  AG s a=((a,AA (BT s a).1)::(AG s (BT s a).2.toNat).1,(AG s (BT s a).2.toNat).2):=by
 have h1:=JZ h0;unfold AG;obtain⟨f,hf⟩:∃f,s.size - a=f+1:=⟨s.size - a - 1,by omega⟩;rw[hf];have h2:¬((BT s a).2=0\/AR (AA (BT s a).1)=false):=by
  rw[hb];simp[h0]
 simp only[JD,if_pos h,if_neg h2];rw[l5 s f (s.size - (BT s a).2.toNat) _ (by omega) (lR_ _)]
def E2:List (Nat × List ByteArray)->Gr->Int->Gr × Int × Option Nat
 | [],G,m=>(G,m,none)
 |x::r,G,m=>if(D7 G x.2).2=3 then(G,m,some x.1)else E2 r (D7 G x.2).1 (if(D7 G x.2).2=4/\m<0 then x.1 else m)
def G0:Gr:={toks:=[],swps:=[],names:=[],rules:=[]}
def GN (s:ByteArray):Int × Int × Gr:=
 if 4000<s.size then(1,0,G0)
 else if(AG s 0).2<s.size then(2,(AG s 0).2,G0)
 else match E2 (AG s 0).1 G0 (-1)with
  | (_,_,some a)=>(3,a,G0)
  | (G,m,none)=>
   if 0<=m then(4,m,G0)
   else if G.names.length=0 then(4,s.size,G0)
   else match (AG s 0).1.find? fun x=>FK G x.2 with
    |some x=>(5,x.1,G0)
    |none=>(0,0,G)
section
open Go.Lib Go.RowKit
theorem XM (c:UInt8):∀l:List UInt8,index l [c]=match l.findIdx? (· ==c)with |some j=>(j:Int) |none=> -1
 | []=>by simp[index]
 |b::l=>by
  rw[index,List.findIdx?_cons]
  by_cases h:b=c
  ·subst h;simp[List.isPrefixOf]
  ·have h1:([c]:List UInt8).isPrefixOf (b::l)=false:=by simp[List.isPrefixOf,Ne.symm h]
   have h2:(b==c)=false:=by simpa using h
   rw[h1,h2,XM c l];cases l.findIdx? (· ==c)with
   |none=>simp
   |some j=>
    simp only[Option.map_some,Bool.false_eq_true,if_false];rw[if_neg (by simp)];simp
def wl:List UInt8->List UInt8->List (List UInt8)
 | [],cur=>[cur]
 |b::r,cur=>if b=32 then cur::wl r []else wl r (cur++ [b])
theorem aC:∀(l:List UInt8) (d:List ByteArray) (c:ByteArray),((l.foldl E9 (d,c)).1++ [(l.foldl E9 (d,c)).2]).map (·.data.toList)=d.map (·.data.toList)++wl l c.data.toList
 | [],d,c=>by simp[wl]
 |b::r,d,c=>by
  rw[List.foldl_cons]
  by_cases hb:b=32
  ·have e:E9 (d,c) b=(d++ [c],ByteArray.empty):=by unfold E9;rw[if_pos hb]
   rw[e,aC r (d++ [c]) ByteArray.empty,wl,if_pos hb];simp
  ·have e:E9 (d,c) b=(d,c++⟨#[b]⟩):=by unfold E9;rw[if_neg hb]
   rw[e,aC r d (c++⟨#[b]⟩),wl,if_neg hb];simp
theorem p4 (s:ByteArray):(AA s).map (·.data.toList)=wl s.data.toList []:=by
 have:=aC s.data.toList [] ByteArray.empty;simpa[AA,wst] using this
def sp (l:List UInt8):List (List UInt8):=splitK [32] 0 (count l [32]) l
theorem wL (l:List UInt8):sp (32::l)=[]::sp l:=by
 unfold sp;rw[count_cons_eq,Nat.add_comm,splitK];have h:index (32::l) [32]=0:=by rw[index];simp[List.isPrefixOf]
 rw[if_neg (by rw[h];decide),h];simp
theorem s9 (l:List UInt8):∃x r,sp l=x::r:=by
 unfold sp;cases count l [32]with
 |zero=>exact⟨_,_,rfl⟩
 |succ k=>
  unfold splitK;split
  ·exact⟨_,_,rfl⟩
  ·exact⟨_,_,rfl⟩
theorem uM {b:UInt8} (hb:b≠32) (l:List UInt8) {x:List UInt8}{r:List (List UInt8)} (h:sp l=x::r):sp (b::l)=(b::x)::r:=by
 have hp:([32]:List UInt8).isPrefixOf (b::l)=false:=by simp[List.isPrefixOf,Ne.symm hb]
 have hix:index (b::l) [32]=if index l [32]== -1 then -1 else index l [32]+1:=by rw[index,hp];simp
 unfold sp at h ⊢;rw[count_cons_ne b 32 l hb];cases hc:count l [32]with
 |zero=>
  rw[hc]at h;simp only[splitK]at h ⊢;injection h with h1 h2
  rw[h1,h2]
 |succ k=>
  rw[hc]at h;simp only[splitK]at h ⊢
  by_cases hm:index l [32]= -1
  ·rw[if_pos (beq_iff_eq.2 hm)]at h
   rw[if_pos (by rw[hix,if_pos (beq_iff_eq.2 hm)];rfl)];injection h with h1 h2
   rw[h1,h2]
  ·have hge:=index_ge l [32]
   obtain⟨j,hj⟩:∃j:Nat,index l [32]=j:=⟨(index l [32]).toNat,by omega⟩;have e1:index (b::l) [32]=((j+1:Nat):Int):=by rw[hix,if_neg (fun e=>hm (beq_iff_eq.1 e)),hj];omega
   rw[if_neg (fun e=>hm (beq_iff_eq.1 e)),hj]at h;rw[if_neg (by rw[e1];simp;omega),e1];simp only[Int.toNat_natCast,Nat.add_zero,List.take_succ_cons]at h ⊢;injection h with h1 h2
   rw[<-h1,<-h2]
   congr 1
theorem jU:∀(l cur:List UInt8) (x:List UInt8) (r:List (List UInt8)),sp l=x::r->wl l cur=(cur++x)::r
 | [],cur,x,r,h=>by
  have:sp []=[[]]:=rfl;rw[this]at h;injection h with h1 h2
  subst h1;subst h2;simp[wl]
 |b::l,cur,x,r,h=>by
  obtain⟨y,q,hy⟩:=s9 l
  by_cases hb:b=32
  ·subst hb
   rw[wL]at h;injection h with h1 h2
   subst h1;rw[wl,if_pos rfl,jU l [] y q hy];rw[<-h2,hy];simp
  ·rw[uM hb l hy]at h
   injection h with h1 h2
   subst h1;subst h2;rw[wl,if_neg hb,jU l (cur++ [b]) y q hy];simp
theorem gH {a b:List ByteArray} (h:a.map (·.data.toList)=b.map (·.data.toList)):a=b:=by
 induction a generalizing b with
 |nil=>cases b with |nil=>rfl |cons _ _=>simp at h
 |cons x r ih=>
  cases b with
  |nil=>simp at h
  |cons y q=>
   simp only[List.map_cons,List.cons.injEq]at h;have h1:x=y:=by
    obtain⟨⟨x⟩⟩:=x;obtain⟨⟨y⟩⟩:=y;have:=h.1;simp at this;subst this;rfl
   rw[h1,ih h.2]
theorem O0 (s:ByteArray):splitB ⟨#[32]⟩ 0 (countB s ⟨#[32]⟩) s=AA s:=by
 apply gH;rw[p4];obtain⟨x,r,h⟩:=s9 s.data.toList;rw[jU _ [] x r h];rw[splitB_data];simp only[List.nil_append];rw[<-h];rfl
theorem SJ (s:ByteArray):countB s ⟨#[32]⟩+1=(AA s).length:=by
 rw[<-O0 s];exact(splitB_all ⟨#[32]⟩ (lR_ 1) 0 _ s rfl).symm
theorem lY (s:ByteArray) (k:Nat):(s.extract k s.size).data.toList=s.data.toList.drop k:=by
 simp only[ByteArray.data_extract,Array.toList_extract,List.extract_eq_take_drop];exact List.take_of_length_le (by simp)
theorem rW (s:ByteArray) (k:Nat):
  (¬(BT s k).2=0->(⟨(cut (s.extract k s.size).data.toList [10]).1.toArray⟩:ByteArray)=(BT s k).1/\(cut (s.extract k s.size).data.toList [10]).2.2=true)/\
  ((BT s k).2=0->(cut (s.extract k s.size).data.toList [10]).2.2=false):=by
 rw[lY];have hi:=XM 10 (s.data.toList.drop k);unfold BT;cases hf:(s.data.toList.drop k).findIdx? (· ==10)with
 |none=>
  rw[hf]at hi;simp only at hi;refine⟨fun h=>absurd rfl h,fun _=>?_⟩;unfold cut;rw[hi];rfl
 |some j=>
  have hi:index (s.data.toList.drop k) [10]=(j:Int):=by rw[hi,hf]
  refine⟨fun _=>?_,fun h=>?_⟩
  ·unfold cut
   rw[if_pos (by rw[hi];omega),hi];refine⟨?_,rfl⟩;apply ByteArray.ext;apply Array.toList_inj.1;simp only[ByteArray.data_extract,Array.toList_extract,List.extract_eq_take_drop];rw[show k+j - k=(j:Int).toNat by omega]
  ·simp only at h
   omega
end
def AV (l:List ByteArray):Nat:=if(nth l 0).toList== [116,111,107,101,110]then 0 else if(nth l 0).toList== [115,119,97,112]then 1 else 2
def AF (ls:List (Nat × List ByteArray)):List (Nat × Nat × List ByteArray):=(ls.filter fun x=>decide (¬x.2.length=1)).map fun x=>(x.1,AV x.2,x.2)
def EH (w:World) (p:Value) (l:List ByteArray):Prop:=
 ∃(g n cap:Nat) (ad:Option Addr) (cs:Array Value),p=.slice ad n cap/\l.length=1+n/\n<=cap/\cap<=9223372036854775807/\w.heap[g]?=some (.cells cs 9 (0,0))/\
  (∀j,j<l.length->cs[j]?=some (.string (nth l j)))/\(0<n->ad=some (af g 1))
def OM (ls:List (Nat × Nat × List ByteArray)) (pv:List Value):List Value:=(ls.zip pv).flatMap fun t=>[ab t.1.1,ab t.1.2.1,t.2]
structure LnV (w:World) (B:Nat) (v:Value) (ls:List (Nat × Nat × List ByteArray)) (pv:List Value):Prop where
 row:w.ownsRow B 194 3 v ls.length (OM ls pv)
 pvl:pv.length=ls.length
 wds:∀(i:Nat) (x:Nat × Nat × List ByteArray) (p:Value),ls[i]?=some x->pv[i]?=some p->EH w p x.2.2
theorem EH.keeps {S:List Nat} (h:EH w p l) (hk:A1 w w' S) (hS:∀g cs,w.heap[g]?=some (.cells cs 9 (0,0))->g∉S):EH w' p l:=by
 obtain⟨g,n,cap,ad,cs,h1,h2,h3,h4,h5,h6,h7⟩:=h;exact⟨g,n,cap,ad,cs,h1,h2,h3,h4,(hk.block g (lt_of_block h5) (hS g cs h5)).trans h5,h6,h7⟩
theorem EH.below  (h:EH w p l) (hb:Below w.heap.size w w'):EH w' p l:=h.keeps (A1.of_below hb []) (by simp)
theorem LnV.below {B:Nat}{ls:List (Nat × Nat × List ByteArray)}{pv:List Value} (h:LnV w B v ls pv) (hb:Below w.heap.size w w'):LnV w' B v ls pv where
 row:=A8 h.row (A1.of_below hb []) (by simp)
 pvl:=h.pvl
 wds:=fun i x p hx hp=>(h.wds i x p hx hp).below hb
theorem LnV.nil (w:World) (B:Nat):LnV w B (.slice none 0 0) [] [] where
 row:=World.ownsRow_nil _ _ _ _
 pvl:=rfl
 wds:=fun i x p hx=>by simp at hx
theorem LnV.push {w1:World}{B:Nat}{v':Value}{ls:List (Nat × Nat × List ByteArray)}{pv:List Value} (h:LnV w B v ls pv) (hk:A1 w w1 v.ownBlock.toList) {x:Nat × Nat × List ByteArray} (hp:EH w p x.2.2)
  (hown:w1.ownsRow B 194 3 v' (ls.length+1) (OM ls pv++ [ab x.1,ab x.2.1,p])):LnV w1 B v' (ls++ [x]) (pv++ [p]):=by
 have hl:=h.pvl;have hoff:∀g cs,w.heap[g]?=some (.cells cs 9 (0,0))->g∉v.ownBlock.toList:=by
  intro g cs hg hm;exact A6 h.row hg (by decide) (by
   cases hv:v.ownBlock with
   |none=>rw[hv]at hm;simp at hm
   |some k=>rw[hv]at hm;simp at hm;rw[hm])
 refine⟨?_,by simp[hl],fun i y q hy hq=>?_⟩
 ·have e1:OM (ls++ [x]) (pv++ [p])=OM ls pv++ [ab x.1,ab x.2.1,p]:=by
   unfold OM;rw[List.zip_append hl.symm];simp
  rw[e1,lA];exact hown
 ·by_cases hi:i<ls.length
  ·rw[aL hi]at hy
   rw[aL (by omega)]at hq;exact(h.wds i y q hy hq).keeps hk hoff
  ·rw[aR_ (by omega)]at hy
   rw[aR_ (by omega)]at hq;obtain⟨h1,_⟩:=gS_.1 hy;simp at h1;rw[show i - ls.length=0 by omega]at hy;rw[show i - pv.length=0 by omega]at hq;simp at hy hq;subst hy;subst hq;exact hp.keeps hk hoff
def DY (i:Nat) (l:List ByteArray):Bool:=
 if i=0 then((nth l 0).toList== [116,111,107,101,110])&&D5 l else if i=1 then((nth l 0).toList== [115,119,97,112])&&BS l else((nth l 0).toList== [114,117,108,101])&&CY l
theorem X0  (h:(AA s).length=1):nth (AA s) 0=s:=by
 apply gH (a:=[nth (AA s) 0]) (b:=[s]) ?_ |> List.cons.inj |>.1;have h1:=O0 s;have h2:=SJ s;have h3:Lib.countB s ⟨#[32]⟩=0:=by omega
 rw[h3]at h1;rw[<-h1];rfl
theorem ZA  (hne:s.toList.isEmpty=false):AR (AA s)=(DY 0 (AA s)||(DY 1 (AA s)||DY 2 (AA s))):=by
 unfold AR DY
 by_cases h1:(AA s).length=1
 ·rw[if_pos h1,X0 h1,hne]
  have h2:D5 (AA s)=false:=by unfold D5;rw[decide_eq_false (by omega)];rfl
  have h3:BS (AA s)=false:=by unfold BS;rw[decide_eq_false (by omega)];rfl
  have h4:CY (AA s)=false:=by unfold CY NU;rw[decide_eq_false (by omega)];rfl
  rw[h2,h3,h4];simp
 ·rw[if_neg h1]
  cases ht:((nth (AA s) 0).toList== [116,111,107,101,110])
  ·cases hw:((nth (AA s) 0).toList== [115,119,97,112])
   ·cases hr:((nth (AA s) 0).toList== [114,117,108,101]) <;> simp
   ·rw[beq_iff_eq]at hw
    rw[hw];simp
  ·rw[beq_iff_eq]at ht
   rw[ht];simp
theorem i6  (hi:i<3) (h:DY i l=true):AV l=i/\¬l.length=1:=by
 unfold DY at h;unfold AV;have h':i=0\/i=1\/i=2:=by omega
 rcases h' with rfl |rfl |rfl
 ·simp only[Bool.and_eq_true,if_true]at h
  rw[if_pos h.1];refine⟨rfl,fun e=>?_⟩;have:=h.2;unfold D5 at this;rw[decide_eq_false (by omega)]at this;cases this
 ·have h:((nth l 0).toList== [115,119,97,112])=true/\BS l=true:=by simpa using h
  have e:=h.1;rw[beq_iff_eq]at e;rw[e];refine⟨rfl,fun e=>?_⟩;have:=h.2;unfold BS at this;rw[decide_eq_false (by omega)]at this;cases this
 ·have h:((nth l 0).toList== [114,117,108,101])=true/\CY l=true:=by simpa using h
  have e:=h.1;rw[beq_iff_eq]at e;rw[e];refine⟨rfl,fun e=>?_⟩;have:=h.2;unfold CY NU at this;rw[decide_eq_false (by omega)]at this;cases this
theorem SD  (h:s.toList.isEmpty=true):(AA s).length=1/\AR (AA s)=true:=by
 have e:s.data.toList=[]:=by rw[ByteArray.toList_eq]at h;simpa using h
 have e2:AA s=[ByteArray.empty]:=by unfold AA wst;rw[e];rfl
 rw[e2];exact⟨rfl,by unfold AR nth;simp[ByteArray.toList_eq]⟩
section
theorem tkA  (i:Nat) {oi:Oper} (v:Value)  (hi:ops[i]?=some oi)
  (hy:∀w,S w->(execOp a.eval oi).run P w=.ok (.value v) w) (hS:S w) (h:wpAnyH P md ops Q S fuel (listed.setIfInBounds i true) (a.put oi.dst v) w)
  (hw:Region.wanted oi (yielded ops a.tmps)=true:=by rfl) (hs:Region.noSelect ops=true:=by kernel_rfl) (hf:Region.free md ops listed i=true:=by kernel_rfl) (hr:(Region.ready md ops listed).contains i=true:=by kernel_rfl)
  (hQ:∀c a w,Q (.panic c) (a.put oi.dst v) w->Q (.panic c) a w:=by exact fun _ _ _ h=>h):wpAnyH P md ops Q S (fuel+1) listed a w:=
 wpAnyH_take hi hs hf hr hQ (.inl ⟨hw,hy⟩) hS h
theorem tB  (i:Nat) {oi:Oper} (hS:S w) (h:wpAnyH P md ops Q S fuel (listed.setIfInBounds i true) (a.put oi.dst v) w) (hi:ops[i]?=some oi:=by rfl)
  (hy:∀w,S w->(execOp a.eval oi).run P w=.ok (.value v) w:=by(intro w hSw;(try dsimp only at hSw);first | (go_simp;done) | (go_simp;with_reducible rfl)))
  (hw:Region.wanted oi (yielded ops a.tmps)=true:=by rfl) (hs:Region.noSelect ops=true:=by kernel_rfl) (hf:Region.free md ops listed i=true:=by kernel_rfl) (hr:(Region.ready md ops listed).contains i=true:=by kernel_rfl)
  (hQ:∀c a w,Q (.panic c) (a.put oi.dst v) w->Q (.panic c) a w:=by exact fun _ _ _ h=>h):wpAnyH P md ops Q S (fuel+1) listed a w:=
 wpAnyH_take hi hs hf hr hQ (.inl ⟨hw,hy⟩) hS h
theorem tS  (i:Nat) 
  (h:∀K':Act->World->Prop,Shut (∀a w,S w->(S w->wpAnyH P md ops Q S fuel (listed.setIfInBounds i true) a w)->K' a w)->if Region.wanted o (yielded ops a.tmps)=true then Oper.wp P o a w K' Q else K' (a.put o.dst undef) w)
  (ho:ops[i]?=some o:=by rfl) (hr:Region.ready md ops listed=[i]:=by kernel_rfl):wpAnyH P md ops Q S (fuel+1) listed a w:=
 wpAnyH_ready hr (by simp) (AllReadyH.cons ho h AllReadyH.nil)
theorem zA {α:Type _}{xs:List α} (h:i<xs.toArray.size):xs.toArray[i]=xs[i]'y20Z:=rfl
theorem zB {α:Type _} (a:α) (bs:List α) (i:Nat) (h:i+1< (a::bs).length):(a::bs)[i+1]=bs[i]'y20Z:=rfl
theorem zC {α:Type _} (a:α) (bs:List α) (h:0< (a::bs).length):(a::bs)[0]=a:=rfl
theorem zD {α:Type _} (l:List α) (i:Nat) (a:α):l.toArray.setIfInBounds i a=(l.set i a).toArray:=List.setIfInBounds_toArray l i a
theorem zE {α:Type _}{x:α}{xs:List α}{a:α}:(x::xs).set 0 a=a::xs:=rfl
theorem zF {α:Type _}{x:α}{xs:List α}{n:Nat}{a:α}:(x::xs).set (n+1) a=x::xs.set n a:=rfl
theorem tL {P Q:Prop} (h:Q) (e:P=Q:=by first | (simp only[zA,zB,zC,Act.put,zD,zE,zF];with_reducible rfl) | with_reducible rfl):P:=e.symm.subst (motive:=fun x=>x) h
theorem tM {P Q:Prop} (h:Q) (e:P=Q:=by first | (simp only[zA,zB,zC];with_reducible rfl) | with_reducible rfl):P:=e.symm.subst (motive:=fun x=>x) h
def ER (R:Act->World->Prop):Exit->Act->World->Prop
 | .normal,a,w=>R a w
 |_,_,_=>False
def BM (o:Oper):Oper:={o with op:=.move (.const undef)}
def AC:List Oper->List Oper
 | []=>[]
 | [o]=>[BM o]
 |o::p::r=>o::AC (p::r)
theorem OA:∀l:List Oper,(AC l).length=l.length
 | []=>rfl
 | [_]=>rfl
 |_::p::r=>by simp[AC,OA (p::r)]
theorem KW:∀(l:List Oper) (i:Nat),i+1≠l.length->(AC l)[i]?=l[i]?
 | [],i,_=>rfl
 | [o],i,h=>by
  match i with
  |0=>simp at h
  |i+1=>rfl
 |o::p::r,i,h=>by
  match i with
  |0=>rfl
  |i+1=>
   show(AC (p::r))[i]?=(p::r)[i]?;exact KW (p::r) i (by simp at h ⊢;omega)
theorem I1:∀(l:List Oper) (o:Oper),l.getLast?=some o->(AC l)[l.length - 1]?=some (BM o)/\l[l.length - 1]?=some o
 | [],o,h=>by simp at h
 | [x],o,h=>by simp at h;subst h;exact⟨rfl,rfl⟩
 |x::p::r,o,h=>by
  have:=I1 (p::r) o y20Z;refine⟨?_,?_⟩
  ·show(x::AC (p::r))[(p::r).length]?=_
   simpa using this.1
  ·simpa using this.2
def MK (l:List Oper):Bool:=
 match l.getLast? with
 |none=>false
 |some o=>o.guard.isNone&&(o.dst.isNone&&((List.range (l.length - 1)).all (fun j=>o.after.toList.any fun e=>Region.binds .any e&&(e.on==j||((l[e.on]?).map fun x=>x.after.toList.any fun e2=>Region.binds .any e2&&e2.on==j).getD false))&&
   (List.range l.length).all fun i=>((l[i]?).map fun x=>x.after.toList.all fun e=>decide (e.on<i)).getD true))
section
variable {P:Program}{Q:Exit->Act->World->Prop}{S:World->Prop}
theorem KE (l:List Oper) (listed:Array Bool):Region.ready .any (AC l).toArray listed=Region.ready .any l.toArray listed:=by
 unfold Region.ready;rw[List.size_toArray,List.size_toArray,OA];apply List.filter_congr;intro i hi;rw[List.mem_range]at hi
 congr 1
 by_cases h:i+1=l.length
 ·cases hl:l.getLast? with
  |none=>rw[List.getLast?_eq_none_iff]at hl;subst hl;simp at hi
  |some o=>
   have:=I1 l o hl;have e:i=l.length - 1:=by omega
   rw[List.getElem?_toArray,List.getElem?_toArray,e,this.1,this.2];rfl
 ·rw[List.getElem?_toArray,List.getElem?_toArray,KW l i h]
theorem SN (l:List Oper) (t:Array Value):yielded (AC l).toArray t=yielded l.toArray t:=by
 funext j
 unfold yielded;rw[List.getElem?_toArray,List.getElem?_toArray]
 by_cases h:j+1=l.length
 ·cases hl:l.getLast? with
  |none=>rw[List.getLast?_eq_none_iff]at hl;subst hl;rfl
  |some o=>
   have:=I1 l o hl;have e:j=l.length - 1:=by omega
   rw[e,this.1,this.2];rfl
 ·rw[KW l j h]
theorem VD {R:Act->World->Prop}{K K':Act->World->Prop} (hK:∀a w,K a w->K' a w) (h:o.wp P a w K (ER R)\/(o.asks P a w/\LetsOut (ER R))):
  o.wp P a w K' Q\/(o.asks P a w/\LetsOut Q):=by
 rcases h with h | ⟨_,a',w',h⟩
 ·left
  unfold Oper.wp at*
  generalize (execOp a.eval o).run P w=r at*
  cases r with
  |ok n w'=>
   cases n <;> simp only[Oper.upon]at h ⊢ <;>
    first
     |exact hK _ _ h
     |exact Calls.mono h (fun e w'' he=>by
       cases e with
       |returned v=>exact hK _ _ he
       |panicked c=>exact False.elim he
       |outgrown=>obtain⟨_,_,he⟩:=he;exact False.elim he)
     |exact Rows.mono h (fun _ _ he=>hK _ _ he)
  |halt x w'=>
   cases x <;> simp only[Oper.upon]at h ⊢
   case panic v=>exact False.elim h
 ·exact False.elim h
theorem YM {l:List Oper} (hB:MK l=true)  (hs:listed.size=l.length) (h:Region.ready .any l.toArray listed=[]):∀i,i<l.length->listed.getD i true=true:=by
 intro i
 induction i using Nat.strongRecOn with
 |_ i ih=>
  intro hi;cases hv:listed.getD i true with
  |true=>rfl
  |false=>
   have hmem:i∈Region.ready .any l.toArray listed:=by
    rw[mem_ready];refine⟨hv,l[i],by simp[hi],fun e he hb=>?_⟩;unfold MK at hB;split at hB
    ·cases hB
    ·simp only[Bool.and_eq_true,List.all_eq_true,List.mem_range]at hB
     have h1:=hB.2.2.2 i hi;rw[gE hi]at h1;simp only[Option.map_some,Option.getD_some,List.all_eq_true,decide_eq_true_eq]at h1;have h2:=h1 e y72Z;have h3:=ih e.on h2 (by omega);rw[Array.getD_eq_getD_getElem?]at h3 ⊢;rw[Array.getElem?_eq_getElem (by omega)]at h3 ⊢;simpa using h3
   rw[h]at hmem;cases hmem
def LY (l:List Oper) (listed:Array Bool):Prop:=∀(k:Nat) (o:Oper),l[k]?=some o->listed.getD k false=true->∀e∈o.after,Region.binds .any e=true->listed.getD e.on false=true
theorem LY.step {l:List Oper} (hc:LY l listed)  (hi:i∈Region.ready .any l.toArray listed):LY l (listed.setIfInBounds i true):=by
 intro k o hk hl e he hb
 by_cases hki:i=k
 ·subst hki
  obtain⟨_,o',h1,h2⟩:=mem_ready.1 hi;rw[List.getElem?_toArray,hk]at h1;injection h1 with h1
  subst h1;exact getD_set_true (h2 e he hb)
 ·rw[getD_set_ne false hki]at hl
  exact getD_set_true (hc k o hk hl e he hb)
theorem iG {l:List Oper} (hB:MK l=true)  (hc:LY l listed) (h:l.length - 1∈Region.ready .any l.toArray listed):∀j,j+1<l.length->listed.getD j false=true:=by
 intro j hj;obtain⟨_,o,ho,hall⟩:=mem_ready.1 h;unfold MK at hB;split at hB
 ·cases hB
 ·rename_i o' hl
  have h2:=(I1 l o' hl).2;rw[List.getElem?_toArray,h2]at ho;injection ho with ho
  subst ho;simp only[Bool.and_eq_true,List.all_eq_true,List.mem_range]at hB;have h3:=hB.2.2.1 j (by omega);rw[List.any_eq_true]at h3;obtain⟨e,he,h3⟩:=h3;simp only[Bool.and_eq_true,Bool.or_eq_true,beq_iff_eq]at h3;have h4:=hall e y72Z h3.1
  rcases h3.2 with h5 |h5
  ·rw[h5]at h4;exact h4
  ·cases hx:l[e.on]? with
   |none=>rw[hx]at h5;simp at h5
   |some x=>
    rw[hx]at h5;simp only[Option.map_some,Option.getD_some,List.any_eq_true,Bool.and_eq_true,beq_iff_eq]at h5;obtain⟨e2,he2,hb2,hj2⟩:=h5;have:=hc e.on x hx h4 e2 (by simpa using he2) hb2;rw[hj2]at this;exact this
theorem T3 {l:List Oper} (ho:l.getLast?=some o) (hB:MK l=true):∀(fuel:Nat) (listed:Array Bool) (a:Act) (w:World),listed.size=l.length->LY l listed->listed.getD (l.length - 1) true=false->
  wpAny P .any (AC l).toArray (ER fun a w=>wpList P #[o] Q [o] a w) fuel listed a w->wpAny P .any l.toArray Q fuel listed a w:=by
 have hpos:0<l.length:=by cases l with |nil=>simp at ho |cons _ _=>simp
 intro fuel
 induction fuel with
 |zero=>
  intro listed a w hs hcl hl h;have h1:=h.1;rw[KE]at h1;have:=YM hB hs h1 (l.length - 1) (by omega);rw[hl]at this;cases this
 |succ fuel ih=>
  intro listed a w hs hcl hl h;refine⟨fun h1=>?_,fun i hi=>?_⟩
  ·have:=YM hB hs h1 (l.length - 1) (by omega)
   rw[hl]at this;cases this
  ·have h2:=h.2 i (by rw[KE];exact hi)
   unfold wpOp at h2 ⊢;have hio:∃oi,l[i]?=some oi:=by
    obtain⟨_,oi,h3,_⟩:=mem_ready.1 hi;exact⟨oi,by simpa using h3⟩
   obtain⟨oi,hoi⟩:=hio
   by_cases hlast:i+1=l.length
   ·have e:i=l.length - 1:=by omega
    subst e;have hc:=I1 l o ho;rw[List.getElem?_toArray,hc.1]at h2;rw[List.getElem?_toArray,hc.2];have hg:o.guard=none/\o.dst=none:=by
     unfold MK at hB;rw[ho]at hB;simp only[Bool.and_eq_true,Option.isNone_iff_eq_none]at hB;exact⟨hB.1,hB.2.1⟩
    have hw1:Region.wanted (BM o) (yielded (AC l).toArray a.tmps)=true:=by
     unfold Region.wanted BM;rw[hg.1]
    have hw2:Region.wanted o (yielded l.toArray a.tmps)=true:=by
     unfold Region.wanted;rw[hg.1]
    have hw3:Region.wanted o (yielded #[o] a.tmps)=true:=by
     unfold Region.wanted;rw[hg.1]
    simp only[hw1,hw2,if_true]at h2 ⊢;have hnil:Region.ready .any l.toArray (listed.setIfInBounds (l.length - 1) true)=[]:=by
     rw[List.eq_nil_iff_forall_not_mem];intro j hj;obtain⟨h4,oj,h5,_⟩:=mem_ready.1 hj;have hjl:j<l.length:=by
      rw[List.getElem?_toArray]at h5;exact(gS_.1 h5).1
     by_cases hjl':j=l.length - 1
     ·subst hjl'
      simp[hs]at h4
     ·rw[getD_set_ne true (Ne.symm hjl')]at h4
      have h6:=iG hB hcl hi j (by omega);rw[Array.getD_eq_getD_getElem?,Array.getElem?_eq_getElem (by omega)]at h4 h6;simp at h4 h6;rw[h4]at h6;cases h6
    have hend:wpList P #[o] Q [o] a w:=by
     rcases h2 with h2 | ⟨_,a',w',h2⟩
     ·have h7:(BM o).wp P a w (wpAny P .any (AC l).toArray (ER fun a w=>wpList P #[o] Q [o] a w) fuel (listed.setIfInBounds (l.length - 1) true)) (ER fun a w=>wpList P #[o] Q [o] a w):=h2
      unfold Oper.wp at h7;have hr:(execOp a.eval (BM o)).run P w=.ok (.value undef) w:=by
       simp[execOp,BM,Act.eval]
      rw[hr]at h7;have h8:wpAny P .any (AC l).toArray (ER fun a w=>wpList P #[o] Q [o] a w) fuel (listed.setIfInBounds (l.length - 1) true) (a.put o.dst undef) w:=h7;rw[hg.2]at h8;have h9:a.put none undef=a:=rfl;rw[h9]at h8;cases fuel with
      |zero=>exact h8.2
      |succ f=>exact h8.1 (by rw[KE];exact hnil)
     ·exact False.elim h2
    unfold wpList at hend;rw[hw3,if_pos rfl]at hend;refine hend.imp (fun h=>Oper.wp_mono (fun a' w' h'=>?_) h) id;cases fuel with
    |zero=>exact⟨hnil,h'⟩
    |succ f=>exact⟨fun _=>h',by rw[hnil];simp⟩
   ·rw[List.getElem?_toArray,KW l i hlast,hoi]at h2
    rw[List.getElem?_toArray,hoi];simp only at h2 ⊢;rw[SN]at h2;have hs':(listed.setIfInBounds i true).size=l.length:=by simp[hs]
    have hcl':=hcl.step hi;have hl':(listed.setIfInBounds i true).getD (l.length - 1) true=false:=by rw[getD_set_ne true (by omega)];exact hl
    split at h2
    ·rename_i hw
     rw[if_pos hw];exact VD (fun a' w' h'=>ih _ a' w' hs' hcl' hl' h') h2
    ·rename_i hw
     rw[if_neg hw];exact ih _ _ _ hs' hcl' hl' h2
def AO:List Oper->Oper
 | []=>default
 | [o]=>o
 |_::p::r=>AO (p::r)
theorem LV:∀(l:List Oper),l≠ []->l.getLast?=some (AO l)
 | [],h=>absurd rfl h
 | [o],_=>rfl
 |x::p::r,_=>by
  have:=LV (p::r) (by simp);show(x::p::r).getLast?=some (AO (p::r));rw[List.getLast?_cons_cons];exact this
theorem AE {id:Nat}{l:List Oper} (S:World->Prop) (hm:P.follows .mixedOrders=true) (hB:MK l=true) (hS:S w.drew)
  (h:S w.drew->wpAnyH P .any (AC l).toArray (ER fun a w=>wpList P #[AO l] Q [AO l] a w) S l.length (Array.replicate l.length false) a w.drew):(Code.region id l.toArray true).wp P Q a w:=by
 refine wp_region_any hm ?_;have ho:l.getLast?=some (AO l):=by
  refine LV l ?_;intro e;subst e;cases hB
 have hpos:0<l.length:=by cases l with |nil=>simp at ho |cons _ _=>simp
 rw[List.size_toArray];refine T3 ho hB _ _ _ _ (by simp) ?_ ?_ (wpAny_of_held _ _ _ _ (h hS))
 ·intro k o' hk hl
  rw[Array.getD_eq_getD_getElem?]at hl
  rcases Nat.lt_or_ge k l.length with h' |h'
  ·simp[h']at hl
  ·simp[h']at hl
 rw[Array.getD_eq_getD_getElem?,Array.getElem?_eq_getElem y2Z];simp
end
end
theorem Tryz.info9:(Tryz.prog.info? 9).map (fun i=>(i.zero,i.size,i.bytes))=some (some (.string ByteArray.empty),1,16):=by kernel_rfl
theorem sB (l:List UInt8):∀x∈(wst l).1,x.size<=l.length:=by
 suffices h:∀(l:List UInt8) (p:List ByteArray × ByteArray) (n:Nat),(∀x∈p.1,x.size<=n)->p.2.size<=n->∀x∈(l.foldl E9 p).1,x.size<=n+l.length by
  have:=h l ([],ByteArray.empty) 0 (by simp) (by simp);simpa[wst] using this
 intro l
 induction l with
 |nil=>intro p n h1 _ x hx;simpa using h1 x hx
 |cons b r ih=>
  intro p n h1 h2 x hx;rw[List.foldl_cons]at hx;have h3:=bH p b;have:=ih (E9 p b) (n+1) (by
   intro y hy;unfold E9 at hy;split at hy
   ·rcases List.mem_append.1 hy with hy |hy
    ·have:=h1 y hy;omega
    ·simp at hy;subst hy;omega
   ·have:=h1 y hy;omega) (by omega) x hx
  simp only[lC];omega
theorem UA (s:ByteArray):1<=(AA s).length/\(AA s).length<=s.size+1:=by
 have h:=lX s.data.toList;have hlen:s.data.toList.length=s.size:=by simp
 unfold AA;simp only[lA,List.length_singleton];omega
theorem SX (s:ByteArray) (j:Nat):(nth (AA s) j).size<=s.size:=by
 have hlen:s.data.toList.length=s.size:=by simp
 have h1:=sB s.data.toList;have h2:=(lX s.data.toList).2;unfold nth;rw[gD_];cases h:(AA s)[j]? with
 |none=>simp
 |some x=>
  have hm:=mG h;unfold AA at hm
  rcases List.mem_append.1 hm with hm |hm
  ·have:=h1 x hm;simp only[Option.getD_some];omega
  ·simp at hm;subst hm;simp only[Option.getD_some];omega
theorem U7 (s:ByteArray) (a:Nat):(BT s a).1.size<=s.size:=by
 unfold BT;split
 ·simp[ByteArray.size_extract];omega
 ·simp
end Go.Proofs.YtjjggdcnpndgjabGreatDoor
