import Derived.Lib.SplitLaws
import Derived.Test.YtjjggdcnpndgjaaGreatDoorCJ2
import Derived.Deep.QuietTactic
import Derived.BigQuiet
set_option linter.unusedSimpArgs false
namespace Go.Proofs.YtjjggdcnpndgjaaGreatDoor
abbrev ey:=@List.nil_append
abbrev fu:=@List.length_singleton
abbrev ia:=@List.getElem?_toArray
abbrev ig:=@List.mem_append
abbrev jc:=@List.mem_range
abbrev jf:=@List.size_toArray
abbrev jg:=@Go.World.ownsRow_nil
abbrev jq:=@Option.getD_some
abbrev jx:=@List.map_cons
abbrev jz:=@Nat.lt_or_ge
abbrev kq:=@Option.map_some
abbrev lq:=@Go.wpAnyH_take
abbrev mg:=@Array.getD_eq_getD_getElem?
abbrev oh:=@List.all_eq_true
abbrev oq:=@Bool.or_eq_true
abbrev qb:=@List.any_eq_true
abbrev qi:=@Bool.false_eq_true
abbrev qj:=@Nat.add_zero
abbrev sy:=@List.take_succ_cons
abbrev ug:=@Int.toNat_natCast
abbrev vv:=@List.setIfInBounds_toArray
abbrev xd:=@Go.AllReadyH.cons
abbrev xZ:=@if_true
abbrev yh:=@Go.mem_ready
abbrev yj:=@if_false
abbrev yB:=@Ne.symm
abbrev yE:=@ByteArray.data_extract
abbrev yI:=@Array.toList_inj
abbrev zl:=@Go.getD_set_ne
abbrev zw:=@List.cons.inj
open Go.RowKit
variable {P:Program}{Q:Exit->Act->World->Prop}{S:World->Prop}{a:Act}{fuel i:Nat}{l:List Oper}{listed:Array Bool}{md:Region.Mode}{o:Oper}{ops:Array Oper}{p v:Value}{s:ByteArray}{w w':World}
section
open Go.Lib Go.RowKit
theorem YJ (c:UInt8):∀l:List UInt8,index l [c]=match l.findIdx? (· ==c)with |some j=>(j:Int) |none=> -1
 | []=>by simp[index]
 |b::l=>by
  rw[index,List.findIdx?_cons]
  by_cases h:b=c
  ·subst h;simp[List.isPrefixOf]
  ·have h1:([c]:List UInt8).isPrefixOf (b::l)=false:=by simp[List.isPrefixOf,yB h]
   have h2:(b==c)=false:=by simpa using h
   rw[h1,h2,YJ c l];cases l.findIdx? (· ==c)with
   |none=>simp
   |some j=>
    simp only[kq,qi,yj];rw[aq (by simp)];simp
def wl:List UInt8->List UInt8->List (List UInt8)
 | [],cur=>[cur]
 |b::r,cur=>if b=32 then cur::wl r []else wl r (cur++ [b])
theorem cU:∀(l:List UInt8) (d:List ByteArray) (c:ByteArray),((l.foldl EN (d,c)).1++ [(l.foldl EN (d,c)).2]).map (·.data.toList)=d.map (·.data.toList)++wl l c.data.toList
 | [],d,c=>by simp[wl]
 |b::r,d,c=>by
  rw[lz]
  by_cases hb:b=32
  ·have e:EN (d,c) b=(d++ [c],ByteArray.empty):=by unfold EN;rw[ay hb]
   rw[e,cU r (d++ [c]) ByteArray.empty,wl,ay hb];simp
  ·have e:EN (d,c) b=(d,c++⟨#[b]⟩):=by unfold EN;rw[aq hb]
   rw[e,cU r d (c++⟨#[b]⟩),wl,aq hb];simp
theorem sO (s:ByteArray):(AF s).map (·.data.toList)=wl s.data.toList []:=by
 have:=cU s.data.toList [] ByteArray.empty;simpa[AF,Qy] using this
def sp (l:List UInt8):List (List UInt8):=splitK [32] 0 (count l [32]) l
theorem xM (l:List UInt8):sp (32::l)=[]::sp l:=by
 unfold sp;rw[count_cons_eq,Nat.add_comm,splitK];have h:index (32::l) [32]=0:=by rw[index];simp[List.isPrefixOf]
 rw[aq (by rw[h];decide),h];simp
theorem tO (l:List UInt8):∃x r,sp l=x::r:=by
 unfold sp;cases count l [32]with
 |zero=>exact⟨_,_,rfl⟩
 |succ k=>
  unfold splitK;split
  ·exact⟨_,_,rfl⟩
  ·exact⟨_,_,rfl⟩
theorem vE {b:UInt8} (hb:b≠32) (l:List UInt8) {x:List UInt8}{r:List (List UInt8)} (h:sp l=x::r):sp (b::l)=(b::x)::r:=by
 have hp:([32]:List UInt8).isPrefixOf (b::l)=false:=by simp[List.isPrefixOf,yB hb]
 have hix:index (b::l) [32]=if index l [32]== -1 then -1 else index l [32]+1:=by rw[index,hp];simp
 unfold sp at h ⊢;rw[count_cons_ne b 32 l hb];cases hc:count l [32]with
 |zero=>
  rw[hc]at h;simp only[splitK]at h ⊢;injection h with h1 h2
  rw[h1,h2]
 |succ k=>
  rw[hc]at h;simp only[splitK]at h ⊢
  by_cases hm:index l [32]= -1
  ·rw[ay (kr.2 hm)]at h
   rw[ay (by rw[hix,ay (kr.2 hm)];rfl)];injection h with h1 h2
   rw[h1,h2]
  ·have hge:=index_ge l [32]
   obtain⟨j,hj⟩:∃j:Nat,index l [32]=j:=⟨(index l [32]).toNat,by omega⟩;have e1:index (b::l) [32]=((j+1:Nat):Int):=by rw[hix,aq (λe=>hm (kr.1 e)),hj];omega
   rw[aq (λe=>hm (kr.1 e)),hj]at h;rw[aq (by rw[e1];simp;omega),e1];simp only[ug,qj,sy]at h ⊢;injection h with h1 h2
   rw[<-h1,<-h2]
   congr 1
theorem kI:∀(l cur:List UInt8) (x:List UInt8) (r:List (List UInt8)),sp l=x::r->wl l cur=(cur++x)::r
 | [],cur,x,r,h=>by
  have:sp []=[[]]:=rfl;rw[this]at h;injection h with h1 h2
  subst h1;subst h2;simp[wl]
 |b::l,cur,x,r,h=>by
  obtain⟨y,q,hy⟩:=tO l
  by_cases hb:b=32
  ·subst hb
   rw[xM]at h;injection h with h1 h2
   subst h1;rw[wl,ay rfl,kI l [] y q hy];rw[<-h2,hy];simp
  ·rw[vE hb l hy]at h
   injection h with h1 h2
   subst h1;subst h2;rw[wl,aq hb,kI l (cur++ [b]) y q hy];simp
theorem gV {a b:List ByteArray} (h:a.map (·.data.toList)=b.map (·.data.toList)):a=b:=by
 induction a generalizing b with
 |nil=>cases b with |nil=>rfl |cons _ _=>simp at h
 |cons x r ih=>
  cases b with
  |nil=>simp at h
  |cons y q=>
   simp only[jx,List.cons.injEq]at h;have h1:x=y:=by
    obtain⟨⟨x⟩⟩:=x;obtain⟨⟨y⟩⟩:=y;have:=h.1;simp at this;subst this;rfl
   rw[h1,ih h.2]
theorem O9 (s:ByteArray):splitB ⟨#[32]⟩ 0 (countB s ⟨#[32]⟩) s=AF s:=by
 apply gV;rw[sO];obtain⟨x,r,h⟩:=tO s.data.toList;rw[kI _ [] x r h];rw[splitB_data];simp only[ey];rw[<-h];rfl
theorem T7 (s:ByteArray):countB s ⟨#[32]⟩+1=(AF s).length:=by
 rw[<-O9 s];exact(splitB_all ⟨#[32]⟩ (zn 1) 0 _ s rfl).symm
theorem nZ (s:ByteArray) (k:Nat):(s.extract k s.size).data.toList=s.data.toList.drop k:=by
 simp only[yE,Array.toList_extract,List.extract_eq_take_drop];exact jk (by simp)
theorem rA (s:ByteArray) (k:Nat):
  (¬(C3 s k).2=0->(⟨(cut (s.extract k s.size).data.toList [10]).1.toArray⟩:ByteArray)=(C3 s k).1/\(cut (s.extract k s.size).data.toList [10]).2.2=true)/\
  ((C3 s k).2=0->(cut (s.extract k s.size).data.toList [10]).2.2=false):=by
 rw[nZ];have hi:=YJ 10 (s.data.toList.drop k);unfold C3;cases hf:(s.data.toList.drop k).findIdx? (· ==10)with
 |none=>
  rw[hf]at hi;simp only at hi;refine⟨λh=>absurd rfl h,λ_=>?_⟩;unfold cut;rw[hi];rfl
 |some j=>
  have hi:index (s.data.toList.drop k) [10]=(j:Int):=by rw[hi,hf]
  refine⟨λ_=>?_,λh=>?_⟩
  ·unfold cut
   rw[ay (by rw[hi];omega),hi];refine⟨?_,rfl⟩;apply ByteArray.ext;apply yI.1;simp only[yE,Array.toList_extract,List.extract_eq_take_drop];rw[show k+j - k=(j:Int).toNat by omega]
  ·simp only at h
   omega
end
def AZ (l:List ByteArray):Nat:=if(nth l 0).toList== [116,111,107,101,110]then 0 else if(nth l 0).toList== [115,119,97,112]then 1 else 2
def AK (ls:List (Nat × List ByteArray)):List (Nat × Nat × List ByteArray):=(ls.filter λx=>decide (¬x.2.length=1)).map λx=>(x.1,AZ x.2,x.2)
def EU (w:World) (p:Value) (l:List ByteArray):Prop:=
 ∃(g n cap:Nat) (ad:Option Addr) (cs:Array Value),p=.slice ad n cap/\l.length=1+n/\n<=cap/\cap<=9223372036854775807/\w.heap[g]?=some (.cells cs 9 (0,0))/\
  (∀j,j<l.length->cs[j]?=some (.string (nth l j)))/\(0<n->ad=some (af g 1))
def P1 (ls:List (Nat × Nat × List ByteArray)) (pv:List Value):List Value:=(ls.zip pv).flatMap λt=>[ab t.1.1,ab t.1.2.1,t.2]
structure Bv (w:World) (B:Nat) (v:Value) (ls:List (Nat × Nat × List ByteArray)) (pv:List Value):Prop where
 row:w.ownsRow B 325 3 v ls.length (P1 ls pv)
 Eo:pv.length=ls.length
 Ff:∀(i:Nat) (x:Nat × Nat × List ByteArray) (p:Value),ls[i]?=some x->pv[i]?=some p->EU w p x.2.2
theorem EU.keeps {S:List Nat}{l:List ByteArray} (h:EU w p l) (hk:A5 w w' S) (hS:∀g cs,w.heap[g]?=some (.cells cs 9 (0,0))->g∉S):EU w' p l:=by
 obtain⟨g,n,cap,ad,cs,h1,h2,h3,h4,h5,h6,h7⟩:=h;exact⟨g,n,cap,ad,cs,h1,h2,h3,h4,(hk.block g (ak h5) (hS g cs h5)).trans h5,h6,h7⟩
theorem EU.below {l:List ByteArray} (h:EU w p l) (hb:Below w.heap.size w w'):EU w' p l:=h.keeps (A5.zQ hb []) (by simp)
theorem Bv.below {B:Nat}{ls:List (Nat × Nat × List ByteArray)}{pv:List Value} (h:Bv w B v ls pv) (hb:Below w.heap.size w w'):Bv w' B v ls pv where
 row:=AC h.row (A5.zQ hb []) (by simp)
 Eo:=h.Eo
 Ff:=λi x p hx hp=>(h.Ff i x p hx hp).below hb
theorem Bv.nil (w:World) (B:Nat):Bv w B (.slice none 0 0) [] [] where
 row:=jg _ _ _ _
 Eo:=rfl
 Ff:=λi x p hx=>by simp at hx
theorem Bv.push {w1:World}{B:Nat}{v':Value}{ls:List (Nat × Nat × List ByteArray)}{pv:List Value} (h:Bv w B v ls pv) (hk:A5 w w1 v.ownBlock.toList) {x:Nat × Nat × List ByteArray} (hp:EU w p x.2.2)
  (hown:w1.ownsRow B 325 3 v' (ls.length+1) (P1 ls pv++ [ab x.1,ab x.2.1,p])):Bv w1 B v' (ls++ [x]) (pv++ [p]):=by
 have hl:=h.Eo;have hoff:∀g cs,w.heap[g]?=some (.cells cs 9 (0,0))->g∉v.ownBlock.toList:=by
  intro g cs hg hm;exact A9 h.row hg (by decide) (by
   cases hv:v.ownBlock with
   |none=>rw[hv]at hm;simp at hm
   |some k=>rw[hv]at hm;simp at hm;rw[hm])
 refine⟨?_,by simp[hl],λi y q hy hq=>?_⟩
 ·have e1:P1 (ls++ [x]) (pv++ [p])=P1 ls pv++ [ab x.1,ab x.2.1,p]:=by
   unfold P1;rw[List.zip_append hl.symm];simp
  rw[e1,lA];exact hown
 ·by_cases hi:i<ls.length
  ·rw[aL hi]at hy
   rw[aL (by omega)]at hq;exact(h.Ff i y q hy hq).keeps hk hoff
  ·rw[Bc (by omega)]at hy
   rw[Bc (by omega)]at hq;obtain⟨h1,_⟩:=zM.1 hy;simp at h1;rw[show i - ls.length=0 by omega]at hy;rw[show i - pv.length=0 by omega]at hq;simp at hy hq;subst hy;subst hq;exact hp.keeps hk hoff
def ED (i:Nat) (l:List ByteArray):Bool:=
 if i=0 then((nth l 0).toList== [116,111,107,101,110])&&DF l else if i=1 then((nth l 0).toList== [115,119,97,112])&&C0 l else((nth l 0).toList== [114,117,108,101])&&D7 l
theorem XK  (h:(AF s).length=1):nth (AF s) 0=s:=by
 apply gV (a:=[nth (AF s) 0]) (b:=[s]) ?_ |> zw |>.1;have h1:=O9 s;have h2:=T7 s;have h3:Lib.countB s ⟨#[32]⟩=0:=by omega
 rw[h3]at h1;rw[<-h1];rfl
theorem ZQ  (hne:s.toList.isEmpty=false):AX (AF s)=(ED 0 (AF s)||(ED 1 (AF s)||ED 2 (AF s))):=by
 unfold AX ED
 by_cases h1:(AF s).length=1
 ·rw[ay h1,XK h1,hne]
  have h2:DF (AF s)=false:=by unfold DF;rw[gy (by omega)];rfl
  have h3:C0 (AF s)=false:=by unfold C0;rw[gy (by omega)];rfl
  have h4:D7 (AF s)=false:=by unfold D7 O2;rw[gy (by omega)];rfl
  rw[h2,h3,h4];simp
 ·rw[aq h1]
  cases ht:((nth (AF s) 0).toList== [116,111,107,101,110])
  ·cases hw:((nth (AF s) 0).toList== [115,119,97,112])
   ·cases hr:((nth (AF s) 0).toList== [114,117,108,101]) <;> simp
   ·rw[kr]at hw
    rw[hw];simp
  ·rw[kr]at ht
   rw[ht];simp
theorem jO {l:List ByteArray} (hi:i<3) (h:ED i l=true):AZ l=i/\¬l.length=1:=by
 unfold ED at h;unfold AZ;have h':i=0\/i=1\/i=2:=by omega
 rcases h' with rfl |rfl |rfl
 ·simp only[gz,xZ]at h
  rw[ay h.1];refine⟨rfl,λe=>?_⟩;have:=h.2;unfold DF at this;rw[gy (by omega)]at this;cases this
 ·have h:((nth l 0).toList== [115,119,97,112])=true/\C0 l=true:=by simpa using h
  have e:=h.1;rw[kr]at e;rw[e];refine⟨rfl,λe=>?_⟩;have:=h.2;unfold C0 at this;rw[gy (by omega)]at this;cases this
 ·have h:((nth l 0).toList== [114,117,108,101])=true/\D7 l=true:=by simpa using h
  have e:=h.1;rw[kr]at e;rw[e];refine⟨rfl,λe=>?_⟩;have:=h.2;unfold D7 O2 at this;rw[gy (by omega)]at this;cases this
theorem TL  (h:s.toList.isEmpty=true):(AF s).length=1/\AX (AF s)=true:=by
 have e:s.data.toList=[]:=by rw[jl]at h;simpa using h
 have e2:AF s=[ByteArray.empty]:=by unfold AF Qy;rw[e];rfl
 rw[e2];exact⟨rfl,by unfold AX nth;simp[jl]⟩
section
theorem tkA  (i:Nat) {oi:Oper} (v:Value)  (hi:ops[i]?=some oi)
  (hy:∀w,S w->(execOp a.eval oi).run P w=.ok (.value v) w) (hS:S w) (h:wpAnyH P md ops Q S fuel (listed.setIfInBounds i true) (a.put oi.dst v) w)
  (hw:Region.wanted oi (yielded ops a.tmps)=true:=by rfl) (hs:Region.noSelect ops=true:=by kernel_rfl) (hf:Region.free md ops listed i=true:=by kernel_rfl) (hr:(Region.ready md ops listed).contains i=true:=by kernel_rfl)
  (hQ:∀c a w,Q (.panic c) (a.put oi.dst v) w->Q (.panic c) a w:=by exact λ_ _ _ h=>h):wpAnyH P md ops Q S (fuel+1) listed a w:=
 lq hi hs hf hr hQ (.inl ⟨hw,hy⟩) hS h
theorem tB  (i:Nat) {oi:Oper} (hS:S w) (h:wpAnyH P md ops Q S fuel (listed.setIfInBounds i true) (a.put oi.dst v) w) (hi:ops[i]?=some oi:=by rfl)
  (hy:∀w,S w->(execOp a.eval oi).run P w=.ok (.value v) w:=by(intro w hSw;(try dsimp only at hSw);first | (go_simp;done) | (go_simp;with_reducible rfl)))
  (hw:Region.wanted oi (yielded ops a.tmps)=true:=by rfl) (hs:Region.noSelect ops=true:=by kernel_rfl) (hf:Region.free md ops listed i=true:=by kernel_rfl) (hr:(Region.ready md ops listed).contains i=true:=by kernel_rfl)
  (hQ:∀c a w,Q (.panic c) (a.put oi.dst v) w->Q (.panic c) a w:=by exact λ_ _ _ h=>h):wpAnyH P md ops Q S (fuel+1) listed a w:=
 lq hi hs hf hr hQ (.inl ⟨hw,hy⟩) hS h
theorem tS  (i:Nat) 
  (h:∀K':Act->World->Prop,Shut (∀a w,S w->(S w->wpAnyH P md ops Q S fuel (listed.setIfInBounds i true) a w)->K' a w)->if Region.wanted o (yielded ops a.tmps)=true then Oper.wp P o a w K' Q else K' (a.put o.dst undef) w)
  (ho:ops[i]?=some o:=by rfl) (hr:Region.ready md ops listed=[i]:=by kernel_rfl):wpAnyH P md ops Q S (fuel+1) listed a w:=
 wpAnyH_ready hr (by simp) (xd ho h AllReadyH.nil)
theorem zA {α:Type _}{xs:List α} (h:i<xs.toArray.size):xs.toArray[i]=xs[i]'Lx:=rfl
theorem zB {α:Type _} (a:α) (bs:List α) (i:Nat) (h:i+1< (a::bs).length):(a::bs)[i+1]=bs[i]'Lx:=rfl
theorem zC {α:Type _} (a:α) (bs:List α) (h:0< (a::bs).length):(a::bs)[0]=a:=rfl
theorem zD {α:Type _} (l:List α) (i:Nat) (a:α):l.toArray.setIfInBounds i a=(l.set i a).toArray:=vv l i a
theorem zE {α:Type _}{x:α}{xs:List α}{a:α}:(x::xs).set 0 a=a::xs:=rfl
theorem zF {α:Type _}{x:α}{xs:List α}{n:Nat}{a:α}:(x::xs).set (n+1) a=x::xs.set n a:=rfl
theorem tL {P Q:Prop} (h:Q) (e:P=Q:=by first | (simp only[zA,zB,zC,Act.put,zD,zE,zF];with_reducible rfl) | with_reducible rfl):P:=e.symm.subst (motive:=λx=>x) h
theorem tM {P Q:Prop} (h:Q) (e:P=Q:=by first | (simp only[zA,zB,zC];with_reducible rfl) | with_reducible rfl):P:=e.symm.subst (motive:=λx=>x) h
def FA (R:Act->World->Prop):Exit->Act->World->Prop
 | .normal,a,w=>R a w
 |_,_,_=>False
def BP (o:Oper):Oper:={o with op:=.move (.const undef)}
def AG:List Oper->List Oper
 | []=>[]
 | [o]=>[BP o]
 |o::p::r=>o::AG (p::r)
theorem OL:∀l:List Oper,(AG l).length=l.length
 | []=>rfl
 | [_]=>rfl
 |_::p::r=>by simp[AG,OL (p::r)]
theorem LA:∀(l:List Oper) (i:Nat),i+1≠l.length->(AG l)[i]?=l[i]?
 | [],i,_=>rfl
 | [o],i,h=>by
  match i with
  |0=>simp at h
  |i+1=>rfl
 |o::p::r,i,h=>by
  match i with
  |0=>rfl
  |i+1=>
   show(AG (p::r))[i]?=(p::r)[i]?;exact LA (p::r) i (by simp at h ⊢;omega)
theorem II:∀(l:List Oper) (o:Oper),l.getLast?=some o->(AG l)[l.length - 1]?=some (BP o)/\l[l.length - 1]?=some o
 | [],o,h=>by simp at h
 | [x],o,h=>by simp at h;subst h;exact⟨rfl,rfl⟩
 |x::p::r,o,h=>by
  have:=II (p::r) o Lx;refine⟨?_,?_⟩
  ·show(x::AG (p::r))[(p::r).length]?=_
   simpa using this.1
  ·simpa using this.2
def MS (l:List Oper):Bool:=
 match l.getLast? with
 |none=>false
 |some o=>o.guard.isNone&&(o.dst.isNone&&((List.range (l.length - 1)).all (λj=>o.after.toList.any λe=>Region.binds .any e&&(e.on==j||((l[e.on]?).map λx=>x.after.toList.any λe2=>Region.binds .any e2&&e2.on==j).getD false))&&
   (List.range l.length).all λi=>((l[i]?).map λx=>x.after.toList.all λe=>decide (e.on<i)).getD true))
section
variable {P:Program}{Q:Exit->Act->World->Prop}{S:World->Prop}
theorem KS (l:List Oper) (listed:Array Bool):Region.ready .any (AG l).toArray listed=Region.ready .any l.toArray listed:=by
 unfold Region.ready;rw[jf,jf,OL];apply List.filter_congr;intro i hi;rw[jc]at hi
 congr 1
 by_cases h:i+1=l.length
 ·cases hl:l.getLast? with
  |none=>rw[List.getLast?_eq_none_iff]at hl;subst hl;simp at hi
  |some o=>
   have:=II l o hl;have e:i=l.length - 1:=by omega
   rw[ia,ia,e,this.1,this.2];rfl
 ·rw[ia,ia,LA l i h]
theorem TM (l:List Oper) (t:Array Value):yielded (AG l).toArray t=yielded l.toArray t:=by
 funext j
 unfold yielded;rw[ia,ia]
 by_cases h:j+1=l.length
 ·cases hl:l.getLast? with
  |none=>rw[List.getLast?_eq_none_iff]at hl;subst hl;rfl
  |some o=>
   have:=II l o hl;have e:j=l.length - 1:=by omega
   rw[e,this.1,this.2];rfl
 ·rw[LA l j h]
theorem UQ {R:Act->World->Prop}{K K':Act->World->Prop} (hK:∀a w,K a w->K' a w) (h:o.wp P a w K (FA R)\/(o.asks P a w/\LetsOut (FA R))):
  o.wp P a w K' Q\/(o.asks P a w/\LetsOut Q):=by
 rcases h with h | ⟨_,a',w',h⟩
 ·left
  unfold Oper.wp at*
  generalize (execOp a.eval o).run P w=r at*
  cases r with
  |ok n w'=>
   cases n <;> simp only[Oper.upon]at h ⊢ <;>
    first
     |exact hK _ _ h
     |exact Calls.mono h (λe w'' he=>by
       cases e with
       |returned v=>exact hK _ _ he
       |panicked c=>exact False.elim he
       |outgrown=>obtain⟨_,_,he⟩:=he;exact False.elim he)
     |exact Rows.mono h (λ_ _ he=>hK _ _ he)
  |halt x w'=>
   cases x <;> simp only[Oper.upon]at h ⊢
   case panic v=>exact False.elim h
 ·exact False.elim h
theorem YW  (hB:MS l=true)  (hs:listed.size=l.length) (h:Region.ready .any l.toArray listed=[]):∀i,i<l.length->listed.getD i true=true:=by
 intro i
 induction i using Nat.strongRecOn with
 |_ i ih=>
  intro hi;cases hv:listed.getD i true with
  |true=>rfl
  |false=>
   have hmem:i∈Region.ready .any l.toArray listed:=by
    rw[yh];refine⟨hv,l[i],by simp[hi],λe he hb=>?_⟩;unfold MS at hB;split at hB
    ·cases hB
    ·simp only[gz,oh,jc]at hB
     have h1:=hB.2.2.2 i hi;rw[gE hi]at h1;simp only[kq,jq,oh,ir]at h1;have h2:=h1 e abi;have h3:=ih e.on h2 (by omega);rw[mg]at h3 ⊢;rw[jw (by omega)]at h3 ⊢;simpa using h3
   rw[h]at hmem;cases hmem
def ME (l:List Oper) (listed:Array Bool):Prop:=∀(k:Nat) (o:Oper),l[k]?=some o->listed.getD k false=true->∀e∈o.after,Region.binds .any e=true->listed.getD e.on false=true
theorem ME.step  (hc:ME l listed)  (hi:i∈Region.ready .any l.toArray listed):ME l (listed.setIfInBounds i true):=by
 intro k o hk hl e he hb
 by_cases hki:i=k
 ·subst hki
  obtain⟨_,o',h1,h2⟩:=yh.1 hi;rw[ia,hk]at h1;injection h1 with h1
  subst h1;exact getD_set_true (h2 e he hb)
 ·rw[zl false hki]at hl
  exact getD_set_true (hc k o hk hl e he hb)
theorem jR  (hB:MS l=true)  (hc:ME l listed) (h:l.length - 1∈Region.ready .any l.toArray listed):∀j,j+1<l.length->listed.getD j false=true:=by
 intro j hj;obtain⟨_,o,ho,hall⟩:=yh.1 h;unfold MS at hB;split at hB
 ·cases hB
 ·rename_i o' hl
  have h2:=(II l o' hl).2;rw[ia,h2]at ho;injection ho with ho
  subst ho;simp only[gz,oh,jc]at hB;have h3:=hB.2.2.1 j (by omega);rw[qb]at h3;obtain⟨e,he,h3⟩:=h3;simp only[gz,oq,kr]at h3;have h4:=hall e abi h3.1
  rcases h3.2 with h5 |h5
  ·rw[h5]at h4;exact h4
  ·cases hx:l[e.on]? with
   |none=>rw[hx]at h5;simp at h5
   |some x=>
    rw[hx]at h5;simp only[kq,jq,qb,gz,kr]at h5;obtain⟨e2,Ra,hb2,hj2⟩:=h5;have:=hc e.on x hx h4 e2 (by simpa using Ra) hb2;rw[hj2]at this;exact this
theorem T5  (ho:l.getLast?=some o) (hB:MS l=true):∀(fuel:Nat) (listed:Array Bool) (a:Act) (w:World),listed.size=l.length->ME l listed->listed.getD (l.length - 1) true=false->
  wpAny P .any (AG l).toArray (FA λa w=>wpList P #[o] Q [o] a w) fuel listed a w->wpAny P .any l.toArray Q fuel listed a w:=by
 have hpos:0<l.length:=by cases l with |nil=>simp at ho |cons _ _=>simp
 intro fuel
 induction fuel with
 |zero=>
  intro listed a w hs hcl hl h;have h1:=h.1;rw[KS]at h1;have:=YW hB hs h1 (l.length - 1) (by omega);rw[hl]at this;cases this
 |succ fuel ih=>
  intro listed a w hs hcl hl h;refine⟨λh1=>?_,λi hi=>?_⟩
  ·have:=YW hB hs h1 (l.length - 1) (by omega)
   rw[hl]at this;cases this
  ·have h2:=h.2 i (by rw[KS];exact hi)
   unfold wpOp at h2 ⊢;have hio:∃oi,l[i]?=some oi:=by
    obtain⟨_,oi,h3,_⟩:=yh.1 hi;exact⟨oi,by simpa using h3⟩
   obtain⟨oi,hoi⟩:=hio
   by_cases Tw:i+1=l.length
   ·have e:i=l.length - 1:=by omega
    subst e;have hc:=II l o ho;rw[ia,hc.1]at h2;rw[ia,hc.2];have hg:o.guard=none/\o.dst=none:=by
     unfold MS at hB;rw[ho]at hB;simp only[gz,Option.isNone_iff_eq_none]at hB;exact⟨hB.1,hB.2.1⟩
    have hw1:Region.wanted (BP o) (yielded (AG l).toArray a.tmps)=true:=by
     unfold Region.wanted BP;rw[hg.1]
    have hw2:Region.wanted o (yielded l.toArray a.tmps)=true:=by
     unfold Region.wanted;rw[hg.1]
    have hw3:Region.wanted o (yielded #[o] a.tmps)=true:=by
     unfold Region.wanted;rw[hg.1]
    simp only[hw1,hw2,xZ]at h2 ⊢;have hnil:Region.ready .any l.toArray (listed.setIfInBounds (l.length - 1) true)=[]:=by
     rw[List.eq_nil_iff_forall_not_mem];intro j hj;obtain⟨h4,oj,h5,_⟩:=yh.1 hj;have hjl:j<l.length:=by
      rw[ia]at h5;exact(zM.1 h5).1
     by_cases abm:j=l.length - 1
     ·subst abm
      simp[hs]at h4
     ·rw[zl true (yB abm)]at h4
      have h6:=jR hB hcl hi j (by omega);rw[mg,jw (by omega)]at h4 h6;simp at h4 h6;rw[h4]at h6;cases h6
    have hend:wpList P #[o] Q [o] a w:=by
     rcases h2 with h2 | ⟨_,a',w',h2⟩
     ·have h7:(BP o).wp P a w (wpAny P .any (AG l).toArray (FA λa w=>wpList P #[o] Q [o] a w) fuel (listed.setIfInBounds (l.length - 1) true)) (FA λa w=>wpList P #[o] Q [o] a w):=h2
      unfold Oper.wp at h7;have hr:(execOp a.eval (BP o)).run P w=.ok (.value undef) w:=by
       simp[execOp,BP,Act.eval]
      rw[hr]at h7;have h8:wpAny P .any (AG l).toArray (FA λa w=>wpList P #[o] Q [o] a w) fuel (listed.setIfInBounds (l.length - 1) true) (a.put o.dst undef) w:=h7;rw[hg.2]at h8;have h9:a.put none undef=a:=rfl;rw[h9]at h8;cases fuel with
      |zero=>exact h8.2
      |succ f=>exact h8.1 (by rw[KS];exact hnil)
     ·exact False.elim h2
    unfold wpList at hend;rw[hw3,ay rfl]at hend;refine hend.imp (λh=>Oper.wp_mono (λa' w' h'=>?_) h) id;cases fuel with
    |zero=>exact⟨hnil,h'⟩
    |succ f=>exact⟨λ_=>h',by rw[hnil];simp⟩
   ·rw[ia,LA l i Tw,hoi]at h2
    rw[ia,hoi];simp only at h2 ⊢;rw[TM]at h2;have hs':(listed.setIfInBounds i true).size=l.length:=by simp[hs]
    have abn:=hcl.step hi;have hl':(listed.setIfInBounds i true).getD (l.length - 1) true=false:=by rw[zl true (by omega)];exact hl
    split at h2
    ·rename_i hw
     rw[ay hw];exact UQ (λa' w' h'=>ih _ a' w' hs' abn hl' h') h2
    ·rename_i hw
     rw[aq hw];exact ih _ _ _ hs' abn hl' h2
def AR:List Oper->Oper
 | []=>default
 | [o]=>o
 |_::p::r=>AR (p::r)
theorem M1:∀(l:List Oper),l≠ []->l.getLast?=some (AR l)
 | [],h=>absurd rfl h
 | [o],_=>rfl
 |x::p::r,_=>by
  have:=M1 (p::r) (by simp);show(x::p::r).getLast?=some (AR (p::r));rw[List.getLast?_cons_cons];exact this
theorem AH {id:Nat} (S:World->Prop) (hm:P.follows .mixedOrders=true) (hB:MS l=true) (hS:S w.drew)
  (h:S w.drew->wpAnyH P .any (AG l).toArray (FA λa w=>wpList P #[AR l] Q [AR l] a w) S l.length (Array.replicate l.length false) a w.drew):(Code.region id l.toArray true).wp P Q a w:=by
 refine wp_region_any hm ?_;have ho:l.getLast?=some (AR l):=by
  refine M1 l ?_;intro e;subst e;cases hB
 have hpos:0<l.length:=by cases l with |nil=>simp at ho |cons _ _=>simp
 rw[jf];refine T5 ho hB _ _ _ _ (by simp) ?_ ?_ (wpAny_of_held _ _ _ _ (h hS))
 ·intro k o' hk hl
  rw[mg]at hl
  rcases jz k l.length with h' |h'
  ·simp[h']at hl
  ·simp[h']at hl
 rw[mg,jw zG];simp
end
end
theorem Tryz.info9:(Tryz.prog.info? 9).map (λi=>(i.zero,i.size,i.bytes))=some (some (.string ByteArray.empty),1,16):=by kernel_rfl
theorem uM (l:List UInt8):∀x∈(Qy l).1,x.size<=l.length:=by
 suffices h:∀(l:List UInt8) (p:List ByteArray × ByteArray) (n:Nat),(∀x∈p.1,x.size<=n)->p.2.size<=n->∀x∈(l.foldl EN p).1,x.size<=n+l.length by
  have:=h l ([],ByteArray.empty) 0 (by simp) (by simp);simpa[Qy] using this
 intro l
 induction l with
 |nil=>intro p n h1 _ x hx;simpa using h1 x hx
 |cons b r ih=>
  intro p n h1 h2 x hx;rw[lz]at hx;have h3:=dL p b;have:=ih (EN p b) (n+1) (by
   intro y hy;unfold EN at hy;split at hy
   ·rcases ig.1 hy with hy |hy
    ·have:=h1 y hy;omega
    ·simp at hy;subst hy;omega
   ·have:=h1 y hy;omega) (by omega) x hx
  simp only[lC];omega
theorem VI (s:ByteArray):1<=(AF s).length/\(AF s).length<=s.size+1:=by
 have h:=mB s.data.toList;have hlen:s.data.toList.length=s.size:=by simp
 unfold AF;simp only[lA,fu];omega
theorem SZ (s:ByteArray) (j:Nat):(nth (AF s) j).size<=s.size:=by
 have hlen:s.data.toList.length=s.size:=by simp
 have h1:=uM s.data.toList;have h2:=(mB s.data.toList).2;unfold nth;rw[Af];cases h:(AF s)[j]? with
 |none=>simp
 |some x=>
  have hm:=mG h;unfold AF at hm
  rcases ig.1 hm with hm |hm
  ·have:=h1 x hm;simp only[jq];omega
  ·simp at hm;subst hm;simp only[jq];omega
theorem WB (s:ByteArray) (a:Nat):(C3 s a).1.size<=s.size:=by
 unfold C3;split
 ·simp[ByteArray.size_extract];omega
 ·simp
end Go.Proofs.YtjjggdcnpndgjaaGreatDoor
