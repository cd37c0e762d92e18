import Derived.Test.YtjjggdcnpndgjaaGreatDoorHJ9
set_option linter.unusedSimpArgs false
set_option maxHeartbeats 4000000
set_option maxRecDepth 100000
namespace Go.Proofs.YtjjggdcnpndgjaaGreatDoor
abbrev bk:=@Go.wpAnyH_done
abbrev lz:=@List.map_congr_left
abbrev pz:=@List.map_map
abbrev uw:=@Nat.succ_mul
abbrev vn:=@Go.World.cell?_setCell_other
open Go.RowKit
variable {L:List (List (List Pt))}{b i n n₀ n₁ p t:Nat}{c:Nat->Nat->Nat->Pt}{m:Mk}{r:List Pt}{role:Nat->Option (Nat × Nat)}{rs:List (List Pt)}{v:Value}{w w':World}
def EQ:Pt->ByteArray
 | .tok t=>AA t
 | .yB n=>BL n
theorem kD (p:Pt):ba (wB p)=EQ p:=by cases p <;> rfl
theorem Mk.Good.rl  (h:m.Good)  (hn:m.rules[n]?=some rs):n<4/\rs∈m.rules:=by
 have h1:=(yS.1 hn).1;have:=h.n4;exact⟨by omega,mG hn⟩
theorem WB  (h:m.Good)  (hr:rs∈m.rules)  (hr2:r∈rs) {p:Pt} (hp:p∈r):EL 6 4 p:=by
 have h1:=h.part rs hr r hr2 p hp;have h2:=h.t6;have h3:=h.n4;cases p <;> simp only[EL]at h1 ⊢ <;> omega
theorem WR {α:Type}{l:List α}{d x:α} (h:l[i]?=some x):l.getD i d=x:=by rw[zh,h];rfl
theorem WM {α:Type}{l:List α}{d:α} (h:l[i]?=none):l.getD i d=d:=by rw[zh,h];rfl
theorem K5  (h:m.Good) (i j:Nat):D1 m i j<=9:=by
 unfold D1;cases hi:m.swaps[i]? with
 |none=>rw[WM hi];simp
 |some r=>
  rw[WR hi];cases hj:r[j]? with
  |none=>rw[WM hj];omega
  |some x=>rw[WR hj];exact h.s1 r (mG hi) x (mG hj)
theorem UD  (h:m.Good) (i:Nat):D1 m i i=0:=by
 unfold D1;cases hi:m.swaps[i]? with
 |none=>rw[WM hi];simp
 |some r=>rw[WR hi];exact h.Wf i r hi
theorem JM {l:List Nat}{lo hi:Nat} (h:∀x∈l,lo<=x/\x<=hi)  (hi':i<l.length):lo<=l.getD i 0/\l.getD i 0<=hi:=by
 rw[zh,gE hi'];exact h _ (oc hi')
theorem M1  (h:m.Good) {ws:List (List UInt8)} (hw:ws∈F7 m):
  (∃i,i<m.yP.length/\ws=KI i (m.yP.getD i 0) (m.zk.getD i 0))\/(∃i j,i<m.yP.length/\j<m.yP.length/\i≠j/\0<D1 m i j/\ws=IC i j (D1 m i j))\/(∃(n:Nat) (rs:List (List Pt)),m.rules[n]?=some rs/\ws=E4 n rs):=by
 unfold F7 at hw;rw[gj]at hw
 rcases hw with hw |hw
 ·rw[ow]at hw
  obtain⟨i,hi,hw⟩:=hw;have hi:=ir.1 hi;unfold I4 at hw
  rcases bh.1 hw with rfl |hw
  ·exact .inl ⟨i,hi,rfl⟩
  ·rw[ow]at hw
   obtain⟨j,hj,hw⟩:=hw;have hj:=ir.1 hj;split at hw
   ·rename_i h0
    refine .inr (.inl ⟨i,j,hi,hj,λe=>?_,h0,by simpa using hw⟩);subst e;rw[UD h]at h0;omega
   ·cases hw
 ·rw[cj]at hw
  obtain⟨⟨rs,n⟩,hx,rfl⟩:=hw;exact .inr (.inr ⟨n,rs,jx.1 hx,rfl⟩)
theorem P6 {w:List UInt8}:∀{L:List (List (List UInt8))},w∈G8 L->w=[124]\/∃r∈L,w∈r
 | [],h=>by cases h
 | [r],h=>.inr ⟨r,by simp,h⟩
 |r::q::t,h=>by
  unfold G8 at h;rw[gj,bh]at h
  rcases h with h |h |h
  ·exact .inr ⟨r,by simp,h⟩
  ·exact .inl h
  ·rcases P6 (L:=q::t) h with h1 | ⟨x,hx,h1⟩
   ·exact .inl h1
   ·exact .inr ⟨x,by simp[hx],h1⟩
theorem j5  (h:m.Good) {ws:List (List UInt8)} (hw:ws∈F7 m):∀w∈ws,∀b∈w,b≠32/\b≠10:=by
 have Ji:=h.t6;have key:∀w∈ws,w=[116,111,107,101,110]\/w=[115,119,97,112]\/w=[114,117,108,101]\/w=[61]\/w=[124]\/(∃i,i<6/\w=[UInt8.ofNat (97+i)])\/(∃i,i<4/\w=[UInt8.ofNat (65+i)])\/(∃i,i<10/\w=[UInt8.ofNat (48+i)]):=by
  intro w hm
  rcases M1 h hw with⟨i,hi,rfl⟩ | ⟨i,j,hi,hj,_,_,rfl⟩ | ⟨n,rs,hn,rfl⟩
  ·have hp:=JM h.p1 hi
   have hd:=JM h.d1 (i:=i) abU;simp only[KI,bh,jy,qu]at hm
   rcases hm with rfl |rfl |rfl |rfl
   ·exact .inl rfl
   ·exact .inr (.inr (.inr (.inr (.inr (.inl ⟨i,by omega,rfl⟩)))))
   ·exact .inr (.inr (.inr (.inr (.inr (.inr (.inr ⟨_,by omega,rfl⟩))))))
   ·exact .inr (.inr (.inr (.inr (.inr (.inr (.inr ⟨_,by omega,rfl⟩))))))
  ·have hc:=K5 h i j
   simp only[IC,bh,jy,qu]at hm
   rcases hm with rfl |rfl |rfl |rfl
   ·exact .inr (.inl rfl)
   ·exact .inr (.inr (.inr (.inr (.inr (.inl ⟨i,by omega,rfl⟩)))))
   ·exact .inr (.inr (.inr (.inr (.inr (.inl ⟨j,by omega,rfl⟩)))))
   ·exact .inr (.inr (.inr (.inr (.inr (.inr (.inr ⟨_,by omega,rfl⟩))))))
  ·obtain⟨Ia,hmem⟩:=h.rl hn
   simp only[E4,bh]at hm
   rcases hm with rfl |rfl |rfl |hm
   ·exact .inr (.inr (.inl rfl))
   ·exact .inr (.inr (.inr (.inr (.inr (.inr (.inl ⟨n,Ia,rfl⟩))))))
   ·exact .inr (.inr (.inr (.inl rfl)))
   ·rcases P6 hm with rfl | ⟨r,hr,hwr⟩
    ·exact .inr (.inr (.inr (.inr (.inl rfl))))
    ·rw[cj]at hr
     obtain⟨q,hq,rfl⟩:=hr;rw[cj]at hwr;obtain⟨p,hp,rfl⟩:=hwr;have:=WB h hmem hq hp;cases p with
     |tok t=>exact .inr (.inr (.inr (.inr (.inr (.inl ⟨t,this,rfl⟩)))))
     |yB k=>exact .inr (.inr (.inr (.inr (.inr (.inr (.inl ⟨k,this,rfl⟩))))))
 intro w hm b hb
 rcases key w hm with rfl |rfl |rfl |rfl |rfl | ⟨i,hi,rfl⟩ | ⟨i,hi,rfl⟩ | ⟨i,hi,rfl⟩
 ·revert b;decide
 ·revert b;decide
 ·revert b;decide
 ·revert b;decide
 ·revert b;decide
 ·obtain rfl:=mS.1 hb
  exact wH i hi
 ·obtain rfl:=mS.1 hb
  exact wU i hi
 ·obtain rfl:=mS.1 hb
  exact wI i hi
theorem XK {b:UInt8}:∀{ws:List (List UInt8)},b∈BP ws->b=32\/∃w∈ws,b∈w
 | [],h=>by cases h
 | [w],h=>.inr ⟨w,by simp,h⟩
 |w::v::r,h=>by
  unfold BP at h;rw[gj,bh]at h
  rcases h with h |h |h
  ·exact .inr ⟨w,by simp,h⟩
  ·exact .inl h
  ·rcases XK (ws:=v::r) h with h1 | ⟨x,hx,h1⟩
   ·exact .inl h1
   ·exact .inr ⟨x,by simp[hx],h1⟩
theorem Q6  (h:m.Good) {ws:List (List UInt8)} (hw:ws∈F7 m):(∀b∈BP ws,b≠10)/\A9 (ba (BP ws))=ws.map ba:=by
 have hc:=j5 h hw;refine⟨λb hb=>?_,?_⟩
 ·rcases XK hb with rfl | ⟨w,hm,h1⟩
  ·decide
  ·exact(hc w hm b h1).2
 ·refine kO ws ?_ (λw hm b hb=>(hc w hm b hb).1)
  rcases M1 h hw with⟨i,_,rfl⟩ | ⟨i,j,_,_,_,_,rfl⟩ | ⟨n,rs,_,rfl⟩ <;> simp[KI,IC,E4]
theorem wS:(ba [116,111,107,101,110]).toList=[116,111,107,101,110]:=by decide+kernel
theorem wM:(ba [115,119,97,112]).toList=[115,119,97,112]:=by decide+kernel
theorem vO:(ba [114,117,108,101]).toList=[114,117,108,101]:=by decide+kernel
theorem xD:(ba [61]).toList=[61]:=by decide+kernel
theorem lV:I5 (ba [124])=true:=by decide+kernel
theorem UI (i p d:Nat):(KI i p d).map ba=[ba [116,111,107,101,110],AA i,E8 p,E8 d]:=rfl
theorem IH (i j c:Nat):(IC i j c).map ba=[ba [115,119,97,112],AA i,AA j,E8 c]:=rfl
theorem PR (n:Nat) (rs:List (List Pt)):(E4 n rs).map ba=ba [114,117,108,101]::BL n::ba [61]::(G8 (rs.map λr=>r.map wB)).map ba:=rfl
theorem TB {d:Nat} (hi:i<6) (hp:1<=p/\p<=9) (hd:1<=d/\d<=9):AR [ba [116,111,107,101,110],AA i,E8 p,E8 d]=true/\AW [ba [116,111,107,101,110],AA i,E8 p,E8 d]=0:=by
 have h0:(nth [ba [116,111,107,101,110],AA i,E8 p,E8 d] 0).toList=[116,111,107,101,110]:=wS;refine⟨?_,?_⟩
 ·unfold AR
  rw[au (by simp),h0,aq (by decide)];unfold D6;show(true&&(DS (AA i)&&(DH (E8 p)&&DH (E8 d))))=true;rw[OB i hi,WK p (by omega) hp.1,WK d (by omega) hd.1];rfl
 ·unfold AW
  rw[h0,aq (by decide)]
theorem PO {j c:Nat} (hi:i<6) (hj:j<6) (hc:1<=c/\c<=9):AR [ba [115,119,97,112],AA i,AA j,E8 c]=true/\AW [ba [115,119,97,112],AA i,AA j,E8 c]=1:=by
 have h0:(nth [ba [115,119,97,112],AA i,AA j,E8 c] 0).toList=[115,119,97,112]:=wM;refine⟨?_,?_⟩
 ·unfold AR
  rw[au (by simp),h0,au (by decide),aq (by decide)];unfold BQ;show(true&&(DS (AA i)&&(DS (AA j)&&DH (E8 c))))=true;rw[OB i hi,OB j hj,WK c (by omega) hc.1];rfl
 ·unfold AW
  rw[h0,au (by decide),aq (by decide)]
theorem PA  (h:m.Good)  (hn:m.rules[n]?=some rs):AR ((E4 n rs).map ba)=true/\AW ((E4 n rs).map ba)=2:=by
 obtain⟨Ia,hmem⟩:=h.rl hn;rw[PR]
 generalize hq:(G8 (rs.map λr=>r.map wB)).map ba=q
 have h0:(nth (ba [114,117,108,101]::BL n::ba [61]::q) 0).toList=[114,117,108,101]:=vO;refine⟨?_,?_⟩
 ·unfold AR
  rw[au (by simp),h0,au (by decide),au (by decide),aq (by decide)];unfold CY NI;have h2:(nth (ba [114,117,108,101]::BL n::ba [61]::q) 2).toList=[61]:=xD;have h1:nth (ba [114,117,108,101]::BL n::ba [61]::q) 1=BL n:=rfl;rw[h2,h1,TG n Ia,ij (by simp)];show((true&&(true&&true))&&q.all NP)=true;simp only[Bool.and_self,xU,nj];intro x hx;rw[<-hq,cj]at hx;obtain⟨w,hw,rfl⟩:=hx;unfold NP
  rcases P6 hw with rfl | ⟨r,hr,hwr⟩
  ·rw[lV];rfl
  ·rw[cj]at hr
   obtain⟨y,hy,rfl⟩:=hr;rw[cj]at hwr;obtain⟨p,hp,rfl⟩:=hwr;rw[kD];have:=WB h hmem hy hp;cases p with
   |tok t=>show(I5 (AA t)||(DS (AA t)||GM (AA t)))=true;rw[OB t this];simp
   |yB k=>show(I5 (BL k)||(DS (BL k)||GM (BL k)))=true;rw[TG k this];simp
 ·unfold AW
  rw[h0,au (by decide),au (by decide)]
theorem gA  (h:m.Good) {ws:List (List UInt8)} (hw:ws∈F7 m):AR (ws.map ba)=true/\¬(ws.map ba).length=1:=by
 have Ji:=h.t6
 rcases M1 h hw with⟨i,hi,rfl⟩ | ⟨i,j,hi,hj,_,h0,rfl⟩ | ⟨n,rs,hn,rfl⟩
 ·rw[UI]
  exact⟨(TB (by omega) (JM h.p1 hi) (JM h.d1 abU)).1,by simp⟩
 ·rw[IH]
  exact⟨(PO (by omega) (by omega) ⟨h0,K5 h i j⟩).1,by simp⟩
 ·exact⟨(PA h hn).1,by rw[PR];simp⟩
theorem XB  (h:m.Good):AG (DB m) 0=((RJ ((F7 m).map BP) 0).zip ((F7 m).map λws=>ws.map ba),(DB m).size):=by
 have h1:=VR (DB m) ((F7 m).map BP) 0 (by simp[DB,ba]) (bu _) (λl hl=>by
  obtain⟨ws,hw,rfl⟩:=cj.1 hl;refine⟨(Q6 h hw).1,?_⟩;have:=(Q6 h hw).2;unfold ba at this;rw[this];exact(gA h hw).1)
 rw[h1,pz]
 congr 2
 refine lz λws hw=>?_
 exact(Q6 h hw).2
theorem QV:∀(r:List ByteArray) (d:List (List ByteArray)) (c:List ByteArray),(∀w∈r,I5 w=false)->r.foldl DG (d,c)=(d,c++r)
 | [],d,c,_=>by simp
 |w::r,d,c,h=>by
  rw[ld];have e:DG (d,c) w=(d,c++ [w]):=by unfold DG;rw[au (by rw[h w (by simp)];decide)]
  rw[e,QV r d _ (λx hx=>h x Le)];simp
theorem cJ:∀(L:List (List (List UInt8))) (d:List (List ByteArray)),L≠ []->(∀r∈L,∀w∈r,I5 (ba w)=false)->
  (((G8 L).map ba).foldl DG (d,[])).1++ [(((G8 L).map ba).foldl DG (d,[])).2]=d++L.map λr=>r.map ba
 | [],d,h,_=>absurd rfl h
 | [r],d,_,h=>by
  show((r.map ba).foldl DG (d,[])).1++ [((r.map ba).foldl DG (d,[])).2]=_;rw[QV (r.map ba) d [] (λw hw=>by obtain⟨x,hx,rfl⟩:=cj.1 hw;exact h r (by simp) x hx)];simp
 |r::q::t,d,_,h=>by
  have hr:=QV (r.map ba) d [] (λw hw=>by obtain⟨x,hx,rfl⟩:=cj.1 hw;exact h r (by simp) x hx);have e:((G8 (r::q::t)).map ba).foldl DG (d,[])=((G8 (q::t)).map ba).foldl DG (d++ [r.map ba],[]):=by
   show((r++ [124]::G8 (q::t)).map ba).foldl DG _=_;rw[ew,jv,uk,hr,ld]
   congr 1
   unfold DG;rw[aq lV];simp
  rw[e,cJ (q::t) _ (by simp) (λx hx=>h x Le)];simp
theorem MG  (h:m.Good)  (hn:m.rules[n]?=some rs):A8 ((E4 n rs).map ba)=rs.map λr=>r.map EQ:=by
 obtain⟨Ia,hmem⟩:=h.rl hn;have hc:=(h.c1 rs hmem).1;unfold A8 Ei;rw[PR];have:=cJ (rs.map λr=>r.map wB) [] (by intro e;have:=congrArg List.length e;simp at this;rw[this]at hc;simp at hc) (λr hr w hw=>by
  rw[cj]at hr;obtain⟨y,hy,rfl⟩:=hr;rw[cj]at hw;obtain⟨p,hp,rfl⟩:=hw;rw[kD];have:=WB h hmem hy hp;cases p with
  |tok t=>exact uL t this
  |yB k=>exact uX k this)
 show(((G8 (rs.map λr=>r.map wB)).map ba).foldl DG ([],[])).1++ [(((G8 (rs.map λr=>r.map wB)).map ba).foldl DG ([],[])).2]=_;rw[this,eu,pz];refine lz λr _=>?_
 show(r.map wB).map ba=_;rw[pz];exact lz λp _=>kD p
def DO (w:World) (B:Nat) (v:Value) (l:List ByteArray):Prop:=w.ownsRow B 9 1 v l.length (JD l)
def J3 (n:Nat) (p:Nat->Bool):Option Nat:=(List.range n).find? λi=> !p i
theorem PX {p:Nat->Bool} (h:∀j,j<n->p j=true):J3 n p=none:=by
 unfold J3;rw[List.find?_eq_none];intro x hx;simp[h x (ir.1 hx)]
def O7 (G:Gr) (N:NG):ByteArray × Int:=
 match J3 N.nN (yU (BN N true))with
 |some i=>(nth G.names i,6)
 |none=>match J3 N.nN (yU (IV N))with
  |some i=>(nth G.names i,7)
  |none=>match J3 N.nN (λi=>decide (Cf (JJ N) i<=200))with
   |some i=>(nth G.names i,8)
   |none=>(ByteArray.empty,0)
def zg (m:Mk):NG where
 nT:=m.yP.length
 nN:=m.rules.length
 put:=λt=>m.yP.getD t 0
 drop:=λt=>m.zk.getD t 0
 swp:=D1 m
 rules:=m.rules.zipIdx.flatMap λx=>x.1.map λps=>(x.2,ps)
theorem IB {r:Nat × List Pt}:r∈(zg m).rules↔∃rs,m.rules[r.1]?=some rs/\r.2∈rs:=by
 show r∈m.rules.zipIdx.flatMap (λx=>x.1.map λps=>(x.2,ps))↔_;rw[ow];constructor
 ·rintro⟨⟨rs,n⟩,hx,hr⟩
  obtain⟨ps,hps,rfl⟩:=cj.1 hr;exact⟨rs,jx.1 hx,hps⟩
 ·rintro⟨rs,h1,h2⟩
  exact⟨(rs,r.1),jx.2 h1,cj.2 ⟨r.2,h2,rfl⟩⟩
theorem EI  (h:m.rules[n]?=some rs):n<m.rules.length/\rs∈m.rules:=by
 obtain⟨h1,h2⟩:=yS.1 h;exact⟨h1,h2▸oc h1⟩
theorem Mk.Good.Tn  (h:m.Good)  (hrs:rs∈m.rules)  (hr:r∈rs):∃k ps,k<rs.length/\r=.tok k::ps/\r.length<=5:=by
 obtain⟨k,hk,rfl⟩:=jr.1 hr;obtain⟨h1,h2⟩:=h.head rs hrs k _ (gE hk)
 revert h1 h2
 generalize rs[k]=q
 intro h1 h2;cases q with
 |nil=>cases h1
 |cons a t=>injection h1 with h1;subst h1;exact⟨k,t,hk,rfl,h2⟩
theorem Mk.Good.Rl  (h:m.Good)  (ht:t<m.yP.length):1<=m.yP.getD t 0/\m.yP.getD t 0<=9:=by
 rw[zh,gE ht];exact h.p1 _ (oc ht)
theorem Mk.Good.aak  (h:m.Good)  (ht:t<m.yP.length):1<=m.zk.getD t 0/\m.zk.getD t 0<=9:=by
 rw[zh,gE (by rw[h.dl];exact ht)];exact h.d1 _ (oc _)
theorem Mk.Good.ahO  (h:m.Good) (i j:Nat):D1 m i j<=9:=by
 unfold D1;simp only[zh];cases hi:m.swaps[i]? with
 |none=>simp
 |some r=>
  simp only[jm];cases hj:r[j]? with
  |none=>simp
  |some x=>exact h.s1 r (mG hi) x (mG hj)
theorem IU  (h:m.Good):(zg m).Ok where
 pos:=h.n1
 lt:=λr hr=>by
  obtain⟨rs,h1,_⟩:=IB.1 hr;exact(EI h1).1
 pn:=λr hr n hn=>by
  obtain⟨rs,h1,h2⟩:=IB.1 hr;exact h.part rs (EI h1).2 r.2 h2 _ hn
 pt:=λr hr t ht=>by
  obtain⟨rs,h1,h2⟩:=IB.1 hr;exact h.part rs (EI h1).2 r.2 h2 _ ht
 Tm:=λt ht=>(h.Rl ht).1
 Vz:=λt ht=>by have:=(h.Rl ht).2;show m.yP.getD t 0<=99;omega
 aai:=λt ht=>(h.aak ht).1
 abY:=λt ht=>by have:=(h.aak ht).2;show m.zk.getD t 0<=99;omega
 abZ:=λt u=>by have:=h.ahO t u;show D1 m t u<=99;omega
 parts:=λr hr=>by
  obtain⟨rs,h1,h2⟩:=IB.1 hr;obtain⟨k,ps,_,_,h3⟩:=h.Tn (EI h1).2 h2;omega
theorem Mk.Good.ab0  (h:m.Good)  (hn:n<m.rules.length):∃r,(n,r)∈(zg m).rules/\(∀p∈r,∃t,p=.tok t)/\r.length<=5:=by
 obtain⟨rs,hrs⟩:∃rs,m.rules[n]?=some rs:=⟨_,gE hn⟩;have hm:=(EI hrs).2;have h1:=h.c1 rs hm;have hne:rs≠ []:=by intro e;subst e;simp at h1
 have hl:rs.getLast?=some (rs.getLast hne):=List.getLast?_eq_some_getLast hne;have hmem:=List.getLast_mem hne;obtain⟨_,_,_,_,h3⟩:=h.Tn hm hmem;exact⟨_,IB.2 ⟨rs,hrs,hmem⟩,h.last rs hm _ hl,h3⟩
theorem rU  (h:m.Good) (n:Nat):yU (BN (zg m) false) n=false:=by
 have hl:=(LK (zg m) (IU h) false).1;have:=hl.2 (λ_=>false) (λr hr he=>by
  obtain⟨rs,h1,h2⟩:=IB.1 hr;obtain⟨k,ps,_,e,_⟩:=h.Tn (EI h1).2 h2;rw[e]at he;simp[JI]at he) n
 cases hb:yU (BN (zg m) false) n with
 |false=>rfl
 |true=>exact absurd (this hb) (by decide)
theorem vE  (h:m.Good)  (hn:n< (zg m).nN):yU (BN (zg m) true) n=true:=by
 have hl:=(LK (zg m) (IU h) true).1;obtain⟨r,hr,ht,_⟩:=h.ab0 hn;refine hl.1 (n,r) hr ?_;unfold JI;rw[nj];intro p hp;obtain⟨t,rfl⟩:=ht p hp;rfl
theorem oD  (h:m.Good):∀{n:Nat},n< (zg m).nN->yU (IV (zg m)) n=true:=by
 have hl:=(UK (zg m) (IU h)).1.1;intro n
 induction n with
 |zero=>intro _;exact hl.1
 |succ n ih=>
  intro hn;have hn':n+1<m.rules.length:=hn;obtain⟨rs,hrs⟩:∃rs,m.rules[n]?=some rs:=⟨_,gE (by omega)⟩;obtain⟨r,hr,hm⟩:=h.reach n rs hrs hn';have hin:r∈rs:=by
   obtain⟨h1,h2⟩:=yS.1 hr;exact h2▸oc h1
  exact hl.2 (n,r) (IB.2 ⟨rs,hrs,hin⟩) (ih (by show n<m.rules.length;omega)) (n+1) hm
theorem bQ {m:Mk} (h:m.Good) (f:Nat->Nat):∀r:List Pt,(∀p∈r,∃t,p=.tok t)->(∀p∈r,EL m.yP.length m.rules.length p)->DR (zg m) f r<=r.length*9
 | [],_,_=>yF _
 | .tok t::r,h1,h2=>by
  have h3:t<m.yP.length:=h2 (.tok t) (by simp);have h4:=(h.Rl h3).2;have ih:=bQ h f r (λp hp=>h1 p (by simp[hp])) (λp hp=>h2 p (by simp[hp]));rw[lC,uw];show m.yP.getD t 0+DR (zg m) f r<=_;omega
 | .yB n::r,h1,_=>by
  obtain⟨t,ht⟩:=h1 (.yB n) (by simp);cases ht
theorem dH  (h:m.Good)  (hn:n< (zg m).nN):Cf (JJ (zg m)) n<=45:=by
 have hl:=(SC (zg m) (IU h)).1;obtain⟨r,hr,ht,h5⟩:=h.ab0 hn;have h1:Cf (JJ (zg m)) n<=DR (zg m) (Cf (JJ (zg m))) r:=hl.2.1 (n,r) hr;obtain⟨rs,h2,h3⟩:=IB.1 hr;have h4:=bQ h (Cf (JJ (zg m))) r ht (h.part rs (EI h2).2 r h3);omega
theorem i8  (h:m.Good) (G:Gr):O7 G (zg m)=(ByteArray.empty,0):=by
 unfold O7;rw[PX (λj hj=>vE h hj),PX (λj hj=>oD h hj),PX (λj hj=>by
  have:=dH h hj;exact ij (by omega))]
theorem kZ  (h:m.Good)  (hn:m.rules[n]?=some rs) (t:Nat):
  yU (Dq (IQ (zg m) (yU (BN (zg m) false))) n) t=decide (t<rs.length):=by
 have hl:=(PI (zg m) (IU h) (yU (BN (zg m) false))).2 t;show col _ t n=_;rw[og,ia];constructor
 ·intro hc
  have:=hl.2 (λi=>decide (t< (m.rules.getD i []).length)) (λr hr he=>by
   obtain⟨qs,h1,h2⟩:=IB.1 hr;obtain⟨k,ps,hk,e,_⟩:=h.Tn (EI h1).2 h2;rw[e]at he;have hkt:(k==t)=true:=he;rw[lq]at hkt;subst hkt;rw[ia,zh,h1];exact hk) n hc
  rw[ia,zh,hn]at this;exact this
 ·intro ht
  have hm:=(EI hn).2;obtain⟨h1,_⟩:=h.head rs hm t _ (gE ht);refine hl.1 (n,rs[t]) (IB.2 ⟨rs,hn,oc ht⟩) ?_
  revert h1
  generalize rs[t]=q
  intro h1;cases q with
  |nil=>cases h1
  |cons a b=>injection h1 with h1;subst h1;simp[DQ]
def GC (w:World) (n₀:Nat) (v:Value) (n:Nat) (P:Nat->Value->Prop):Prop:=
 ∃g cap,v=ae g n cap/\n<=cap/\g<n₀/\∀j,j<n->∃x,w.cell? (af g j)=some x/\P j x
theorem GC.below {P Q:Nat->Value->Prop} (h:GC w n₀ v n P) (hb:Below n₀ w w') (hPQ:∀j x,j<n->P j x->Q j x):GC w' n₀ v n Q:=by
 obtain⟨g,cap,h1,h2,h3,h4⟩:=h;refine⟨g,cap,h1,h2,h3,λj hj=>?_⟩;obtain⟨x,h5,h6⟩:=h4 j hj;exact⟨x,(hb.cell (by exact h3)).trans h5,hPQ j x hj h6⟩
def x9 (r:List Pt) (p:Nat) (z:Value):Prop:=∃q,r[p]?=some q/\z=.string (EQ q)
def wY (w:World) (n₀:Nat) (rs:List (List Pt)) (k:Nat) (y:Value):Prop:=∃r,rs[k]?=some r/\GC w n₀ y r.length (x9 r)
def PC (w:World) (n₀:Nat) (m:Mk) (n:Nat) (x:Value):Prop:=∃rs,m.rules[n]?=some rs/\GC w n₀ x rs.length (wY w n₀ rs)
structure Gk (w:World) (n₀ b:Nat) (m:Mk):Prop where
 lt:b<n₀
 rules:∃v,w.cell? (af b 0)=some v/\GC w n₀ v m.rules.length (PC w n₀ m)
 yP:∃v,w.cell? (af b 1)=some v/\GC w n₀ v m.yP.length λj x=>x=ab (m.yP.getD j 0:Nat)
 zk:∃v,w.cell? (af b 2)=some v/\GC w n₀ v m.yP.length λj x=>x=ab (m.zk.getD j 0:Nat)
 swaps:∃v,w.cell? (af b 3)=some v/\GC w n₀ v m.yP.length λi x=>GC w n₀ x m.yP.length λj y=>y=ab (D1 m i j:Nat)
theorem PC.below {x:Value} (h:PC w n₀ m n x) (hb:Below n₀ w w'):PC w' n₀ m n x:=by
 obtain⟨rs,h1,h2⟩:=h;exact⟨rs,h1,h2.below hb λk y _ ⟨r,h3,h4⟩=>⟨r,h3,h4.below hb λ_ _ _ h=>h⟩⟩
theorem Gk.below  (h:Gk w n₀ b m) (hb:Below n₀ w w'):Gk w' n₀ b m where
 lt:=h.lt
 rules:=by
  obtain⟨v,h1,h2⟩:=h.rules;exact⟨v,(hb.cell Ra).trans h1,h2.below hb λ_ _ _ h=>h.below hb⟩
 yP:=by
  obtain⟨v,h1,h2⟩:=h.yP;exact⟨v,(hb.cell Ra).trans h1,h2.below hb λ_ _ _ h=>h⟩
 zk:=by
  obtain⟨v,h1,h2⟩:=h.zk;exact⟨v,(hb.cell Ra).trans h1,h2.below hb λ_ _ _ h=>h⟩
 swaps:=by
  obtain⟨v,h1,h2⟩:=h.swaps;exact⟨v,(hb.cell Ra).trans h1,h2.below hb λ_ _ _ h=>h.below hb λ_ _ _ h=>h⟩
theorem GC.up {P Q:Nat->Value->Prop} (h:GC w n₀ v n P) (hn:n₀<=n₁) (hPQ:∀j x,P j x->Q j x):GC w n₁ v n Q:=by
 obtain⟨g,cap,h1,h2,h3,h4⟩:=h;refine⟨g,cap,h1,h2,lL h3 hn,λj hj=>?_⟩;obtain⟨x,h5,h6⟩:=h4 j hj;exact⟨x,h5,hPQ j x h6⟩
theorem PC.up {x:Value} (h:PC w n₀ m n x) (hn:n₀<=n₁):PC w n₁ m n x:=by
 obtain⟨rs,h1,h2⟩:=h;exact⟨rs,h1,h2.up hn λk y ⟨r,h3,h4⟩=>⟨r,h3,h4.up hn λ_ _ h=>h⟩⟩
theorem Gk.up  (h:Gk w n₀ b m) (hn:n₀<=n₁):Gk w n₁ b m where
 lt:=lL h.lt hn
 rules:=by
  obtain⟨v,h1,h2⟩:=h.rules;exact⟨v,h1,h2.up hn λ_ _ h=>h.up hn⟩
 yP:=by
  obtain⟨v,h1,h2⟩:=h.yP;exact⟨v,h1,h2.up hn λ_ _ h=>h⟩
 zk:=by
  obtain⟨v,h1,h2⟩:=h.zk;exact⟨v,h1,h2.up hn λ_ _ h=>h⟩
 swaps:=by
  obtain⟨v,h1,h2⟩:=h.swaps;exact⟨v,h1,h2.up hn λ_ _ h=>h.up hn λ_ _ h=>h⟩
theorem fZ:∀u,u<6->Op.bytesLess (AA u).toList [65]=false:=by decide+kernel
theorem gG:∀u,u<6->Op.bytesLess (AA u).toList [68]=false:=by decide+kernel
theorem fK:∀u,u<6->((AA u).toList== [68])=false:=by decide+kernel
theorem fA:∀u,u<4->Op.bytesLess (BL u).toList [65]=false:=by decide+kernel
theorem gC:∀u,u<4->Op.bytesLess (BL u).toList [68]=true\/((BL u).toList== [68])=true:=by decide+kernel
theorem WX (u:Nat):0< (BL u).size:=by show 0<1;omega
theorem aG:∀u,u<4->∀h:0< (BL u).size,(((BL u)[0]'h).toNat:Int)=65+u:=by
 intro u hu h;have e:u=0\/u=1\/u=2\/u=3:=by omega
 rcases e with rfl |rfl |rfl |rfl <;> rfl
def O3 (n:Nat):Pt->Pt
 | .tok t=>.tok t
 | .yB k=>if n<=k then .tok 0 else .yB k
structure Kh (W:World) (b:Nat) (L:List (List (List Pt))) (role:Nat->Option (Nat × Nat)) (gR cR:Nat) (gn cn:Nat->Nat) (gr cr:Nat->Nat->Nat) (c:Nat->Nat->Nat->Pt):Prop where
 rb:role b=none
 rR:role gR=none
 rn:∀n,n<L.length->role (gn n)=none
 rr:∀(n:Nat) rs (k:Nat) r,L[n]?=some rs->rs[k]?=some r->role (gr n k)=some (n,k)
 c0:W.cell? (af b 0)=some (ae gR L.length cR)
 lR:L.length<=cR
 names:∀(n:Nat) rs,L[n]?=some rs->W.cell? (af gR n)=some (.slice (some ⟨gn n,0,none⟩) rs.length (cn n))/\rs.length<=cn n
 rules:∀(n:Nat) rs (k:Nat) r,L[n]?=some rs->rs[k]?=some r->W.cell? ⟨gn n,k,none⟩=some (.slice (some ⟨gr n k,0,none⟩) r.length (cr n k))/\r.length<=cr n k
 parts:∀(n:Nat) rs (k:Nat) r (p:Nat) a,L[n]?=some rs->rs[k]?=some r->r[p]?=some a->W.cell? ⟨gr n k,p,none⟩=some (.string (EQ (c n k p)))/\W.frozen? ⟨gr n k,p,none⟩=false
def LF (i k p:Nat) (n' k' p':Nat):Prop:=n'<i\/(n'=i/\(k'<k\/(k'=k/\p'<p)))
structure I0 (n:Nat) (L:List (List (List Pt))) (i k p:Nat) (c:Nat->Nat->Nat->Pt):Prop where
 holds:∀(n':Nat) rs (k':Nat) r (p':Nat) a,L[n']?=some rs->rs[k']?=some r->r[p']?=some a->(LF i k p n' k' p'->c n' k' p'=O3 n a)/\(¬LF i k p n' k' p'->c n' k' p'=a)
theorem I0.same {k i2 k2 p2:Nat} (h:I0 n L i k p c) (hs:∀(n':Nat) rs (k':Nat) r (p':Nat),L[n']?=some rs->rs[k']?=some r->p'<r.length->(LF i k p n' k' p'↔LF i2 k2 p2 n' k' p')):I0 n L i2 k2 p2 c where
 holds:=λn' rs k' r p' a h1 h2 h3=>by
  have h4:=h.holds n' rs k' r p' a h1 h2 h3;have h5:=hs n' rs k' r p' h1 h2 (yS.1 h3).1;exact⟨λhd=>h4.1 (h5.2 hd),λhd=>h4.2 (λhx=>hd (h5.1 hx))⟩
theorem Kh.put {W:World}{gR cR:Nat}{gn cn:Nat->Nat}{gr cr:Nat->Nat->Nat}{c':Nat->Nat->Nat->Pt} (h:Kh W b L role gR cR gn cn gr cr c)
  {i k p:Nat}{rs:List (List Pt)}{r:List Pt}{a:Pt} (h1:L[i]?=some rs) (h2:rs[k]?=some r) (h3:r[p]?=some a) (hc:∀n' k' p',¬(n'=i/\k'=k/\p'=p)->c' n' k' p'=c n' k' p'):
  Kh (W.setCell ⟨gr i k,p,none⟩ (.string (EQ (c' i k p)))) b L role gR cR gn cn gr cr c':=by
 have hr:=h.rr i rs k r h1 h2;have ho:∀g o,role g=none->(W.setCell ⟨gr i k,p,none⟩ (.string (EQ (c' i k p)))).cell? (af g o)=W.cell? (af g o):=λg o hg=>vn _ _ _ _ (λe=>by
  injection e with e _ _
  rw[e,hg]at hr;cases hr)
 refine⟨h.rb,h.rR,h.rn,h.rr,(ho _ _ h.rb).trans h.c0,h.lR,λn rs hn=>⟨(ho _ _ h.rR).trans (h.names n rs hn).1,(h.names n rs hn).2⟩,λn rs k r hn hk=>⟨(ho _ _ (h.rn n (yS.1 hn).1)).trans (h.rules n rs k r hn hk).1,(h.rules n rs k r hn hk).2⟩,λn' rs' k' r' p' a' g1 g2 g3=>?_⟩;have hp:=h.parts n' rs' k' r' p' a' g1 g2 g3;refine⟨?_,by rw[World.frozen?_setCell];exact hp.2⟩
 by_cases e:n'=i/\k'=k/\p'=p
 ·obtain⟨rfl,rfl,rfl⟩:=e
  exact World.cell?_setCell_same _ _ _ hp.1
 ·rw[hc n' k' p' e,<-hp.1]
  refine vn _ _ _ _ (λe2=>e ?_);injection e2 with e3 e4 _
  have hr2:=h.rr n' rs' k' r' g1 g2;rw[<-e3,hr]at hr2;injection hr2 with hr2
  injection hr2 with e5 e6
  exact⟨e5.symm,e6.symm,e4.symm⟩
theorem I0.step {k:Nat}{c':Nat->Nat->Nat->Pt} (h:I0 n L i k p c) {a:Pt} (h1:L[i]?=some rs) (h2:rs[k]?=some r) (h3:r[p]?=some a)
  (hc:∀n' k' p',¬(n'=i/\k'=k/\p'=p)->c' n' k' p'=c n' k' p') (hv:c' i k p=O3 n a):I0 n L i k (p+1) c' where
 holds:=λn' rs' k' r' p' a' g1 g2 g3=>by
  have h4:=h.holds n' rs' k' r' p' a' g1 g2 g3
  by_cases e:n'=i/\k'=k/\p'=p
  ·obtain⟨rfl,rfl,rfl⟩:=e
   rw[h1]at g1;injection g1 with g1
   subst g1;rw[h2]at g2;injection g2 with g2
   subst g2;rw[h3]at g3;injection g3 with g3
   subst g3;exact⟨λ_=>hv,λhd=>absurd (Or.inr ⟨rfl,Or.inr ⟨rfl,Nat.lt_succ_self _⟩⟩) hd⟩
  ·rw[hc n' k' p' e]
   have hiff:LF i k (p+1) n' k' p'↔LF i k p n' k' p':=by
    unfold LF;omega
   exact⟨λhd=>h4.1 (hiff.1 hd),λhd=>h4.2 (λhx=>hd (hiff.2 hx))⟩
theorem Kh.drew {W:World}{gR cR:Nat}{gn cn:Nat->Nat}{gr cr:Nat->Nat->Nat} (h:Kh W b L role gR cR gn cn gr cr c):Kh W.drew b L role gR cR gn cn gr cr c:=
 ⟨h.rb,h.rR,h.rn,h.rr,h.c0,h.lR,h.names,h.rules,h.parts⟩
structure sP (L:List (List (List Pt))):Prop where
 l4:L.length<=4
 r6:∀rs∈L,rs.length<=6
 p5:∀rs∈L,∀r∈rs,r.length<=5
 ok:∀rs∈L,∀r∈rs,∀p∈r,EL 6 4 p
theorem KH {α:Type}{l:List α}{a:α} (h:l[i]?=some a):a∈l:=by
 obtain⟨h1,h2⟩:=yS.1 h;exact h2▸oc h1
def O4 (role:Nat->Option (Nat × Nat)) (w w':World):Prop:=∀g o,role g=none->w'.cell? (af g o)=w.cell? (af g o)
theorem O4.put  (h:O4 role w w') {g0:Nat}{x:Nat × Nat} (hg:role g0=some x) (u:Value):O4 role w (w'.setCell (af g0 p) u):=λg o hr=>
 (vn _ _ _ _ (λe=>by
  injection e with e _ _
  rw[e,hr]at hg;cases hg)).trans (h g o hr)
theorem oS (L:List (List (List Pt))) (hs:sP L) (n:Nat) (w:World) (B b:Nat) (role:Nat->Option (Nat × Nat)) (gR cR:Nat) (gn cn:Nat->Nat) (gr cr:Nat->Nat->Nat) (c:Nat->Nat->Nat->Pt)
  (hS:Kh w b L role gR cR gn cn gr cr c) (hc:I0 n L 0 0 0 c) (hB:∀(n:Nat) rs (k:Nat) r,L[n]?=some rs->rs[k]?=some r->B<=gr n k):
  Calls Tryz.prog 67 #[ac b,ab n] w λe w'=>e=.returned (ac b)/\(∃c,I0 n L L.length 0 0 c/\Kh w' b L role gR cR gn cn gr cr c)/\O4 role w w'/\Below B w w':=by
 have Wh:=hid hs;have Lt:=hid hS;have HC0:=hid hc;have HBg:=hid hB;have hN4:=hs.l4;obtain⟨nN,hn1⟩:=qF (L.length);have H1:Hid (nN=L.length):=hid hn1;rw[<-hn1]at hN4;have Lh:Hid (O4 role w w/\Below B w w):=hid ⟨λ_ _ _=>rfl,ah _ _⟩;clear hs hS hc hB hn1
 go_enter Tryz.func67,Tryz.ntmps67
 go_wp2
 go_loopw [5] (λi wr=>∃(j:Nat) (c:Nat->Nat->Nat->Pt),j<=nN/\i=ab j/\Hid (I0 n L j 0 0 c)/\Hid (Kh wr b L role gR cR gn cn gr cr c)/\Hid (O4 role w wr/\Below B w wr)) (λi _=>nN - (intOf i).toNat)
 case atStart=>exact⟨0,c,bu _,rfl,HC0,Lt,Lh⟩
 case round=>
  clear HC0 Lt Lh;obtain⟨i,c1,hi,rfl,hcut,hsh,Bb⟩:=hrel;obtain⟨W,hW⟩:=qF (wr);subst hW;have c0:=hsh.out.c0;have lR:=hsh.out.lR;rw[<-H1.out]at c0 lR
  by_cases hlt:i<nN
  ·obtain⟨rs,hrs⟩:∃rs,L[i]?=some rs:=⟨_,gE (by rw[<-H1.out];exact hlt)⟩
   have hr6:=Wh.out.r6 rs (KH hrs);have Dt:Hid (L[i]?=some rs):=hid hrs;obtain⟨nR,Ie⟩:=qF (rs.length);have Gl:Hid (nR=rs.length):=hid Ie;rw[<-Ie]at hr6;clear hrs Ie;go_wp2;clear c0 lR
   go_loopw [6] (λi' wr=>∃(j:Nat) (c:Nat->Nat->Nat->Pt),j<=nR/\i'=ab j/\Hid (I0 n L i j 0 c)/\Hid (Kh wr b L role gR cR gn cn gr cr c)/\Hid (O4 role w wr/\Below B w wr)) (λi _=>nR - (intOf i).toNat)
   case atStart=>exact⟨0,c1,bu _,rfl,hcut,hsh,Bb⟩
   case round=>
    clear hcut hsh Bb;obtain⟨k,c2,hk,rfl,hcut,hsh,Bb⟩:=hrel;obtain⟨W,hW⟩:=qF (wr);subst hW;have c0:=hsh.out.c0;have lR:=hsh.out.lR;rw[<-H1.out]at c0 lR;obtain⟨d0,lN⟩:=hsh.out.names i rs Dt.out;rw[<-Gl.out]at d0 lN
    by_cases hlk:k<nR
    ·obtain⟨r,hr⟩:∃r,rs[k]?=some r:=⟨_,gE (by rw[<-Gl.out];exact hlk)⟩
     have HR:Hid (rs[k]?=some r):=hid hr;have hp5:=Wh.out.p5 rs (KH Dt.out) r (KH hr);obtain⟨np,hnp⟩:=qF (r.length);have Wi:Hid (np=r.length):=hid hnp;rw[<-hnp]at hp5;clear hr hnp;go_wp2;clear c0 lR d0 lN
     go_loopw [7] (λi' wr=>∃(j:Nat) (c:Nat->Nat->Nat->Pt),j<=np/\i'=ab j/\Hid (I0 n L i k j c)/\Hid (Kh wr b L role gR cR gn cn gr cr c)/\Hid (O4 role w wr/\Below B w wr)) (λi _=>np - (intOf i).toNat)
     case atStart=>exact⟨0,c2,bu _,rfl,hcut,hsh,Bb⟩
     case round=>
      clear hcut hsh Bb;obtain⟨p,c3,hp,rfl,hcut,hsh,Bb⟩:=hrel;obtain⟨W,hW⟩:=qF (wr);subst hW;have c0:=hsh.out.c0;have lR:=hsh.out.lR;rw[<-H1.out]at c0 lR;obtain⟨d0,lN⟩:=hsh.out.names i rs Dt.out;rw[<-Gl.out]at d0 lN;obtain⟨d1,lU⟩:=hsh.out.rules i rs k r Dt.out HR.out;rw[<-Wi.out]at d1 lU
      by_cases Rm:p<np
      ·obtain⟨a,ha⟩:∃a,r[p]?=some a:=⟨_,gE (by rw[<-Wi.out];exact Rm)⟩
       have HA:Hid (r[p]?=some a):=hid ha;obtain⟨d2,hfz⟩:=hsh.out.parts i rs k r p a Dt.out HR.out ha;have Ci:=Wh.out.ok rs (KH Dt.out) r (KH HR.out) a (KH ha);rw[(hcut.out.holds i rs k r p a Dt.out HR.out ha).2 (by unfold LF;omega)]at d2;have HST:Hid (a=O3 n a->I0 n L i k (p+1) c3):=hid λe=>hcut.out.step Dt.out HR.out HA.out (λ_ _ _ _=>rfl) (by rw[(hcut.out.holds i rs k r p a Dt.out HR.out HA.out).2 (by unfold LF;omega)];exact e)
       clear ha;cases a with
       |tok t=>
        have ht:t<6:=Ci;have d3:W.cell? ⟨gr i k,p,none⟩=some (.string (AA t)):=d2;have q1:=fZ t ht;have q2:=gG t ht;have q3:=fK t ht;have Rn:=hid (HST.out rfl);clear d2 Ci HST;go_wp2
        go_roundw
        case rel=>exact⟨p+1,c3,by omega,by go_num,Rn,hsh,Bb⟩
        case measure=>simp[intOf];omega
       |yB u=>
        have hu:u<4:=Ci;have d3:W.cell? ⟨gr i k,p,none⟩=some (.string (BL u)):=d2;have q1:=fA u hu;have q2:=gC u hu;have q3:=WX u;have q4:=aG u hu;have q5:(u:Int) % 256=u:=by omega
        clear d2 Ci
        by_cases hnu:n<=u
        ·have hni:(n:Int)<=(u:Int):=by omega
         clear HST
         rcases q2 with q2 |q2
         all_goals
          go_wp2;refine AE (λw'=>w'.cell? (af b 0)=some (ae gR nN cR)/\w'.cell? (af gR i)=some (.slice (some ⟨gn i,0,none⟩) nR (cn i))/\w'.cell? ⟨gn i,k,none⟩=some (.slice (some ⟨gr i k,0,none⟩) np (cr i k))/\w'.cell? ⟨gr i k,p,none⟩=some (.string (BL u))/\w'.frozen? ⟨gr i k,p,none⟩=false) yg yg ⟨c0,d0,d1,d3,hfz⟩ (λhH=>?_);simp only[AB,BM,AO];refine tB 0 hH ?_;refine tB 1 hH ?_;refine tB 2 hH ?_;refine tB 3 hH ?_;refine tB 4 hH ?_;refine tB 5 hH ?_;refine tB 6 hH ?_;refine tB 7 hH ?_;refine tB 8 hH ?_;refine tB 9 hH ?_;refine tB 10 hH ?_;refine tL ?_;refine tS 11 λK hK=>?_
          refine tM ?_
          go_simp;refine(I1 0 (by omega) _).mono ?_;rintro e w' ⟨rfl,rfl⟩;try dsimp only
          refine hK.out _ _ ?_ λhH=>?_
          ·exact hH
          clear hK K;refine tB 12 hH ?_;refine tB 13 hH ?_;refine tL ?_;refine bk yg ?_ _;clear hH;show wpList _ _ _ _ _ _;go_wp2
          go_roundw
          case rel=>
           have hc':∀n' k' p',¬(n'=i/\k'=k/\p'=p)->(λn' k' p'=>if n'=i/\k'=k/\p'=p then Pt.tok 0 else c3 n' k' p') n' k' p'=c3 n' k' p':=λn' k' p' h=>au h
           have h1:=hsh.out.put (c':=λn' k' p'=>if n'=i/\k'=k/\p'=p then Pt.tok 0 else c3 n' k' p') Dt.out HR.out HA.out hc';have h2:=hcut.out.step (c':=λn' k' p'=>if n'=i/\k'=k/\p'=p then Pt.tok 0 else c3 n' k' p') Dt.out HR.out HA.out hc' (by
            show(if i=i/\k=k/\p=p then Pt.tok 0 else c3 i k p)=if n<=u then Pt.tok 0 else Pt.yB u
            rw[aq ⟨rfl,rfl,rfl⟩,aq hnu])
           rw[aq (⟨rfl,rfl,rfl⟩:i=i/\k=k/\p=p)]at h1;exact⟨p+1,_,by omega,by go_num,hid h2,hid h1.drew,hid ⟨Bb.out.1.put (hsh.out.rr i rs k r Dt.out HR.out) _,(Bb.out.2.setCell (p:=⟨gr i k,p,none⟩) (HBg.out i rs k r Dt.out HR.out) _).drew⟩⟩
          case measure=>simp[intOf];omega
        ·have hni:¬(n:Int)<=(u:Int):=by omega
         have Rn:=hid (HST.out (by show Pt.yB u=if n<=u then Pt.tok 0 else Pt.yB u;rw[au hnu]));clear HST
         rcases q2 with q2 |q2
         all_goals
          go_wp2
          go_roundw
          case rel=>exact⟨p+1,c3,by omega,by go_num,Rn,hsh,Bb⟩
          case measure=>simp[intOf];omega
      ·have Rn:Hid (I0 n L i (k+1) 0 c3):=hid (hcut.out.same λn' rs' k' r' p' g1 g2 g3=>by
        unfold LF
        by_cases e:n'=i/\k'=k
        ·obtain⟨rfl,rfl⟩:=e
         rw[Dt.out]at g1;injection g1 with g1
         subst g1;rw[HR.out]at g2;injection g2 with g2
         subst g2;rw[<-Wi.out]at g3;omega
        ·omega)
       go_wp2
       go_roundw
       case rel=>exact⟨k+1,c3,by omega,by go_num,Rn,hsh,Bb⟩
       case measure=>simp[intOf];omega
    ·have Rn:Hid (I0 n L (i+1) 0 0 c2):=hid (hcut.out.same λn' rs' k' r' p' g1 g2 g3=>by
      unfold LF
      by_cases e:n'=i
      ·obtain rfl:=e
       rw[Dt.out]at g1;injection g1 with g1
       subst g1;have:=(yS.1 g2).1;rw[<-Gl.out]at this;omega
      ·omega)
     go_wp2
     go_roundw
     case rel=>exact⟨i+1,c2,by omega,by go_num,Rn,hsh,Bb⟩
     case measure=>simp[intOf];omega
  ·have Rn:Hid (I0 n L L.length 0 0 c1):=hid (by rw[<-H1.out,show nN=i by omega];exact hcut.out)
   go_wp2;go_ret;exact⟨rfl,⟨c1,Rn.out,hsh.out⟩,Bb.out.1,Bb.out.2⟩
structure Mk.Pre (m:Mk) (N:Nat):Prop where
 t2:2<=m.yP.length
 t6:m.yP.length<=6
 dl:m.zk.length=m.yP.length
 sl:m.swaps.length=m.yP.length
 Wd:∀r∈m.swaps,r.length=m.yP.length
 p1:∀x∈m.yP,1<=x/\x<=9
 d1:∀x∈m.zk,1<=x/\x<=9
 s1:∀r∈m.swaps,∀x∈r,x<=9
 Wf:∀(i:Nat) r,m.swaps[i]?=some r->r.getD i 0=0
 n1:1<=m.rules.length
 nN:m.rules.length<=N
 n4:N<=4
 c1:∀rs∈m.rules,1<=rs.length/\rs.length<=m.yP.length
 head:∀rs∈m.rules,∀(k:Nat) r,rs[k]?=some r->r.head?=some (.tok k)/\r.length<=5
 part:∀rs∈m.rules,∀r∈rs,∀p∈r,EL m.yP.length N p
 last:∀rs∈m.rules,∀r,rs.getLast?=some r->∀p∈r,∃t,p=.tok t
 reach:∀(n:Nat) rs,m.rules[n]?=some rs->n+1<m.rules.length->∃r,rs[0]?=some r/\ .yB (n+1)∈r
theorem Mk.Pre.good  (h:m.Pre m.rules.length):m.Good:=
 ⟨h.t2,h.t6,h.dl,h.sl,h.Wd,h.p1,h.d1,h.s1,h.Wf,h.n1,h.n4,h.c1,h.head,h.part,h.last,h.reach⟩
def IY (n:Nat) (L:List (List (List Pt))):List (List (List Pt)):=L.map λrs=>rs.map λr=>r.map (O3 n)
def Mk.cut (m:Mk):Mk:={m with rules:=IY m.rules.length m.rules}
theorem uQ  (h:(IY n L)[i]?=some rs):∃qs,L[i]?=some qs/\rs=qs.map λr=>r.map (O3 n):=by
 unfold IY at h;rw[gM]at h;cases hq:L[i]? with
 |none=>rw[hq]at h;cases h
 |some qs=>rw[hq]at h;injection h with h;exact⟨qs,rfl,h.symm⟩
theorem OT  (h:rs∈IY n L):∃qs∈L,rs=qs.map λr=>r.map (O3 n):=by
 unfold IY at h;obtain⟨qs,h1,h2⟩:=cj.1 h;exact⟨qs,h1,h2.symm⟩
theorem Mk.Pre.ahP {N:Nat} (h:m.Pre N):m.cut.Good where
 t2:=h.t2
 t6:=h.t6
 dl:=h.dl
 sl:=h.sl
 Wd:=h.Wd
 p1:=h.p1
 d1:=h.d1
 s1:=h.s1
 Wf:=h.Wf
 n1:=by show 1<=(IY _ _).length;unfold IY;rw[lM];exact h.n1
 n4:=by show(IY _ _).length<=4;unfold IY;rw[lM];exact y5 h.nN h.n4
 c1:=λrs hrs=>by
  obtain⟨qs,hq,rfl⟩:=OT hrs;rw[lM];exact h.c1 qs hq
 head:=λrs hrs k r hr=>by
  obtain⟨qs,hq,rfl⟩:=OT hrs;rw[gM]at hr;cases hqk:qs[k]? with
  |none=>rw[hqk]at hr;cases hr
  |some q=>
   rw[hqk]at hr;injection hr with hr
   subst hr;obtain⟨h1,h2⟩:=h.head qs hq k q hqk;rw[lM,List.head?_map,h1];exact⟨rfl,h2⟩
 part:=λrs hrs r hr p hp=>by
  have hl:m.cut.rules.length=m.rules.length:=by show(IY _ _).length=_;unfold IY;rw[lM]
  rw[hl];obtain⟨qs,hq,rfl⟩:=OT hrs;obtain⟨q,hqr,rfl⟩:=cj.1 hr;obtain⟨a,ha,rfl⟩:=cj.1 hp;have Ci:=h.part qs hq q hqr a ha;have ht:=h.t2;cases a with
  |tok t=>exact Ci
  |yB k=>
   show EL _ _ (if m.rules.length<=k then Pt.tok 0 else Pt.yB k);split
   ·show 0<m.yP.length;omega
   ·show k<m.rules.length;omega
 last:=λrs hrs r hr p hp=>by
  obtain⟨qs,hq,rfl⟩:=OT hrs;rw[List.getLast?_map]at hr;cases Wj:qs.getLast? with
  |none=>rw[Wj]at hr;cases hr
  |some q=>
   rw[Wj]at hr;injection hr with hr
   subst hr;obtain⟨a,ha,rfl⟩:=cj.1 hp;obtain⟨t,rfl⟩:=h.last qs hq q Wj a ha;exact⟨t,rfl⟩
 reach:=λn rs hrs hn=>by
  have hl:m.cut.rules.length=m.rules.length:=by show(IY _ _).length=_;unfold IY;rw[lM]
  rw[hl]at hn;obtain⟨qs,hq,rfl⟩:=uQ hrs;obtain⟨r,hr,hm⟩:=h.reach n qs hq hn;refine⟨r.map (O3 m.rules.length),by rw[gM,hr];rfl,cj.2 ⟨_,hm,?_⟩⟩;show(if m.rules.length<=n+1 then Pt.tok 0 else Pt.yB (n+1))=_;rw[au (by omega)]
def Pj (w:World) (S:List Nat) (t:Nat):Prop:=∀g c,w.heap[g]?=some (.cells c t (0,0))->g∉S
theorem FB {B e sz:Nat}{xs:List Value}{S:List Nat} (h:w.ownsRow B e sz v n xs) (ho:Pj w S e):∀g,v.ownBlock=some g->g∉S:=λg hg=>by
 obtain⟨c,hc⟩:=BI h hg;exact ho g c hc
theorem AJ {B e e' sz:Nat}{xs:List Value} (h:w.ownsRow B e' sz v n xs) (hne:e≠e'):Pj w v.ownBlock.toList e:=λg c hc hm=>by
 obtain⟨c',hc'⟩:=BI h (BE hm);rw[hc]at hc';injection hc' with hc'
 injection hc' with _ he
 exact hne he
theorem GX (w:World) (e:Nat):Pj w [] e:=λg c _ hm=>by cases hm
theorem G5 {a:Nat}{c d:Array Value}{s:Nat}{fr fr':Nat × Nat} (ha:w.heap[a]?=some (.cells c s fr)) (hb:w.heap[b]?=some (.cells d t fr')) (h:s≠t):a≠b:=λe=>by
 subst e;rw[ha]at hb;injection hb with hb
 injection hb with _ hb
 exact h hb
end Go.Proofs.YtjjggdcnpndgjaaGreatDoor
