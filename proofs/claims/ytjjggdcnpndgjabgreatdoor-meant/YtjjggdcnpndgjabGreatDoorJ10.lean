import Derived.Test.YtjjggdcnpndgjabGreatDoorJ9
set_option linter.unusedSimpArgs false
set_option maxHeartbeats 4000000
set_option maxRecDepth 100000
namespace Go.Proofs.YtjjggdcnpndgjabGreatDoor
open Go.RowKit
variable {L:List (List (List Pt))}{b i n n₀ n₁ p t:Nat}{c:Nat->Nat->Nat->Pt}{m:Mk}{r:List Pt}{role:Nat->Option (Nat × Nat)}{rs:List (List Pt)}{v:Value}{w w':World}
def F6:Pt->ByteArray
 | .tok t=>A7 t
 | .nam n=>BO n
theorem j2 (p:Pt):ba (wB p)=F6 p:=by cases p <;> rfl
theorem Mk.Good.rl  (h:m.Good)  (hn:m.rules[n]?=some rs):n<4/\rs∈m.rules:=by
 have h1:=(gS_.1 hn).1;have:=h.n4;exact⟨by omega,mG hn⟩
theorem WK  (h:m.Good)  (hr:rs∈m.rules)  (hr2:r∈rs) {p:Pt} (hp:p∈r):FF 6 4 p:=by
 have h1:=h.part rs hr r hr2 p hp;have h2:=h.t6;have h3:=h.n4;cases p <;> simp only[FF]at h1 ⊢ <;> omega
theorem WD {α:Type}{l:List α}{d x:α} (h:l[i]?=some x):l.getD i d=x:=by rw[gD_,h];rfl
theorem WG {α:Type}{l:List α}{d:α} (h:l[i]?=none):l.getD i d=d:=by rw[gD_,h];rfl
theorem K3  (h:m.Good) (i j:Nat):D0 m i j<=9:=by
 unfold D0;cases hi:m.swaps[i]? with
 |none=>rw[WG hi];simp
 |some r=>
  rw[WD hi];cases hj:r[j]? with
  |none=>rw[WG hj];omega
  |some x=>rw[WD hj];exact h.s1 r (mG hi) x (mG hj)
theorem UC  (h:m.Good) (i:Nat):D0 m i i=0:=by
 unfold D0;cases hi:m.swaps[i]? with
 |none=>rw[WG hi];simp
 |some r=>rw[WD hi];exact h.sdiag i r hi
theorem JN {l:List Nat}{lo hi:Nat} (h:∀x∈l,lo<=x/\x<=hi)  (hi':i<l.length):lo<=l.getD i 0/\l.getD i 0<=hi:=by
 rw[gD_,gE hi'];exact h _ (List.getElem_mem hi')
theorem M2  (h:m.Good) {ws:List (List UInt8)} (hw:ws∈F4 m):
  (∃i,i<m.puts.length/\ws=KD i (m.puts.getD i 0) (m.drops.getD i 0))\/(∃i j,i<m.puts.length/\j<m.puts.length/\i≠j/\0<D0 m i j/\ws=IA i j (D0 m i j))\/(∃(n:Nat) (rs:List (List Pt)),m.rules[n]?=some rs/\ws=DZ n rs):=by
 unfold F4 at hw;rw[List.mem_append]at hw
 rcases hw with hw |hw
 ·rw[List.mem_flatMap]at hw
  obtain⟨i,hi,hw⟩:=hw;have hi:=List.mem_range.1 hi;unfold I5 at hw
  rcases List.mem_cons.1 hw with rfl |hw
  ·exact .inl ⟨i,hi,rfl⟩
  ·rw[List.mem_flatMap]at hw
   obtain⟨j,hj,hw⟩:=hw;have hj:=List.mem_range.1 hj;split at hw
   ·rename_i h0
    refine .inr (.inl ⟨i,j,hi,hj,fun e=>?_,h0,by simpa using hw⟩);subst e;rw[UC h]at h0;omega
   ·cases hw
 ·rw[List.mem_map]at hw
  obtain⟨⟨rs,n⟩,hx,rfl⟩:=hw;exact .inr (.inr ⟨n,rs,List.mem_zipIdx_iff_getElem?.1 hx,rfl⟩)
theorem PB {w:List UInt8}:∀{L:List (List (List UInt8))},w∈G8 L->w=[124]\/∃r∈L,w∈r
 | [],h=>by cases h
 | [r],h=>.inr ⟨r,by simp,h⟩
 |r::q::t,h=>by
  unfold G8 at h;rw[List.mem_append,List.mem_cons]at h
  rcases h with h |h |h
  ·exact .inr ⟨r,by simp,h⟩
  ·exact .inl h
  ·rcases PB (L:=q::t) h with h1 | ⟨x,hx,h1⟩
   ·exact .inl h1
   ·exact .inr ⟨x,by simp[hx],h1⟩
theorem iM  (h:m.Good) {ws:List (List UInt8)} (hw:ws∈F4 m):∀w∈ws,∀b∈w,b≠32/\b≠10:=by
 have ht6:=h.t6;have key:∀w∈ws,w=[116,111,107,101,110]\/w=[115,119,97,112]\/w=[114,117,108,101]\/w=[61]\/w=[124]\/(∃i,i<6/\w=[UInt8.ofNat (97+i)])\/(∃i,i<4/\w=[UInt8.ofNat (65+i)])\/(∃i,i<10/\w=[UInt8.ofNat (48+i)]):=by
  intro w hm
  rcases M2 h hw with⟨i,hi,rfl⟩ | ⟨i,j,hi,hj,_,_,rfl⟩ | ⟨n,rs,hn,rfl⟩
  ·have hp:=JN h.p1 hi
   have hd:=JN h.d1 (i:=i) y77Z;simp only[KD,List.mem_cons,List.not_mem_nil,or_false]at hm
   rcases hm with rfl |rfl |rfl |rfl
   ·exact .inl rfl
   ·exact .inr (.inr (.inr (.inr (.inr (.inl ⟨i,by omega,rfl⟩)))))
   ·exact .inr (.inr (.inr (.inr (.inr (.inr (.inr ⟨_,by omega,rfl⟩))))))
   ·exact .inr (.inr (.inr (.inr (.inr (.inr (.inr ⟨_,by omega,rfl⟩))))))
  ·have hc:=K3 h i j
   simp only[IA,List.mem_cons,List.not_mem_nil,or_false]at hm
   rcases hm with rfl |rfl |rfl |rfl
   ·exact .inr (.inl rfl)
   ·exact .inr (.inr (.inr (.inr (.inr (.inl ⟨i,by omega,rfl⟩)))))
   ·exact .inr (.inr (.inr (.inr (.inr (.inl ⟨j,by omega,rfl⟩)))))
   ·exact .inr (.inr (.inr (.inr (.inr (.inr (.inr ⟨_,by omega,rfl⟩))))))
  ·obtain⟨hn4,hmem⟩:=h.rl hn
   simp only[DZ,List.mem_cons]at hm
   rcases hm with rfl |rfl |rfl |hm
   ·exact .inr (.inr (.inl rfl))
   ·exact .inr (.inr (.inr (.inr (.inr (.inr (.inl ⟨n,hn4,rfl⟩))))))
   ·exact .inr (.inr (.inr (.inl rfl)))
   ·rcases PB hm with rfl | ⟨r,hr,hwr⟩
    ·exact .inr (.inr (.inr (.inr (.inl rfl))))
    ·rw[List.mem_map]at hr
     obtain⟨q,hq,rfl⟩:=hr;rw[List.mem_map]at hwr;obtain⟨p,hp,rfl⟩:=hwr;have:=WK h hmem hq hp;cases p with
     |tok t=>exact .inr (.inr (.inr (.inr (.inr (.inl ⟨t,this,rfl⟩)))))
     |nam k=>exact .inr (.inr (.inr (.inr (.inr (.inr (.inl ⟨k,this,rfl⟩))))))
 intro w hm b hb
 rcases key w hm with rfl |rfl |rfl |rfl |rfl | ⟨i,hi,rfl⟩ | ⟨i,hi,rfl⟩ | ⟨i,hi,rfl⟩
 ·revert b;decide
 ·revert b;decide
 ·revert b;decide
 ·revert b;decide
 ·revert b;decide
 ·obtain rfl:=mS.1 hb
  exact vU i hi
 ·obtain rfl:=mS.1 hb
  exact vB i hi
 ·obtain rfl:=mS.1 hb
  exact wC i hi
theorem YD {b:UInt8}:∀{ws:List (List UInt8)},b∈BQ ws->b=32\/∃w∈ws,b∈w
 | [],h=>by cases h
 | [w],h=>.inr ⟨w,by simp,h⟩
 |w::v::r,h=>by
  unfold BQ at h;rw[List.mem_append,List.mem_cons]at h
  rcases h with h |h |h
  ·exact .inr ⟨w,by simp,h⟩
  ·exact .inl h
  ·rcases YD (ws:=v::r) h with h1 | ⟨x,hx,h1⟩
   ·exact .inl h1
   ·exact .inr ⟨x,by simp[hx],h1⟩
theorem PO  (h:m.Good) {ws:List (List UInt8)} (hw:ws∈F4 m):(∀b∈BQ ws,b≠10)/\AA (ba (BQ ws))=ws.map ba:=by
 have hc:=iM h hw;refine⟨fun b hb=>?_,?_⟩
 ·rcases YD hb with rfl | ⟨w,hm,h1⟩
  ·decide
  ·exact(hc w hm b h1).2
 ·refine j7 ws ?_ (fun w hm b hb=>(hc w hm b hb).1)
  rcases M2 h hw with⟨i,_,rfl⟩ | ⟨i,j,_,_,_,_,rfl⟩ | ⟨n,rs,_,rfl⟩ <;> simp[KD,IA,DZ]
theorem vX:(ba [116,111,107,101,110]).toList=[116,111,107,101,110]:=by decide+kernel
theorem uU:(ba [115,119,97,112]).toList=[115,119,97,112]:=by decide+kernel
theorem vZ:(ba [114,117,108,101]).toList=[114,117,108,101]:=by decide+kernel
theorem wR:(ba [61]).toList=[61]:=by decide+kernel
theorem oI:I0 (ba [124])=true:=by decide+kernel
theorem UE (i p d:Nat):(KD i p d).map ba=[ba [116,111,107,101,110],A7 i,E7 p,E7 d]:=rfl
theorem IG (i j c:Nat):(IA i j c).map ba=[ba [115,119,97,112],A7 i,A7 j,E7 c]:=rfl
theorem OY (n:Nat) (rs:List (List Pt)):(DZ n rs).map ba=ba [114,117,108,101]::BO n::ba [61]::(G8 (rs.map fun r=>r.map wB)).map ba:=rfl
theorem TS {d:Nat} (hi:i<6) (hp:1<=p/\p<=9) (hd:1<=d/\d<=9):AR [ba [116,111,107,101,110],A7 i,E7 p,E7 d]=true/\AV [ba [116,111,107,101,110],A7 i,E7 p,E7 d]=0:=by
 have h0:(nth [ba [116,111,107,101,110],A7 i,E7 p,E7 d] 0).toList=[116,111,107,101,110]:=vX;refine⟨?_,?_⟩
 ·unfold AR
  rw[if_neg (by simp),h0,if_pos (by decide)];unfold D5;show(true&&(DQ (A7 i)&&(DI (E7 p)&&DI (E7 d))))=true;rw[OU i hi,WS p (by omega) hp.1,WS d (by omega) hd.1];rfl
 ·unfold AV
  rw[h0,if_pos (by decide)]
theorem P4 {j c:Nat} (hi:i<6) (hj:j<6) (hc:1<=c/\c<=9):AR [ba [115,119,97,112],A7 i,A7 j,E7 c]=true/\AV [ba [115,119,97,112],A7 i,A7 j,E7 c]=1:=by
 have h0:(nth [ba [115,119,97,112],A7 i,A7 j,E7 c] 0).toList=[115,119,97,112]:=uU;refine⟨?_,?_⟩
 ·unfold AR
  rw[if_neg (by simp),h0,if_neg (by decide),if_pos (by decide)];unfold BS;show(true&&(DQ (A7 i)&&(DQ (A7 j)&&DI (E7 c))))=true;rw[OU i hi,OU j hj,WS c (by omega) hc.1];rfl
 ·unfold AV
  rw[h0,if_neg (by decide),if_pos (by decide)]
theorem PA  (h:m.Good)  (hn:m.rules[n]?=some rs):AR ((DZ n rs).map ba)=true/\AV ((DZ n rs).map ba)=2:=by
 obtain⟨hn4,hmem⟩:=h.rl hn;rw[OY]
 generalize hq:(G8 (rs.map fun r=>r.map wB)).map ba=q
 have h0:(nth (ba [114,117,108,101]::BO n::ba [61]::q) 0).toList=[114,117,108,101]:=vZ;refine⟨?_,?_⟩
 ·unfold AR
  rw[if_neg (by simp),h0,if_neg (by decide),if_neg (by decide),if_pos (by decide)];unfold CY NU;have h2:(nth (ba [114,117,108,101]::BO n::ba [61]::q) 2).toList=[61]:=wR;have h1:nth (ba [114,117,108,101]::BO n::ba [61]::q) 1=BO n:=rfl;rw[h2,h1,TL n hn4,decide_eq_true (by simp)];show((true&&(true&&true))&&q.all NH)=true;simp only[Bool.and_self,Bool.true_and,List.all_eq_true];intro x hx;rw[<-hq,List.mem_map]at hx;obtain⟨w,hw,rfl⟩:=hx;unfold NH
  rcases PB hw with rfl | ⟨r,hr,hwr⟩
  ·rw[oI];rfl
  ·rw[List.mem_map]at hr
   obtain⟨y,hy,rfl⟩:=hr;rw[List.mem_map]at hwr;obtain⟨p,hp,rfl⟩:=hwr;rw[j2];have:=WK h hmem hy hp;cases p with
   |tok t=>show(I0 (A7 t)||(DQ (A7 t)||GO (A7 t)))=true;rw[OU t this];simp
   |nam k=>show(I0 (BO k)||(DQ (BO k)||GO (BO k)))=true;rw[TL k this];simp
 ·unfold AV
  rw[h0,if_neg (by decide),if_neg (by decide)]
theorem gG  (h:m.Good) {ws:List (List UInt8)} (hw:ws∈F4 m):AR (ws.map ba)=true/\¬(ws.map ba).length=1:=by
 have ht6:=h.t6
 rcases M2 h hw with⟨i,hi,rfl⟩ | ⟨i,j,hi,hj,_,h0,rfl⟩ | ⟨n,rs,hn,rfl⟩
 ·rw[UE]
  exact⟨(TS (by omega) (JN h.p1 hi) (JN h.d1 y77Z)).1,by simp⟩
 ·rw[IG]
  exact⟨(P4 (by omega) (by omega) ⟨h0,K3 h i j⟩).1,by simp⟩
 ·exact⟨(PA h hn).1,by rw[OY];simp⟩
theorem XD  (h:m.Good):AG (DA m) 0=((R6 ((F4 m).map BQ) 0).zip ((F4 m).map fun ws=>ws.map ba),(DA m).size):=by
 have h1:=VO (DA m) ((F4 m).map BQ) 0 (by simp[DA,ba]) (Nat.zero_le _) (fun l hl=>by
  obtain⟨ws,hw,rfl⟩:=List.mem_map.1 hl;refine⟨(PO h hw).1,?_⟩;have:=(PO h hw).2;unfold ba at this;rw[this];exact(gG h hw).1)
 rw[h1,List.map_map]
 congr 2
 refine List.map_congr_left fun ws hw=>?_
 exact(PO h hw).2
theorem RC:∀(r:List ByteArray) (d:List (List ByteArray)) (c:List ByteArray),(∀w∈r,I0 w=false)->r.foldl DG (d,c)=(d,c++r)
 | [],d,c,_=>by simp
 |w::r,d,c,h=>by
  rw[List.foldl_cons];have e:DG (d,c) w=(d,c++ [w]):=by unfold DG;rw[if_neg (by rw[h w (by simp)];decide)]
  rw[e,RC r d _ (fun x hx=>h x y31Z)];simp
theorem ZN:∀(L:List (List (List UInt8))) (d:List (List ByteArray)),L≠ []->(∀r∈L,∀w∈r,I0 (ba w)=false)->
  (((G8 L).map ba).foldl DG (d,[])).1++ [(((G8 L).map ba).foldl DG (d,[])).2]=d++L.map fun r=>r.map ba
 | [],d,h,_=>absurd rfl h
 | [r],d,_,h=>by
  show((r.map ba).foldl DG (d,[])).1++ [((r.map ba).foldl DG (d,[])).2]=_;rw[RC (r.map ba) d [] (fun w hw=>by obtain⟨x,hx,rfl⟩:=List.mem_map.1 hw;exact h r (by simp) x hx)];simp
 |r::q::t,d,_,h=>by
  have hr:=RC (r.map ba) d [] (fun w hw=>by obtain⟨x,hx,rfl⟩:=List.mem_map.1 hw;exact h r (by simp) x hx);have e:((G8 (r::q::t)).map ba).foldl DG (d,[])=((G8 (q::t)).map ba).foldl DG (d++ [r.map ba],[]):=by
   show((r++ [124]::G8 (q::t)).map ba).foldl DG _=_;rw[List.map_append,List.map_cons,List.foldl_append,hr,List.foldl_cons]
   congr 1
   unfold DG;rw[if_pos oI];simp
  rw[e,ZN (q::t) _ (by simp) (fun x hx=>h x y31Z)];simp
theorem MG  (h:m.Good)  (hn:m.rules[n]?=some rs):A9 ((DZ n rs).map ba)=rs.map fun r=>r.map F6:=by
 obtain⟨hn4,hmem⟩:=h.rl hn;have hc:=(h.c1 rs hmem).1;unfold A9 pst;rw[OY];have:=ZN (rs.map fun r=>r.map wB) [] (by intro e;have:=congrArg List.length e;simp at this;rw[this]at hc;simp at hc) (fun r hr w hw=>by
  rw[List.mem_map]at hr;obtain⟨y,hy,rfl⟩:=hr;rw[List.mem_map]at hw;obtain⟨p,hp,rfl⟩:=hw;rw[j2];have:=WK h hmem hy hp;cases p with
  |tok t=>exact tV t this
  |nam k=>exact tI k this)
 show(((G8 (rs.map fun r=>r.map wB)).map ba).foldl DG ([],[])).1++ [(((G8 (rs.map fun r=>r.map wB)).map ba).foldl DG ([],[])).2]=_;rw[this,List.nil_append,List.map_map];refine List.map_congr_left fun r _=>?_
 show(r.map wB).map ba=_;rw[List.map_map];exact List.map_congr_left fun p _=>j2 p
def DR (w:World) (B:Nat) (v:Value) (l:List ByteArray):Prop:=w.ownsRow B 9 1 v l.length (EW l)
def J0 (n:Nat) (p:Nat->Bool):Option Nat:=(List.range n).find? fun i=> !p i
theorem Q7 {p:Nat->Bool} (h:∀j,j<n->p j=true):J0 n p=none:=by
 unfold J0;rw[List.find?_eq_none];intro x hx;simp[h x (List.mem_range.1 hx)]
def OE (G:Gr) (N:NG):ByteArray × Int:=
 match J0 N.nN (bAt (BN N true))with
 |some i=>(nth G.names i,6)
 |none=>match J0 N.nN (bAt (IP N))with
  |some i=>(nth G.names i,7)
  |none=>match J0 N.nN (fun i=>decide (lAt (JL N) i<=200))with
   |some i=>(nth G.names i,8)
   |none=>(ByteArray.empty,0)
def ngM (m:Mk):NG where
 nT:=m.puts.length
 nN:=m.rules.length
 put:=fun t=>m.puts.getD t 0
 drop:=fun t=>m.drops.getD t 0
 swp:=D0 m
 rules:=m.rules.zipIdx.flatMap fun x=>x.1.map fun ps=>(x.2,ps)
theorem I9 {r:Nat × List Pt}:r∈(ngM m).rules↔∃rs,m.rules[r.1]?=some rs/\r.2∈rs:=by
 show r∈m.rules.zipIdx.flatMap (fun x=>x.1.map fun ps=>(x.2,ps))↔_;rw[List.mem_flatMap];constructor
 ·rintro⟨⟨rs,n⟩,hx,hr⟩
  obtain⟨ps,hps,rfl⟩:=List.mem_map.1 hr;exact⟨rs,List.mem_zipIdx_iff_getElem?.1 hx,hps⟩
 ·rintro⟨rs,h1,h2⟩
  exact⟨(rs,r.1),List.mem_zipIdx_iff_getElem?.2 h1,List.mem_map.2 ⟨r.2,h2,rfl⟩⟩
theorem GK  (h:m.rules[n]?=some rs):n<m.rules.length/\rs∈m.rules:=by
 obtain⟨h1,h2⟩:=gS_.1 h;exact⟨h1,h2▸List.getElem_mem h1⟩
theorem Mk.Good.beg  (h:m.Good)  (hrs:rs∈m.rules)  (hr:r∈rs):∃k ps,k<rs.length/\r=.tok k::ps/\r.length<=5:=by
 obtain⟨k,hk,rfl⟩:=List.mem_iff_getElem.1 hr;obtain⟨h1,h2⟩:=h.head rs hrs k _ (gE hk)
 revert h1 h2
 generalize rs[k]=q
 intro h1 h2;cases q with
 |nil=>cases h1
 |cons a t=>injection h1 with h1;subst h1;exact⟨k,t,hk,rfl,h2⟩
theorem Mk.Good.put_at  (h:m.Good)  (ht:t<m.puts.length):1<=m.puts.getD t 0/\m.puts.getD t 0<=9:=by
 rw[gD_,gE ht];exact h.p1 _ (List.getElem_mem ht)
theorem Mk.Good.drop_at  (h:m.Good)  (ht:t<m.puts.length):1<=m.drops.getD t 0/\m.drops.getD t 0<=9:=by
 rw[gD_,gE (by rw[h.dl];exact ht)];exact h.d1 _ (List.getElem_mem _)
theorem Mk.Good.swp_le  (h:m.Good) (i j:Nat):D0 m i j<=9:=by
 unfold D0;simp only[gD_];cases hi:m.swaps[i]? with
 |none=>simp
 |some r=>
  simp only[Option.getD_some];cases hj:r[j]? with
  |none=>simp
  |some x=>exact h.s1 r (mG hi) x (mG hj)
theorem IQ  (h:m.Good):(ngM m).Ok where
 pos:=h.n1
 lt:=fun r hr=>by
  obtain⟨rs,h1,_⟩:=I9.1 hr;exact(GK h1).1
 pn:=fun r hr n hn=>by
  obtain⟨rs,h1,h2⟩:=I9.1 hr;exact h.part rs (GK h1).2 r.2 h2 _ hn
 pt:=fun r hr t ht=>by
  obtain⟨rs,h1,h2⟩:=I9.1 hr;exact h.part rs (GK h1).2 r.2 h2 _ ht
 put1:=fun t ht=>(h.put_at ht).1
 put2:=fun t ht=>by have:=(h.put_at ht).2;show m.puts.getD t 0<=99;omega
 drop1:=fun t ht=>(h.drop_at ht).1
 drop2:=fun t ht=>by have:=(h.drop_at ht).2;show m.drops.getD t 0<=99;omega
 swp2:=fun t u=>by have:=h.swp_le t u;show D0 m t u<=99;omega
 parts:=fun r hr=>by
  obtain⟨rs,h1,h2⟩:=I9.1 hr;obtain⟨k,ps,_,_,h3⟩:=h.beg (GK h1).2 h2;omega
theorem Mk.Good.lastR  (h:m.Good)  (hn:n<m.rules.length):∃r,(n,r)∈(ngM m).rules/\(∀p∈r,∃t,p=.tok t)/\r.length<=5:=by
 obtain⟨rs,hrs⟩:∃rs,m.rules[n]?=some rs:=⟨_,gE hn⟩;have hm:=(GK hrs).2;have h1:=h.c1 rs hm;have hne:rs≠ []:=by intro e;subst e;simp at h1
 have hl:rs.getLast?=some (rs.getLast hne):=List.getLast?_eq_some_getLast hne;have hmem:=List.getLast_mem hne;obtain⟨_,_,_,_,h3⟩:=h.beg hm hmem;exact⟨_,I9.2 ⟨rs,hrs,hmem⟩,h.last rs hm _ hl,h3⟩
theorem oZ  (h:m.Good) (n:Nat):bAt (BN (ngM m) false) n=false:=by
 have hl:=(LM (ngM m) (IQ h) false).1;have:=hl.2 (fun _=>false) (fun r hr he=>by
  obtain⟨rs,h1,h2⟩:=I9.1 hr;obtain⟨k,ps,_,e,_⟩:=h.beg (GK h1).2 h2;rw[e]at he;simp[JI]at he) n
 cases hb:bAt (BN (ngM m) false) n with
 |false=>rfl
 |true=>exact absurd (this hb) (by decide)
theorem tN  (h:m.Good)  (hn:n< (ngM m).nN):bAt (BN (ngM m) true) n=true:=by
 have hl:=(LM (ngM m) (IQ h) true).1;obtain⟨r,hr,ht,_⟩:=h.lastR hn;refine hl.1 (n,r) hr ?_;unfold JI;rw[List.all_eq_true];intro p hp;obtain⟨t,rfl⟩:=ht p hp;rfl
theorem o7  (h:m.Good):∀{n:Nat},n< (ngM m).nN->bAt (IP (ngM m)) n=true:=by
 have hl:=(VI (ngM m) (IQ h)).1.1;intro n
 induction n with
 |zero=>intro _;exact hl.1
 |succ n ih=>
  intro hn;have hn':n+1<m.rules.length:=hn;obtain⟨rs,hrs⟩:∃rs,m.rules[n]?=some rs:=⟨_,gE (by omega)⟩;obtain⟨r,hr,hm⟩:=h.reach n rs hrs hn';have hin:r∈rs:=by
   obtain⟨h1,h2⟩:=gS_.1 hr;exact h2▸List.getElem_mem h1
  exact hl.2 (n,r) (I9.2 ⟨rs,hrs,hin⟩) (ih (by show n<m.rules.length;omega)) (n+1) hm
theorem ZK {m:Mk} (h:m.Good) (f:Nat->Nat):∀r:List Pt,(∀p∈r,∃t,p=.tok t)->(∀p∈r,FF m.puts.length m.rules.length p)->DP (ngM m) f r<=r.length*9
 | [],_,_=>lR_ _
 | .tok t::r,h1,h2=>by
  have h3:t<m.puts.length:=h2 (.tok t) (by simp);have h4:=(h.put_at h3).2;have ih:=ZK h f r (fun p hp=>h1 p (by simp[hp])) (fun p hp=>h2 p (by simp[hp]));rw[lC,Nat.succ_mul];show m.puts.getD t 0+DP (ngM m) f r<=_;omega
 | .nam n::r,h1,_=>by
  obtain⟨t,ht⟩:=h1 (.nam n) (by simp);cases ht
theorem eM  (h:m.Good)  (hn:n< (ngM m).nN):lAt (JL (ngM m)) n<=45:=by
 have hl:=(SQ (ngM m) (IQ h)).1;obtain⟨r,hr,ht,h5⟩:=h.lastR hn;have h1:lAt (JL (ngM m)) n<=DP (ngM m) (lAt (JL (ngM m))) r:=hl.2.1 (n,r) hr;obtain⟨rs,h2,h3⟩:=I9.1 hr;have h4:=ZK h (lAt (JL (ngM m))) r ht (h.part rs (GK h2).2 r h3);omega
theorem iD  (h:m.Good) (G:Gr):OE G (ngM m)=(ByteArray.empty,0):=by
 unfold OE;rw[Q7 (fun j hj=>tN h hj),Q7 (fun j hj=>o7 h hj),Q7 (fun j hj=>by
  have:=eM h hj;exact decide_eq_true (by omega))]
theorem oJ  (h:m.Good)  (hn:m.rules[n]?=some rs) (t:Nat):
  bAt (mAt (IU (ngM m) (bAt (BN (ngM m) false))) n) t=decide (t<rs.length):=by
 have hl:=(PU (ngM m) (IQ h) (bAt (BN (ngM m) false))).2 t;show col _ t n=_;rw[Bool.eq_iff_iff,decide_eq_true_eq];constructor
 ·intro hc
  have:=hl.2 (fun i=>decide (t< (m.rules.getD i []).length)) (fun r hr he=>by
   obtain⟨qs,h1,h2⟩:=I9.1 hr;obtain⟨k,ps,hk,e,_⟩:=h.beg (GK h1).2 h2;rw[e]at he;have hkt:(k==t)=true:=he;rw[beq_iff_eq]at hkt;subst hkt;rw[decide_eq_true_eq,gD_,h1];exact hk) n hc
  rw[decide_eq_true_eq,gD_,hn]at this;exact this
 ·intro ht
  have hm:=(GK hn).2;obtain⟨h1,_⟩:=h.head rs hm t _ (gE ht);refine hl.1 (n,rs[t]) (I9.2 ⟨rs,hn,List.getElem_mem ht⟩) ?_
  revert h1
  generalize rs[t]=q
  intro h1;cases q with
  |nil=>cases h1
  |cons a b=>injection h1 with h1;subst h1;simp[DT]
def GC (w:World) (n₀:Nat) (v:Value) (n:Nat) (P:Nat->Value->Prop):Prop:=
 ∃g cap,v=ae g n cap/\n<=cap/\g<n₀/\∀j,j<n->∃x,w.cell? (af g j)=some x/\P j x
theorem GC.below {P Q:Nat->Value->Prop} (h:GC w n₀ v n P) (hb:Below n₀ w w') (hPQ:∀j x,j<n->P j x->Q j x):GC w' n₀ v n Q:=by
 obtain⟨g,cap,h1,h2,h3,h4⟩:=h;refine⟨g,cap,h1,h2,h3,fun j hj=>?_⟩;obtain⟨x,h5,h6⟩:=h4 j hj;exact⟨x,(hb.cell (by exact h3)).trans h5,hPQ j x hj h6⟩
def wT (r:List Pt) (p:Nat) (z:Value):Prop:=∃q,r[p]?=some q/\z=.string (F6 q)
def wM (w:World) (n₀:Nat) (rs:List (List Pt)) (k:Nat) (y:Value):Prop:=∃r,rs[k]?=some r/\GC w n₀ y r.length (wT r)
def P5 (w:World) (n₀:Nat) (m:Mk) (n:Nat) (x:Value):Prop:=∃rs,m.rules[n]?=some rs/\GC w n₀ x rs.length (wM w n₀ rs)
structure MkV (w:World) (n₀ b:Nat) (m:Mk):Prop where
 lt:b<n₀
 rules:∃v,w.cell? (af b 0)=some v/\GC w n₀ v m.rules.length (P5 w n₀ m)
 puts:∃v,w.cell? (af b 1)=some v/\GC w n₀ v m.puts.length fun j x=>x=ab (m.puts.getD j 0:Nat)
 drops:∃v,w.cell? (af b 2)=some v/\GC w n₀ v m.puts.length fun j x=>x=ab (m.drops.getD j 0:Nat)
 swaps:∃v,w.cell? (af b 3)=some v/\GC w n₀ v m.puts.length fun i x=>GC w n₀ x m.puts.length fun j y=>y=ab (D0 m i j:Nat)
theorem P5.below {x:Value} (h:P5 w n₀ m n x) (hb:Below n₀ w w'):P5 w' n₀ m n x:=by
 obtain⟨rs,h1,h2⟩:=h;exact⟨rs,h1,h2.below hb fun k y _ ⟨r,h3,h4⟩=>⟨r,h3,h4.below hb fun _ _ _ h=>h⟩⟩
theorem MkV.below  (h:MkV w n₀ b m) (hb:Below n₀ w w'):MkV w' n₀ b m where
 lt:=h.lt
 rules:=by
  obtain⟨v,h1,h2⟩:=h.rules;exact⟨v,(hb.cell y51Z).trans h1,h2.below hb fun _ _ _ h=>h.below hb⟩
 puts:=by
  obtain⟨v,h1,h2⟩:=h.puts;exact⟨v,(hb.cell y51Z).trans h1,h2.below hb fun _ _ _ h=>h⟩
 drops:=by
  obtain⟨v,h1,h2⟩:=h.drops;exact⟨v,(hb.cell y51Z).trans h1,h2.below hb fun _ _ _ h=>h⟩
 swaps:=by
  obtain⟨v,h1,h2⟩:=h.swaps;exact⟨v,(hb.cell y51Z).trans h1,h2.below hb fun _ _ _ h=>h.below hb fun _ _ _ h=>h⟩
theorem GC.up {P Q:Nat->Value->Prop} (h:GC w n₀ v n P) (hn:n₀<=n₁) (hPQ:∀j x,P j x->Q j x):GC w n₁ v n Q:=by
 obtain⟨g,cap,h1,h2,h3,h4⟩:=h;refine⟨g,cap,h1,h2,lL h3 hn,fun j hj=>?_⟩;obtain⟨x,h5,h6⟩:=h4 j hj;exact⟨x,h5,hPQ j x h6⟩
theorem P5.up {x:Value} (h:P5 w n₀ m n x) (hn:n₀<=n₁):P5 w n₁ m n x:=by
 obtain⟨rs,h1,h2⟩:=h;exact⟨rs,h1,h2.up hn fun k y ⟨r,h3,h4⟩=>⟨r,h3,h4.up hn fun _ _ h=>h⟩⟩
theorem MkV.up  (h:MkV w n₀ b m) (hn:n₀<=n₁):MkV w n₁ b m where
 lt:=lL h.lt hn
 rules:=by
  obtain⟨v,h1,h2⟩:=h.rules;exact⟨v,h1,h2.up hn fun _ _ h=>h.up hn⟩
 puts:=by
  obtain⟨v,h1,h2⟩:=h.puts;exact⟨v,h1,h2.up hn fun _ _ h=>h⟩
 drops:=by
  obtain⟨v,h1,h2⟩:=h.drops;exact⟨v,h1,h2.up hn fun _ _ h=>h⟩
 swaps:=by
  obtain⟨v,h1,h2⟩:=h.swaps;exact⟨v,h1,h2.up hn fun _ _ h=>h.up hn fun _ _ h=>h⟩
theorem sJ:∀u,u<6->Op.bytesLess (A7 u).toList [65]=false:=by decide+kernel
theorem sM:∀u,u<6->Op.bytesLess (A7 u).toList [68]=false:=by decide+kernel
theorem sE:∀u,u<6->((A7 u).toList== [68])=false:=by decide+kernel
theorem sC:∀u,u<4->Op.bytesLess (BO u).toList [65]=false:=by decide+kernel
theorem uA:∀u,u<4->Op.bytesLess (BO u).toList [68]=true\/((BO u).toList== [68])=true:=by decide+kernel
theorem tZ (u:Nat):0< (BO u).size:=by show 0<1;omega
theorem uZ:∀u,u<4->∀h:0< (BO u).size,(((BO u)[0]'h).toNat:Int)=65+u:=by
 intro u hu h;have e:u=0\/u=1\/u=2\/u=3:=by omega
 rcases e with rfl |rfl |rfl |rfl <;> rfl
def O1 (n:Nat):Pt->Pt
 | .tok t=>.tok t
 | .nam k=>if n<=k then .tok 0 else .nam k
structure ShC (W:World) (b:Nat) (L:List (List (List Pt))) (role:Nat->Option (Nat × Nat)) (gR cR:Nat) (gn cn:Nat->Nat) (gr cr:Nat->Nat->Nat) (c:Nat->Nat->Nat->Pt):Prop where
 rb:role b=none
 rR:role gR=none
 rn:∀n,n<L.length->role (gn n)=none
 rr:∀(n:Nat) rs (k:Nat) r,L[n]?=some rs->rs[k]?=some r->role (gr n k)=some (n,k)
 c0:W.cell? (af b 0)=some (ae gR L.length cR)
 lR:L.length<=cR
 names:∀(n:Nat) rs,L[n]?=some rs->W.cell? (af gR n)=some (.slice (some ⟨gn n,0,none⟩) rs.length (cn n))/\rs.length<=cn n
 rules:∀(n:Nat) rs (k:Nat) r,L[n]?=some rs->rs[k]?=some r->W.cell? ⟨gn n,k,none⟩=some (.slice (some ⟨gr n k,0,none⟩) r.length (cr n k))/\r.length<=cr n k
 parts:∀(n:Nat) rs (k:Nat) r (p:Nat) a,L[n]?=some rs->rs[k]?=some r->r[p]?=some a->W.cell? ⟨gr n k,p,none⟩=some (.string (F6 (c n k p)))/\W.frozen? ⟨gr n k,p,none⟩=false
def LD (i k p:Nat) (n' k' p':Nat):Prop:=n'<i\/(n'=i/\(k'<k\/(k'=k/\p'<p)))
structure GW (n:Nat) (L:List (List (List Pt))) (i k p:Nat) (c:Nat->Nat->Nat->Pt):Prop where
 holds:∀(n':Nat) rs (k':Nat) r (p':Nat) a,L[n']?=some rs->rs[k']?=some r->r[p']?=some a->(LD i k p n' k' p'->c n' k' p'=O1 n a)/\(¬LD i k p n' k' p'->c n' k' p'=a)
theorem GW.same {k i2 k2 p2:Nat} (h:GW n L i k p c) (hs:∀(n':Nat) rs (k':Nat) r (p':Nat),L[n']?=some rs->rs[k']?=some r->p'<r.length->(LD i k p n' k' p'↔LD i2 k2 p2 n' k' p')):GW n L i2 k2 p2 c where
 holds:=fun n' rs k' r p' a h1 h2 h3=>by
  have h4:=h.holds n' rs k' r p' a h1 h2 h3;have h5:=hs n' rs k' r p' h1 h2 (gS_.1 h3).1;exact⟨fun hd=>h4.1 (h5.2 hd),fun hd=>h4.2 (fun hx=>hd (h5.1 hx))⟩
theorem ShC.put {W:World}{gR cR:Nat}{gn cn:Nat->Nat}{gr cr:Nat->Nat->Nat}{c':Nat->Nat->Nat->Pt} (h:ShC W b L role gR cR gn cn gr cr c)
  {i k p:Nat}{rs:List (List Pt)}{r:List Pt}{a:Pt} (h1:L[i]?=some rs) (h2:rs[k]?=some r) (h3:r[p]?=some a) (hc:∀n' k' p',¬(n'=i/\k'=k/\p'=p)->c' n' k' p'=c n' k' p'):
  ShC (W.setCell ⟨gr i k,p,none⟩ (.string (F6 (c' i k p)))) b L role gR cR gn cn gr cr c':=by
 have hr:=h.rr i rs k r h1 h2;have ho:∀g o,role g=none->(W.setCell ⟨gr i k,p,none⟩ (.string (F6 (c' i k p)))).cell? (af g o)=W.cell? (af g o):=fun g o hg=>World.cell?_setCell_other _ _ _ _ (fun e=>by
  injection e with e _ _
  rw[e,hg]at hr;cases hr)
 refine⟨h.rb,h.rR,h.rn,h.rr,(ho _ _ h.rb).trans h.c0,h.lR,fun n rs hn=>⟨(ho _ _ h.rR).trans (h.names n rs hn).1,(h.names n rs hn).2⟩,fun n rs k r hn hk=>⟨(ho _ _ (h.rn n (gS_.1 hn).1)).trans (h.rules n rs k r hn hk).1,(h.rules n rs k r hn hk).2⟩,fun n' rs' k' r' p' a' g1 g2 g3=>?_⟩;have hp:=h.parts n' rs' k' r' p' a' g1 g2 g3;refine⟨?_,by rw[World.frozen?_setCell];exact hp.2⟩
 by_cases e:n'=i/\k'=k/\p'=p
 ·obtain⟨rfl,rfl,rfl⟩:=e
  exact World.cell?_setCell_same _ _ _ hp.1
 ·rw[hc n' k' p' e,<-hp.1]
  refine World.cell?_setCell_other _ _ _ _ (fun e2=>e ?_);injection e2 with e3 e4 _
  have hr2:=h.rr n' rs' k' r' g1 g2;rw[<-e3,hr]at hr2;injection hr2 with hr2
  injection hr2 with e5 e6
  exact⟨e5.symm,e6.symm,e4.symm⟩
theorem GW.step {k:Nat}{c':Nat->Nat->Nat->Pt} (h:GW n L i k p c) {a:Pt} (h1:L[i]?=some rs) (h2:rs[k]?=some r) (h3:r[p]?=some a)
  (hc:∀n' k' p',¬(n'=i/\k'=k/\p'=p)->c' n' k' p'=c n' k' p') (hv:c' i k p=O1 n a):GW n L i k (p+1) c' where
 holds:=fun n' rs' k' r' p' a' g1 g2 g3=>by
  have h4:=h.holds n' rs' k' r' p' a' g1 g2 g3
  by_cases e:n'=i/\k'=k/\p'=p
  ·obtain⟨rfl,rfl,rfl⟩:=e
   rw[h1]at g1;injection g1 with g1
   subst g1;rw[h2]at g2;injection g2 with g2
   subst g2;rw[h3]at g3;injection g3 with g3
   subst g3;exact⟨fun _=>hv,fun hd=>absurd (Or.inr ⟨rfl,Or.inr ⟨rfl,Nat.lt_succ_self _⟩⟩) hd⟩
  ·rw[hc n' k' p' e]
   have hiff:LD i k (p+1) n' k' p'↔LD i k p n' k' p':=by
    unfold LD;omega
   exact⟨fun hd=>h4.1 (hiff.1 hd),fun hd=>h4.2 (fun hx=>hd (hiff.2 hx))⟩
theorem ShC.drew {W:World}{gR cR:Nat}{gn cn:Nat->Nat}{gr cr:Nat->Nat->Nat} (h:ShC W b L role gR cR gn cn gr cr c):ShC W.drew b L role gR cR gn cn gr cr c:=
 ⟨h.rb,h.rR,h.rn,h.rr,h.c0,h.lR,h.names,h.rules,h.parts⟩
structure s8 (L:List (List (List Pt))):Prop where
 l4:L.length<=4
 r6:∀rs∈L,rs.length<=6
 p5:∀rs∈L,∀r∈rs,r.length<=5
 ok:∀rs∈L,∀r∈rs,∀p∈r,FF 6 4 p
theorem KB {α:Type}{l:List α}{a:α} (h:l[i]?=some a):a∈l:=by
 obtain⟨h1,h2⟩:=gS_.1 h;exact h2▸List.getElem_mem h1
def NZ (role:Nat->Option (Nat × Nat)) (w w':World):Prop:=∀g o,role g=none->w'.cell? (af g o)=w.cell? (af g o)
theorem NZ.put  (h:NZ role w w') {g0:Nat}{x:Nat × Nat} (hg:role g0=some x) (u:Value):NZ role w (w'.setCell (af g0 p) u):=fun g o hr=>
 (World.cell?_setCell_other _ _ _ _ (fun e=>by
  injection e with e _ _
  rw[e,hr]at hg;cases hg)).trans (h g o hr)
theorem lF (L:List (List (List Pt))) (hs:s8 L) (n:Nat) (w:World) (B b:Nat) (role:Nat->Option (Nat × Nat)) (gR cR:Nat) (gn cn:Nat->Nat) (gr cr:Nat->Nat->Nat) (c:Nat->Nat->Nat->Pt)
  (hS:ShC w b L role gR cR gn cn gr cr c) (hc:GW n L 0 0 0 c) (hB:∀(n:Nat) rs (k:Nat) r,L[n]?=some rs->rs[k]?=some r->B<=gr n k):
  Calls Tryz.prog 15 #[ac b,ab n] w fun e w'=>e=.returned (ac b)/\(∃c,GW n L L.length 0 0 c/\ShC w' b L role gR cR gn cn gr cr c)/\NZ role w w'/\Below B w w':=by
 have HSm:=hid hs;have HS0:=hid hS;have HC0:=hid hc;have HBg:=hid hB;have hN4:=hs.l4;obtain⟨nN,hn1⟩:=qF (L.length);have H1:Hid (nN=L.length):=hid hn1;rw[<-hn1]at hN4;have HR0:Hid (NZ role w w/\Below B w w):=hid ⟨fun _ _ _=>rfl,Below.refl _ _⟩;clear hs hS hc hB hn1
 go_enter Tryz.func15,Tryz.ntmps15
 go_wp2
 go_loopw [5] (fun i wr=>∃(j:Nat) (c:Nat->Nat->Nat->Pt),j<=nN/\i=ab j/\Hid (GW n L j 0 0 c)/\Hid (ShC wr b L role gR cR gn cn gr cr c)/\Hid (NZ role w wr/\Below B w wr)) (fun i _=>nN - (intOf i).toNat)
 case atStart=>exact⟨0,c,Nat.zero_le _,rfl,HC0,HS0,HR0⟩
 case round=>
  clear HC0 HS0 HR0;obtain⟨i,c1,hi,rfl,hcut,hsh,hre⟩:=hrel;obtain⟨W,hW⟩:=qF (wr);subst hW;have c0:=hsh.out.c0;have lR:=hsh.out.lR;rw[<-H1.out]at c0 lR
  by_cases hlt:i<nN
  ·obtain⟨rs,hrs⟩:∃rs,L[i]?=some rs:=⟨_,gE (by rw[<-H1.out];exact hlt)⟩
   have hr6:=HSm.out.r6 rs (KB hrs);have HRS:Hid (L[i]?=some rs):=hid hrs;obtain⟨nR,hnR⟩:=qF (rs.length);have HNR:Hid (nR=rs.length):=hid hnR;rw[<-hnR]at hr6;clear hrs hnR;go_wp2;clear c0 lR
   go_loopw [6] (fun i' wr=>∃(j:Nat) (c:Nat->Nat->Nat->Pt),j<=nR/\i'=ab j/\Hid (GW n L i j 0 c)/\Hid (ShC wr b L role gR cR gn cn gr cr c)/\Hid (NZ role w wr/\Below B w wr)) (fun i _=>nR - (intOf i).toNat)
   case atStart=>exact⟨0,c1,Nat.zero_le _,rfl,hcut,hsh,hre⟩
   case round=>
    clear hcut hsh hre;obtain⟨k,c2,hk,rfl,hcut,hsh,hre⟩:=hrel;obtain⟨W,hW⟩:=qF (wr);subst hW;have c0:=hsh.out.c0;have lR:=hsh.out.lR;rw[<-H1.out]at c0 lR;obtain⟨d0,lN⟩:=hsh.out.names i rs HRS.out;rw[<-HNR.out]at d0 lN
    by_cases hlk:k<nR
    ·obtain⟨r,hr⟩:∃r,rs[k]?=some r:=⟨_,gE (by rw[<-HNR.out];exact hlk)⟩
     have HR:Hid (rs[k]?=some r):=hid hr;have hp5:=HSm.out.p5 rs (KB HRS.out) r (KB hr);obtain⟨np,hnp⟩:=qF (r.length);have HNP:Hid (np=r.length):=hid hnp;rw[<-hnp]at hp5;clear hr hnp;go_wp2;clear c0 lR d0 lN
     go_loopw [7] (fun i' wr=>∃(j:Nat) (c:Nat->Nat->Nat->Pt),j<=np/\i'=ab j/\Hid (GW n L i k j c)/\Hid (ShC wr b L role gR cR gn cn gr cr c)/\Hid (NZ role w wr/\Below B w wr)) (fun i _=>np - (intOf i).toNat)
     case atStart=>exact⟨0,c2,Nat.zero_le _,rfl,hcut,hsh,hre⟩
     case round=>
      clear hcut hsh hre;obtain⟨p,c3,hp,rfl,hcut,hsh,hre⟩:=hrel;obtain⟨W,hW⟩:=qF (wr);subst hW;have c0:=hsh.out.c0;have lR:=hsh.out.lR;rw[<-H1.out]at c0 lR;obtain⟨d0,lN⟩:=hsh.out.names i rs HRS.out;rw[<-HNR.out]at d0 lN;obtain⟨d1,lU⟩:=hsh.out.rules i rs k r HRS.out HR.out;rw[<-HNP.out]at d1 lU
      by_cases hlp:p<np
      ·obtain⟨a,ha⟩:∃a,r[p]?=some a:=⟨_,gE (by rw[<-HNP.out];exact hlp)⟩
       have HA:Hid (r[p]?=some a):=hid ha;obtain⟨d2,hfz⟩:=hsh.out.parts i rs k r p a HRS.out HR.out ha;have hpo:=HSm.out.ok rs (KB HRS.out) r (KB HR.out) a (KB ha);rw[(hcut.out.holds i rs k r p a HRS.out HR.out ha).2 (by unfold LD;omega)]at d2;have HST:Hid (a=O1 n a->GW n L i k (p+1) c3):=hid fun e=>hcut.out.step HRS.out HR.out HA.out (fun _ _ _ _=>rfl) (by rw[(hcut.out.holds i rs k r p a HRS.out HR.out HA.out).2 (by unfold LD;omega)];exact e)
       clear ha;cases a with
       |tok t=>
        have ht:t<6:=hpo;have d3:W.cell? ⟨gr i k,p,none⟩=some (.string (A7 t)):=d2;have q1:=sJ t ht;have q2:=sM t ht;have q3:=sE t ht;have HST2:=hid (HST.out rfl);clear d2 hpo HST;go_wp2
        go_roundw
        case rel=>exact⟨p+1,c3,by omega,by go_num,HST2,hsh,hre⟩
        case measure=>simp[intOf];omega
       |nam u=>
        have hu:u<4:=hpo;have d3:W.cell? ⟨gr i k,p,none⟩=some (.string (BO u)):=d2;have q1:=sC u hu;have q2:=uA u hu;have q3:=tZ u;have q4:=uZ u hu;have q5:(u:Int) % 256=u:=by omega
        clear d2 hpo
        by_cases hnu:n<=u
        ·have hni:(n:Int)<=(u:Int):=by omega
         clear HST
         rcases q2 with q2 |q2
         all_goals
          go_wp2;refine AE (fun w'=>w'.cell? (af b 0)=some (ae gR nN cR)/\w'.cell? (af gR i)=some (.slice (some ⟨gn i,0,none⟩) nR (cn i))/\w'.cell? ⟨gn i,k,none⟩=some (.slice (some ⟨gr i k,0,none⟩) np (cr i k))/\w'.cell? ⟨gr i k,p,none⟩=some (.string (BO u))/\w'.frozen? ⟨gr i k,p,none⟩=false) y1Z y1Z ⟨c0,d0,d1,d3,hfz⟩ (fun hH=>?_);simp only[AC,BM,AO];refine tB 0 hH ?_;refine tB 1 hH ?_;refine tB 2 hH ?_;refine tB 3 hH ?_;refine tB 4 hH ?_;refine tB 5 hH ?_;refine tB 6 hH ?_;refine tB 7 hH ?_;refine tB 8 hH ?_;refine tB 9 hH ?_;refine tB 10 hH ?_;refine tL ?_;refine tS 11 fun K hK=>?_
          refine tM ?_
          go_simp;refine(GD 0 (by omega) _).mono ?_;rintro e w' ⟨rfl,rfl⟩;try dsimp only
          refine hK.out _ _ ?_ fun hH=>?_
          ·exact hH
          clear hK K;refine tB 12 hH ?_;refine tB 13 hH ?_;refine tL ?_;refine wpAnyH_done y1Z ?_ _;clear hH;show wpList _ _ _ _ _ _;go_wp2
          go_roundw
          case rel=>
           have hc':∀n' k' p',¬(n'=i/\k'=k/\p'=p)->(fun n' k' p'=>if n'=i/\k'=k/\p'=p then Pt.tok 0 else c3 n' k' p') n' k' p'=c3 n' k' p':=fun n' k' p' h=>if_neg h
           have h1:=hsh.out.put (c':=fun n' k' p'=>if n'=i/\k'=k/\p'=p then Pt.tok 0 else c3 n' k' p') HRS.out HR.out HA.out hc';have h2:=hcut.out.step (c':=fun n' k' p'=>if n'=i/\k'=k/\p'=p then Pt.tok 0 else c3 n' k' p') HRS.out HR.out HA.out hc' (by
            show(if i=i/\k=k/\p=p then Pt.tok 0 else c3 i k p)=if n<=u then Pt.tok 0 else Pt.nam u
            rw[if_pos ⟨rfl,rfl,rfl⟩,if_pos hnu])
           rw[if_pos (⟨rfl,rfl,rfl⟩:i=i/\k=k/\p=p)]at h1;exact⟨p+1,_,by omega,by go_num,hid h2,hid h1.drew,hid ⟨hre.out.1.put (hsh.out.rr i rs k r HRS.out HR.out) _,(hre.out.2.setCell (p:=⟨gr i k,p,none⟩) (HBg.out i rs k r HRS.out HR.out) _).drew⟩⟩
          case measure=>simp[intOf];omega
        ·have hni:¬(n:Int)<=(u:Int):=by omega
         have HST2:=hid (HST.out (by show Pt.nam u=if n<=u then Pt.tok 0 else Pt.nam u;rw[if_neg hnu]));clear HST
         rcases q2 with q2 |q2
         all_goals
          go_wp2
          go_roundw
          case rel=>exact⟨p+1,c3,by omega,by go_num,HST2,hsh,hre⟩
          case measure=>simp[intOf];omega
      ·have HST2:Hid (GW n L i (k+1) 0 c3):=hid (hcut.out.same fun n' rs' k' r' p' g1 g2 g3=>by
        unfold LD
        by_cases e:n'=i/\k'=k
        ·obtain⟨rfl,rfl⟩:=e
         rw[HRS.out]at g1;injection g1 with g1
         subst g1;rw[HR.out]at g2;injection g2 with g2
         subst g2;rw[<-HNP.out]at g3;omega
        ·omega)
       go_wp2
       go_roundw
       case rel=>exact⟨k+1,c3,by omega,by go_num,HST2,hsh,hre⟩
       case measure=>simp[intOf];omega
    ·have HST2:Hid (GW n L (i+1) 0 0 c2):=hid (hcut.out.same fun n' rs' k' r' p' g1 g2 g3=>by
      unfold LD
      by_cases e:n'=i
      ·obtain rfl:=e
       rw[HRS.out]at g1;injection g1 with g1
       subst g1;have:=(gS_.1 g2).1;rw[<-HNR.out]at this;omega
      ·omega)
     go_wp2
     go_roundw
     case rel=>exact⟨i+1,c2,by omega,by go_num,HST2,hsh,hre⟩
     case measure=>simp[intOf];omega
  ·have HST2:Hid (GW n L L.length 0 0 c1):=hid (by rw[<-H1.out,show nN=i by omega];exact hcut.out)
   go_wp2;go_ret;exact⟨rfl,⟨c1,HST2.out,hsh.out⟩,hre.out.1,hre.out.2⟩
structure Mk.Pre (m:Mk) (N:Nat):Prop where
 t2:2<=m.puts.length
 t6:m.puts.length<=6
 dl:m.drops.length=m.puts.length
 sl:m.swaps.length=m.puts.length
 srow:∀r∈m.swaps,r.length=m.puts.length
 p1:∀x∈m.puts,1<=x/\x<=9
 d1:∀x∈m.drops,1<=x/\x<=9
 s1:∀r∈m.swaps,∀x∈r,x<=9
 sdiag:∀(i:Nat) r,m.swaps[i]?=some r->r.getD i 0=0
 n1:1<=m.rules.length
 nN:m.rules.length<=N
 n4:N<=4
 c1:∀rs∈m.rules,1<=rs.length/\rs.length<=m.puts.length
 head:∀rs∈m.rules,∀(k:Nat) r,rs[k]?=some r->r.head?=some (.tok k)/\r.length<=5
 part:∀rs∈m.rules,∀r∈rs,∀p∈r,FF m.puts.length N p
 last:∀rs∈m.rules,∀r,rs.getLast?=some r->∀p∈r,∃t,p=.tok t
 reach:∀(n:Nat) rs,m.rules[n]?=some rs->n+1<m.rules.length->∃r,rs[0]?=some r/\ .nam (n+1)∈r
theorem Mk.Pre.good  (h:m.Pre m.rules.length):m.Good:=
 ⟨h.t2,h.t6,h.dl,h.sl,h.srow,h.p1,h.d1,h.s1,h.sdiag,h.n1,h.n4,h.c1,h.head,h.part,h.last,h.reach⟩
def IW (n:Nat) (L:List (List (List Pt))):List (List (List Pt)):=L.map fun rs=>rs.map fun r=>r.map (O1 n)
def Mk.cut (m:Mk):Mk:={m with rules:=IW m.rules.length m.rules}
theorem tX  (h:(IW n L)[i]?=some rs):∃qs,L[i]?=some qs/\rs=qs.map fun r=>r.map (O1 n):=by
 unfold IW at h;rw[gM]at h;cases hq:L[i]? with
 |none=>rw[hq]at h;cases h
 |some qs=>rw[hq]at h;injection h with h;exact⟨qs,rfl,h.symm⟩
theorem OX  (h:rs∈IW n L):∃qs∈L,rs=qs.map fun r=>r.map (O1 n):=by
 unfold IW at h;obtain⟨qs,h1,h2⟩:=List.mem_map.1 h;exact⟨qs,h1,h2.symm⟩
theorem Mk.Pre.cut_good {N:Nat} (h:m.Pre N):m.cut.Good where
 t2:=h.t2
 t6:=h.t6
 dl:=h.dl
 sl:=h.sl
 srow:=h.srow
 p1:=h.p1
 d1:=h.d1
 s1:=h.s1
 sdiag:=h.sdiag
 n1:=by show 1<=(IW _ _).length;unfold IW;rw[lM];exact h.n1
 n4:=by show(IW _ _).length<=4;unfold IW;rw[lM];exact lT_ h.nN h.n4
 c1:=fun rs hrs=>by
  obtain⟨qs,hq,rfl⟩:=OX hrs;rw[lM];exact h.c1 qs hq
 head:=fun rs hrs k r hr=>by
  obtain⟨qs,hq,rfl⟩:=OX hrs;rw[gM]at hr;cases hqk:qs[k]? with
  |none=>rw[hqk]at hr;cases hr
  |some q=>
   rw[hqk]at hr;injection hr with hr
   subst hr;obtain⟨h1,h2⟩:=h.head qs hq k q hqk;rw[lM,List.head?_map,h1];exact⟨rfl,h2⟩
 part:=fun rs hrs r hr p hp=>by
  have hl:m.cut.rules.length=m.rules.length:=by show(IW _ _).length=_;unfold IW;rw[lM]
  rw[hl];obtain⟨qs,hq,rfl⟩:=OX hrs;obtain⟨q,hqr,rfl⟩:=List.mem_map.1 hr;obtain⟨a,ha,rfl⟩:=List.mem_map.1 hp;have hpo:=h.part qs hq q hqr a ha;have ht:=h.t2;cases a with
  |tok t=>exact hpo
  |nam k=>
   show FF _ _ (if m.rules.length<=k then Pt.tok 0 else Pt.nam k);split
   ·show 0<m.puts.length;omega
   ·show k<m.rules.length;omega
 last:=fun rs hrs r hr p hp=>by
  obtain⟨qs,hq,rfl⟩:=OX hrs;rw[List.getLast?_map]at hr;cases hql:qs.getLast? with
  |none=>rw[hql]at hr;cases hr
  |some q=>
   rw[hql]at hr;injection hr with hr
   subst hr;obtain⟨a,ha,rfl⟩:=List.mem_map.1 hp;obtain⟨t,rfl⟩:=h.last qs hq q hql a ha;exact⟨t,rfl⟩
 reach:=fun n rs hrs hn=>by
  have hl:m.cut.rules.length=m.rules.length:=by show(IW _ _).length=_;unfold IW;rw[lM]
  rw[hl]at hn;obtain⟨qs,hq,rfl⟩:=tX hrs;obtain⟨r,hr,hm⟩:=h.reach n qs hq hn;refine⟨r.map (O1 m.rules.length),by rw[gM,hr];rfl,List.mem_map.2 ⟨_,hm,?_⟩⟩;show(if m.rules.length<=n+1 then Pt.tok 0 else Pt.nam (n+1))=_;rw[if_neg (by omega)]
def Off (w:World) (S:List Nat) (t:Nat):Prop:=∀g c,w.heap[g]?=some (.cells c t (0,0))->g∉S
theorem F7 {B e sz:Nat}{xs:List Value}{S:List Nat} (h:w.ownsRow B e sz v n xs) (ho:Off w S e):∀g,v.ownBlock=some g->g∉S:=fun g hg=>by
 obtain⟨c,hc⟩:=BJ h hg;exact ho g c hc
theorem AJ {B e e' sz:Nat}{xs:List Value} (h:w.ownsRow B e' sz v n xs) (hne:e≠e'):Off w v.ownBlock.toList e:=fun g c hc hm=>by
 obtain⟨c',hc'⟩:=BJ h (BE hm);rw[hc]at hc';injection hc' with hc'
 injection hc' with _ he
 exact hne he
theorem GU (w:World) (e:Nat):Off w [] e:=fun g c _ hm=>by cases hm
theorem FY {a:Nat}{c d:Array Value}{s:Nat}{fr fr':Nat × Nat} (ha:w.heap[a]?=some (.cells c s fr)) (hb:w.heap[b]?=some (.cells d t fr')) (h:s≠t):a≠b:=fun e=>by
 subst e;rw[ha]at hb;injection hb with hb
 injection hb with _ hb
 exact h hb
end Go.Proofs.YtjjggdcnpndgjabGreatDoor
