import Derived.Test.YtjjggdcnpndgjaaGreatDoorHJ22
import Derived.Scope
set_option linter.unusedSimpArgs false
set_option maxHeartbeats 4000000
set_option maxRecDepth 100000
namespace Go.Proofs.YtjjggdcnpndgjaaGreatDoor
abbrev xe:=@Go.wpIn_wide
open Go.RowKit Go.Shelf
variable {b f n:Nat}{v0 v1 v2 v3 v4:Value}{w:World}
attribute [local go_sem] Oper.semAt_some
theorem KD {F:Fence}{P:Program}{c:Code}{K:Act->World->Prop}{Q:Exit->Act->World->Prop}{a:Act} (h:c.wpIn F n P (EX K) a w):c.wpIn F n P (Exit.then K Q) a w:=
 wpIn_mono h (λe a w hq=>by cases e <;> first |exact hq |exact hq.elim)
theorem A1.trans' {a b c:World}{S T:List Nat} (h:A1 a b S) (k:A1 b c T) (hT:∀q∈T,q∈S\/a.heap.size<=q):A1 a c S:=
 ⟨k.os.trans h.os,k.tape.trans h.tape,k.output.trans h.output,y5 h.size k.size,λi hi hn=>(k.block i (lL hi h.size) (λhm=>by rcases hT i hm with h1 |h1;exact hn h1;omega)).trans (h.block i hi hn)⟩
def J1 (w:World) (b f:Nat) (v0 v1 v2 v3 v4:Value):Prop:=w.heap[b]?=some (.cells #[v0,v1,v2,v3] 27 (0,0))/\w.heap[f]?=some (.cells #[v4] 4 (0,0))
theorem J1.same  (h:J1 w b f v0 v1 v2 v3 v4):
  J1 ((((w.setCell (af b 0) v0).setCell (af b 1) v1).setCell (af b 2) v2).setCell (af b 3) v3) b f v0 v1 v2 v3 v4/\J1 (w.setCell (af f 0) v4) b f v0 v1 v2 v3 v4:=by
 have hne:f≠b:=G5 h.2 h.1 (by decide);refine⟨⟨?_,?_⟩,⟨?_,?_⟩⟩
 ·exact A6 (j:=3) (A6 (j:=2) (A6 (j:=1) (A6 (j:=0) h.1 v0) v1) v2) v3
 ·rw[iy _ _ _ _ hne,iy _ _ _ _ hne,iy _ _ _ _ hne,iy _ _ _ _ hne];exact h.2
 ·rw[iy _ _ _ _ (λe=>hne e.symm)];exact h.1
 ·exact A6 (j:=0) h.2 v4
theorem qH  (h:J1 w b f v0 v1 v2 v3 v4) (u0 u1 u2 u3 u4:Value):
  J1 (((((w.setCell (af b 0) u0).setCell (af b 1) u1).setCell (af b 2) u2).setCell (af b 3) u3).setCell (af f 0) u4) b f u0 u1 u2 u3 u4:=by
 have hne:f≠b:=G5 h.2 h.1 (by decide);constructor
 ·rw[iy _ _ _ _ (λe=>hne e.symm)]
  exact A6 (j:=3) (A6 (j:=2) (A6 (j:=1) (A6 (j:=0) h.1 u0) u1) u2) u3
 ·have h2:((((w.setCell (af b 0) u0).setCell (af b 1) u1).setCell (af b 2) u2).setCell (af b 3) u3).heap[f]?=some (.cells #[v4] 4 (0,0)):=by
   rw[iy _ _ _ _ hne,iy _ _ _ _ hne,iy _ _ _ _ hne,iy _ _ _ _ hne];exact h.2
  exact A6 (j:=0) h2 u4
theorem NM {W:World}{S:List Nat} (h:J1 w b f v0 v1 v2 v3 v4) (hk:A1 W w S):
  Hid (J1 w b f v0 v1 v2 v3 v4/\A1 W w S)/\(w.cell? (af b 0)=some v0/\w.cell? (af b 1)=some v1/\w.cell? (af b 2)=some v2/\w.cell? (af b 3)=some v3/\w.cell? (af f 0)=some v4):=
 ⟨hid ⟨h,hk⟩,A0 h.1,A0 h.1,A0 h.1,A0 h.1,A0 h.2⟩
theorem wQ {n₀:Nat}{N:NG}{yL:List ByteArray}{pg:List Nm}{yu:Option Addr}{yl gN xY:Nat} (h:Ba w n₀ N yL pg yu yl gN xY) {nm:Nm} (hn:pg[n]?=some nm):nm.2.length<=60:=by
 obtain⟨rest,hr⟩:=L7 pg hn nm.2.length;have h1:=congrArg List.length hr;rw[<-h.rules,mj]at h1;have h2:=h.Lr;simp only[lA,lM]at h1;omega
theorem FA {K:Act->World->Prop}{Q:Exit->Act->World->Prop}{a:Act} (h:Exit.then K Q .normal a w):EX K .normal a w:=h
theorem QA {P:Program}{fn:Func}{p q:Tmp}{ty ty2:TypeId} (h:fn.results= #[.cell p ty,.cell q ty2]) (tmps:Array Value) (w:World) (g g2:Nat) (t':TypeId) (cs:Array Value) (fr:Nat × Nat) (d:TypeDesc) (v:Value)
  (hp:tmps.getD p undef=ac g) (hg:w.heap[g]?=some (.cells cs t' fr)) (hu:P.underlying ty=some d) (hd:(match d with | .struct _ | .array _ _=>true |_=>false)=true) (hi:(P.info? ty).map (·.size)=some cs.size)
  (hq:tmps.getD q undef=ac g2) (h2:(loadVar ty2 (af g2 0)).run P w=.ok v w):
  (results fn tmps).run P w=.ok (.tuple #[.agg cs,v]) w:=by
 have hp':tmps[p]?.getD undef=ac g:=by simpa using hp
 have Bj:tmps[q]?.getD undef=ac g2:=by simpa using hq
 simp[results,h,hp',Bj,asAddr,xK w g t' ty cs fr d hg hu hd hi,h2,Result.andThen]
def RX (A B:Array Value) (i:Nat):Value:=if i<40 then A.getD i undef else B.getD (i - 40) undef
def F5 (k:List Fa) (pg:List Nm) (n r:Nat):Nat:=DU k ((pg.getD n (ByteArray.empty,[])).2.getD r []) (B1 k n)
theorem RP (k:List Fa) {pg:List Nm}{r:Nat}{nm:Nm}{ps:List Pt} (hn:pg[n]?=some nm) (hr:nm.2[r]?=some ps):F5 k pg n r=DU k ps (B1 k n):=by
 unfold F5;rw[zh,zh,hn];simp only[jm];rw[hr];rfl
theorem afR {P:Prop} (h:P:=by
  rintro w' D' ⟨h1,h2,h3⟩ Eu hd';have hg':=qa w' D' (.deferred none);have hk':A1 w' (w'.putObj D' (.deferred none)) [D']:=(A1.refl w' [D']).grown hg' (λq e=>.inl (by cases e;simp));have hno:∀(q:Nat) (cs:Array Value) (e:Nat) (f:Nat × Nat),w'.heap[q]?=some (.cells cs e f)->q∉ [D']:=λq cs e f hq hm=>by have:=mS.1 hm;subst this;rw[hd']at hq;cases hq
  exact⟨h1.grown hg' (λq e=>by cases e;exact .inr Eu),h2.keeps hk' (λhm=>by obtain⟨cs,e,f,hx⟩:=h2.kind;exact hno _ _ _ _ hx hm),(hk'.block _ (ak h3.1) (hno _ _ _ _ h3.1)).trans h3.1,(hk'.block _ (ak h3.2) (hno _ _ _ _ h3.2)).trans h3.2⟩):P:=h
theorem pY (w:World) (n₀ tb kb:Nat) (N:NG) (yL:List ByteArray) (pg:List Nm) (yu:Option Addr) (yl gN xY:Nat) (k:List Fa) (R0:Nat->Nat->Int) (E:Nat->Nat) (h:zK w n₀ tb kb N yL pg yu yl gN xY k) (hv:zH w tb yu N.nT yl gN N.nN xY kb R0 E) (Bi:∀n,AL k n<2 ^21) (hfo:∀n,B1 k n<2 ^21)
  (hT:TabAt 1 Lib.deBruijn32tab w) (h0:1<n₀) (htb:n₀<=tb)
  (hlen:∀(n:Nat) (nm:Nm) (r:Nat) (ps:List Pt),pg[n]?=some nm->nm.2[r]?=some ps->ps.length<=8/\B3 N ps)
  (ab9:∀(n:Nat) (nm:Nm) (r:Nat),pg[n]?=some nm->r<nm.2.length->∀t∈BA (F5 k pg n r),t<=N.nT):
  Calls Tryz.prog 81 #[ac tb] w λe w'=>∃R,zH w' tb yu N.nT yl gN N.nN xY kb R E/\A1 w w' [tb]/\
   ((∃(n q r t:Nat) (nm:Nm),e=.returned (.tuple #[.agg #[.string nm.1,ab q,ab r,.string (CV yL N.nT t)],.bool true])/\pg[n]?=some nm/\q<r/\r<nm.2.length/\t<=N.nT/\(F5 k pg n q).testBit t=true/\(F5 k pg n r).testBit t=true/\
     ∀m,m<n->∀nm':Nm,pg[m]?=some nm'->∀t,t<21->IZ (F5 k pg m) nm'.2.length (R m) t)\/
    (e=.returned (.tuple #[.agg #[.string ByteArray.empty,ab 0,ab 0,.string ByteArray.empty],.bool false])/\∀(m:Nat) (nm':Nm),pg[m]?=some nm'->∀t,t<21->IZ (F5 k pg m) nm'.2.length (R m) t)):=by
 have H:=hid h;have HV0:=hid hv;have HT:=hid hT;have HL:=hid hlen;have Rj:=hid ab9;have HF:Hid ((∀n,AL k n<2 ^21)/\∀n,B1 k n<2 ^21):=hid ⟨Bi,hfo⟩;have aa3:=h.gr.Bt;have Pm:=h.gr.lN;have Nh:=hv.lt;have f1:=h.f1;have hnk:tb≠kb:=h.ne;clear h hv hT hlen ab9 Bi hfo;obtain⟨nN,yY⟩:=qF (N.nN);rw[<-yY]at f1 HV0 aa3 Pm ⊢;have Ec:Hid (nN=N.nN):=hid yY;clear yY;refine(mq (n:=4)).1 ?_;refine qg Tryz.func81 rfl trivial ?_ rfl;simp only[Tryz.ntmps81,iz,lC,iw,Nat.reduceAdd,Nat.reduceSub,jg,jh,ju,jo,eu,ig]
 gi_wp2
 refine xe.2 (wp_scope_straight ((xe (n:=4)).1 ?_))
 gi_wp2
 refine wpIn_label ?_;have hs0:w.heap.size+1+1=w.heap.size+2:=rfl;rw[hs0];obtain⟨W1,hW1⟩:=qE (((w.alloc (.cells #[ac tb] 107)).alloc (.cells #[.string ⟨#[]⟩,ab 0,ab 0,.string ⟨#[]⟩] 27)).alloc (.cells #[.bool false] 4));rw[hW1];have Aa:Hid (A1 w W1 []):=hid (by rw[<-hW1];exact(((A1.refl w []).alloc _).alloc _).alloc _);have hb0:W1.heap[w.heap.size]?=some (.cells #[ac tb] 107 (0,0)):=by
  rw[<-hW1];exact(dm _ _ _ yM).trans ((dm _ _ _ (by simp)).trans (ay w _))
 have hb1:W1.heap[w.heap.size+1]?=some (.cells #[.string ⟨#[]⟩,ab 0,ab 0,.string ⟨#[]⟩] 27 (0,0)):=by
  rw[<-hW1];refine(dm _ _ _ (by simp)).trans ?_;have h1:=ay (w.alloc (.cells #[ac tb] 107)) (.cells #[.string ⟨#[]⟩,ab 0,ab 0,.string ⟨#[]⟩] 27)
  rwa [bg]at h1
 have hb2:W1.heap[w.heap.size+2]?=some (.cells #[.bool false] 4 (0,0)):=by
  rw[<-hW1];have h1:=ay ((w.alloc (.cells #[ac tb] 107)).alloc (.cells #[.string ⟨#[]⟩,ab 0,ab 0,.string ⟨#[]⟩] 27)) (.cells #[.bool false] 4)
  rwa [bg,bg]at h1
 have c0:W1.cell? (af w.heap.size 0)=some (ac tb):=A0 hb0;have c1:W1.cell? (af tb 1)=some (ae gN nN xY):=(Aa.out.cell (by exact Nh) (by simp)).trans f1;have HB:Hid (W1.heap[w.heap.size]?=some (.cells #[ac tb] 107 (0,0))/\W1.heap[w.heap.size+1]?=some (.cells #[.string ⟨#[]⟩,ab 0,ab 0,.string ⟨#[]⟩] 27 (0,0))/\W1.heap[w.heap.size+2]?=some (.cells #[.bool false] 4 (0,0))):=hid ⟨hb0,hb1,hb2⟩;clear hb0 hb1 hb2 hW1 hs0 f1
 gi_wp2
 refine yq (λg a W=>∃(u:Nat->Value) (Ds:List Nat) (n:Nat) (R:Nat->Nat->Int),
   a= {tmps:= #[ac tb,ac w.heap.size,ac (w.heap.size+1),ac (w.heap.size+2),u 4,u 5,u 6,u 7,u 8,u 9,u 10,u 11,u 12,u 13,u 14,ae gN nN xY,ab nN,ab n,u 18,u 19,u 20,u 21,u 22,u 23,u 24,u 25,u 26,u 27,u 28,u 29,u 30,u 31,u 32,u 33,u 34,u 35,u 36,u 37,u 38,u 39,u 40,u 41,u 42,u 43,u 44,u 45,u 46,u 47,u 48,u 49,u 50,u 51,u 52,u 53,u 54,u 55,u 56,u 57,u 58,u 59,u 60,u 61,u 62,u 63,u 64,u 65,u 66,u 67,u 68,u 69,u 70,u 71,u 72,u 73,u 74,u 75,u 76,u 77,u 78,u 79],defers:=V9 Ds}/\
   g=nN - n/\n<=nN/\zH W tb yu N.nT yl gN nN xY kb R E/\A1 w W [tb]/\W.heap[w.heap.size]?=some (.cells #[ac tb] 107 (0,0))/\W.heap[w.heap.size+1]?=some (.cells #[.string ⟨#[]⟩,ab 0,ab 0,.string ⟨#[]⟩] 27 (0,0))/\W.heap[w.heap.size+2]?=some (.cells #[.bool false] 4 (0,0))/\DX w Ds W/\
   ∀m,m<n->∀nm':Nm,pg[m]?=some nm'->∀t,t<21->IZ (F5 k pg m) nm'.2.length (R m) t) nN ?start ?round
 case start=>
  refine⟨RX #[undef,undef,undef,undef,_,_,_,_,_,_,_,_,_,_,_,undef,undef,undef,_,_,_,_,_,_,_,_,_,_,_,_,_,_,_,_,_,_,_,_,_,_] #[_,_,_,_,_,_,_,_,_,_,_,_,_,_,_,_,_,_,_,_,_,_,_,_,_,_,_,_,_,_,_,_,_,_,_,_,_,_,_,_],[],0,R0,rfl,rfl,bu _,?_,?_,?_,?_,?_,⟨List.nodup_nil,λD hD=>by cases hD⟩,λm hm=>by omega⟩
  ·exact HV0.out.keeps Aa.out (by simp)
  ·exact Aa.out.mono (λq hq=>by cases hq)
  ·exact HB.out.1
  ·exact HB.out.2.1
  ·exact HB.out.2.2
 case round=>
  rintro g a W ⟨u,Ds,n,R,rfl,rfl,hn,Qa,hW,bx0,bx1,Xc,hM,hdone⟩
  by_cases hlt:n<nN
  ·have hnP:n<N.nN:=by rw[<-Ec.out];exact hlt
   obtain⟨nm,hnm⟩:∃nm,pg[n]?=some nm:=⟨_,gE (by rw[H.out.gr.Rg];exact hnP)⟩;have X:Hid (zK W n₀ tb kb N yL pg yu yl gN xY k):=hid (H.out.tab (S:=[tb]) (λq hq=>by have:=mS.1 hq;exact⟨by omega,by omega⟩) hW (R:=R) (E:=E) (by rw[<-Ec.out];exact Qa));obtain⟨m0,v,m1,gR,Nw,rfl,Mh,Eb,hrl⟩:=X.out.gr.names n nm hnm;have hgN:=X.out.gr.hgN;have Xd:=hid Qa;have HW:Hid (A1 w W [tb]):=hid hW;have HM:Hid (DX w Ds W):=hid hM;have Nx:=hid (And.intro bx0 (And.intro bx1 Xc));have HD:=hid hdone;have Mf:=hid hrl;have Ks:Hid (pg[n]?=some nm):=hid hnm;have c0:W.cell? (af w.heap.size 0)=some (ac tb):=A0 bx0;have hsz:=ak Xc;have hl0:w.heap.size<W.heap.size:=by omega
   have Ty:w.heap.size+1<W.heap.size:=by omega
   have htW:tb<W.heap.size:=by omega
   obtain⟨nL,Jl⟩:=qF (nm.2.length);rw[<-Jl]at m1 Eb;have HNL:Hid (nL=nm.2.length):=hid Jl;have ak6:gR<W.heap.size:=by have:=X.out.ln;omega
   have ak7:gN<W.heap.size:=by have:=X.out.ln;omega
   have zU:n<20:=by omega
   have ak8:nL<=60:=by rw[Jl];exact wQ H.out.gr hnm
   clear Qa hW hM bx0 bx1 Xc hdone hrl hnm Jl HB Aa c1 hnP
   gi_wp2
   have hs1:W.heap.size+1=W.heap.size+1:=rfl;obtain⟨W2,hW2⟩:=qE ((W.alloc (.cells #[.string nm.1,ae gR nL Nw] 219)).alloc (.cells #[.pointer (some (af tb (3+n*21)))] 243));rw[hW2];have Fc:Hid (A1 W W2 []):=hid (by rw[<-hW2];exact((A1.refl W []).alloc _).alloc _);have yT:W2.heap[W.heap.size]?=some (.cells #[.string nm.1,ae gR nL Nw] 219 (0,0)):=by
    rw[<-hW2];exact(dm _ _ _ (by simp)).trans (ay W _)
   have yZ:W2.heap[W.heap.size+1]?=some (.cells #[.pointer (some (af tb (3+n*21)))] 243 (0,0)):=by
    rw[<-hW2];have h1:=ay (W.alloc (.cells #[.string nm.1,ae gR nL Nw] 219)) (.cells #[.pointer (some (af tb (3+n*21)))] 243)
    rwa [bg]at h1
   have aag:=ak yZ;have aa4:=hid (And.intro yT yZ);have Er:Hid (zH W2 tb yu N.nT yl gN nN xY kb R E):=hid (Xd.out.keeps Fc.out (by simp));clear hW2 yT yZ c0 m0 m1
   gi_loopg [27] (21) (λg i wr=>∃(t:Nat) (R1:Nat->Nat->Int),t+g=21/\i=ab t/\Hid (zH wr tb yu N.nT yl gN nN xY kb R1 E)/\Hid (A1 W2 wr [tb])/\Hid ((∀u,u<t->R1 n u= -1)/\∀m,m≠n->R1 m=R m))
   case atStart=>exact⟨0,R,by omega,rfl,Er,A1.refl _ _,hid ⟨λu hu=>by omega,λm hm=>rfl⟩⟩
   case round=>
    obtain⟨t,R1,htg,rfl,HV,Qb,Ck⟩:=hrel;have Tt:=Qb.out.size;have c6:wr.cell? (af (W.heap.size+1) 0)=some (.pointer (some (af tb (3+n*21)))):=A0 ((Qb.out.block _ aag yM).trans aa4.out.2)
    by_cases Bv:t<21
    ·have cR:=HV.out.row zU Bv
     have fR:=HV.out.free (3+n*21+t);have Ej:=hid (HV.out.put zU Bv (-1));have HK3:=hid (Qb.out.setCell (p:=(af tb (3+n*21+t))) (by simp) (ab (-1)))
     gi_wp2
     gi_roundg (20 - t)
     case measure=>omega
     case rel=>
      refine⟨t+1,_,by omega,by go_num,Ej,HK3,hid ⟨λu hu=>?_,λm hm=>?_⟩⟩
      ·unfold VU
       by_cases e:u=t
       ·simp[e]
       ·simp only[aq,au e]
        exact Ck.out.1 u (by omega)
      ·unfold VU
       simp only[au hm];exact Ck.out.2 m hm
    ·have ady:t=21:=by omega
     subst ady;have c5:wr.cell? (af W.heap.size 1)=some (ae gR nL Nw):=A0 ((Qb.out.block _ (by omega) yM).trans aa4.out.1);have Da:Hid (∀u,u<21->IZ (F5 k pg n) 0 (R1 n) u):=hid λu hu=>sG (Ck.out.1 u hu)
     gi_wp2
     have HVr:=hid HV.out;have Lx:Hid (A1 W wr [tb]):=hid ((Fc.out.mono (λq hq=>by cases hq)).trans Qb.out);have Lf:Hid (∀m,m≠n->R1 m=R m):=hid Ck.out.2;have HMr:Hid (DX w Ds wr):=hid (HM.out.keeps Lx.out (λq hq=>by have:=mS.1 hq;subst this;exact Xd.out.kind));have afS:=hid (And.intro ((Qb.out.block _ (by omega) yM).trans aa4.out.1) ((Qb.out.block _ aag yM).trans aa4.out.2));have Tq:W.heap.size+1<wr.heap.size:=by omega
     clear c5 c6 HV Qb Ck Er Fc aa4 Tt htg;refine yq (λg a V=>∃(u:Nat->Value) (Ds:List Nat) (r:Nat) (R2:Nat->Nat->Int),
       a= {tmps:= #[ac tb,ac w.heap.size,ac (w.heap.size+1),ac (w.heap.size+2),ab n,ac W.heap.size,ac (W.heap.size+1),u 7,u 8,u 9,u 10,u 11,u 12,u 13,u 14,ae gN nN xY,ab nN,ab n,u 18,u 19,u 20,u 21,u 22,u 23,u 24,u 25,u 26,u 27,u 28,u 29,u 30,u 31,u 32,u 33,u 34,u 35,ae gR nL Nw,ab nL,ab r,u 39,u 40,u 41,u 42,u 43,u 44,u 45,u 46,u 47,u 48,u 49,u 50,u 51,u 52,u 53,u 54,u 55,u 56,u 57,u 58,u 59,u 60,u 61,u 62,u 63,u 64,u 65,u 66,u 67,u 68,u 69,u 70,u 71,u 72,u 73,u 74,u 75,u 76,u 77,u 78,u 79],defers:=V9 Ds}/\
       g=nL - r/\r<=nL/\zH V tb yu N.nT yl gN nN xY kb R2 E/\A1 wr V [tb]/\DX w Ds V/\(∀t,t<21->IZ (F5 k pg n) r (R2 n) t)/\∀m,m≠n->R2 m=R m) nL ?ais ?ait
     case ais=>
      exact⟨RX #[undef,undef,undef,undef,undef,undef,undef,_,_,_,_,_,_,_,_,undef,undef,undef,_,_,_,_,_,_,_,_,_,_,_,_,_,_,_,_,_,_,undef,undef,undef,_] #[_,_,_,_,_,_,_,_,_,_,_,_,_,_,_,_,_,_,_,_,_,_,_,_,_,_,_,_,_,_,_,_,_,_,_,_,_,_,_,_],Ds,0,R1,rfl,rfl,bu _,HVr.out,A1.refl _ _,HMr.out,Da.out,Lf.out⟩
     case ait=>
      rintro g a V ⟨u,Ds,r,R2,rfl,rfl,hr,hvV,hVk,hM,hrow,afT⟩;have HVV:=hid hvV;have HVk:Hid (A1 wr V [tb]):=hid hVk;have Lo:=hid hM;have afU:=hid hrow;have afV:=hid afT;have aiu:=hVk.size;clear hvV hVk hM hrow afT HMr HM
      by_cases acd:r<nL
      ·obtain⟨ps,hps⟩:∃ps,nm.2[r]?=some ps:=⟨_,gE (by rw[<-HNL.out];exact acd)⟩
       have adz:A1 w V [tb]:=HW.out.trans (Lx.out.trans HVk.out);have adA:w.heap.size<V.heap.size:=by omega
       have XV:Hid (zK V n₀ tb kb N yL pg yu yl gN xY k):=hid (H.out.tab (S:=[tb]) (λq hq=>by have:=mS.1 hq;exact⟨by omega,by omega⟩) adz (R:=R2) (E:=E) (by rw[<-Ec.out];exact HVV.out));have Sc:A1 W V [tb]:=Lx.out.trans HVk.out;have k0:=(Sc.block _ hl0 yM).trans Nx.out.1;have c0:V.cell? (af w.heap.size 0)=some (ac tb):=A0 k0;obtain⟨Mj,hpk⟩:=HL.out n nm r ps Ks.out hps;have hnP:n<N.nN:=by rw[<-Ec.out];exact hlt
       have hsp:=RP k Ks.out hps;have CS:=ZP (V.alloc (.cells #[ab (r:Int)] 3)).drew n₀ tb kb N yL pg yu yl gN xY k (XV.out.below (Af (zl (ah _ _)))) HF.out.1 HF.out.2 n r nm ps Ks.out hnP hps hpk Mj;rw[<-hsp]at CS;have afW:F5 k pg n r<2 ^21:=by rw[hsp];exact RM H.out.gr.Aj HF.out.1 hpk (HF.out.2 n)
       obtain⟨ss,hss⟩:=qE (F5 k pg n r);rw[hss]at CS afW;have Tz:Hid (F5 k pg n r=ss):=hid hss;have HPS:Hid (nm.2[r]?=some ps):=hid hps;have aiv:=hid adz;have ak9:=hid Sc;clear adz Sc hpk hps hsp hss
       gi_wp2
       obtain⟨V1,hV1⟩:=qE (V.alloc (.cells #[ab (r:Int)] 3));rw[hV1]at CS ⊢;have Bw:=hid CS;have aap:Hid (A1 V V1 []):=hid (by rw[<-hV1];exact(A1.refl V []).alloc _);have Be:V1.heap[V.heap.size]?=some (.cells #[ab (r:Int)] 3 (0,0)):=by rw[<-hV1];exact ay V _
       have d0:V1.cell? (af w.heap.size 0)=some (ac tb):=(aap.out.cell (by exact adA) (by simp)).trans c0;have d8:V1.cell? (af V.heap.size 0)=some (ab (r:Int)):=A0 Be;have afX:=ak Be;have Xe:=hid Be;clear CS hV1 c0 k0 Be;refine KD ((xe (n:=4)).2 ?_);refine dn (S:=λw'=>(w'.cell? (af w.heap.size 0)=some (ac tb)/\w'.cell? (af V.heap.size 0)=some (ab (r:Int)))/\A1 V1 w' []) yg ⟨⟨d0,d8⟩,(A1.refl _ _).drew⟩ (λhH=>?_);refine tB 0 hH ?_;refine tB 1 hH ?_;refine tB 2 hH ?_;refine tB 3 hH ?_;refine tB 4 hH ?_;refine tL ?_;refine tS 5 λK hK=>?_
       refine tM ?_
       go_simp;refine Bw.out.mono ?_;rintro e w5 ⟨rfl,yT⟩;try dsimp only
       refine hK.out _ _ ?_ λhH=>?_
       ·exact⟨⟨(yT.cell (by show w.heap.size<V1.heap.size;omega)).trans hH.1.1,(yT.cell (by exact afX)).trans hH.1.2⟩,hH.2.trans (A1.yX yT [])⟩
       clear hK K;refine tL ?_;refine tS 6 λK hK=>?_
       refine tM ?_
       go_simp;refine((mq (n:=4)).1 (XP Fence.wide 4 trivial rfl _ _)).mono ?_;rintro e w6 ⟨rfl,rfl⟩;try dsimp only
       refine hK.out _ _ ?_ λhH=>?_
       ·exact⟨⟨A2 _ hH.1.1,A2 _ hH.1.2⟩,hH.2.alloc _⟩
       clear hK K;refine tL ?_;refine bk yg ?_ _;have Ua:=hid hH.2;obtain⟨V2,hV2⟩:=qE (w5.alloc (.cells #[.int .u32 (ss:Int)] 214));have bS:V2.cell? (af w5.heap.size 0)=some (.int .u32 (ss:Int)):=by rw[<-hV2];exact GL w5 _ _
       have aiw:w5.heap.size<V2.heap.size:=by rw[<-hV2,bg];omega
       rw[hV2]at Ua ⊢;clear hH yT hV2 d0 d8;refine FA (Q:=λ_ _ _=>False) ?_
       gi_wp2
       have aa5:Hid (A1 wr V2 [tb]):=hid (HVk.out.trans ((aap.out.trans Ua.out).mono (λq hq=>by cases hq)));have adB:Hid (A1 w V2 [tb]):=hid (aiv.out.trans ((aap.out.trans Ua.out).mono (λq hq=>by cases hq)));have ala:=Ua.out.size;have afY:Hid (V2.heap[V.heap.size]?=some (.cells #[ab (r:Int)] 3 (0,0))):=hid ((Ua.out.block _ afX (by simp)).trans Xe.out);have adC:Hid (zH V2 tb yu N.nT yl gN nN xY kb R2 E):=hid ((HVV.out.keeps aap.out (by simp)).keeps Ua.out (by simp));have ace:Hid (DX w Ds V2):=hid ((Lo.out.keeps aap.out (λq hq=>by cases hq)).keeps Ua.out (λq hq=>by cases hq));have aix:Hid (TabAt 1 Lib.deBruijn32tab V2):=hid (λj hj=>(adB.out.cell (by show 1<w.heap.size;omega) yM).trans (HT.out j hj));have alb:w.heap.size+2<V2.heap.size:=by omega
       have alc:W.heap.size+1<V2.heap.size:=by omega
       clear aap Ua Xe HVV Lo HVr;refine wm (F:=Fence.wide) rfl (by omega) (gf:=181) (lb:= #[ac w5.heap.size]) rfl trivial (qo Tryz.func181 yg rfl)
        (YK 3 (by omega) w5.heap.size n₀ ss afW h0 V2 aiw aix.out bS) belowK_t (xX (by omega)) (ah _ _) (λ_=>rfl)
        (fun(pre:List (TI ss)) V'=>∃R3,zH V' tb yu N.nT yl gN nN xY kb R3 E/\A1 V2 V' [tb]/\(∀t,t<21->TU (F5 k pg n) r (pre.map (·.1)) (R3 n) t)/\∀m,m≠n->R3 m=R m)
        (λc (pre:List (TI ss)) V'=>c=.exit 0/\∃(R3:Nat->Nat->Int) (aaq:List Nat) (x:Nat),zH V' tb yu N.nT yl gN nN xY kb R3 E/\A1 V2 V' [tb,w.heap.size+1,w.heap.size+2]/\V'.heap[w.heap.size+1]?=some (.cells #[.string nm.1,ab (R3 n x),ab (r:Int),.string (CV yL N.nT x)] 27 (0,0))/\V'.heap[w.heap.size+2]?=some (.cells #[.bool true] 4 (0,0))/\pre.map (·.1)=aaq++ [x]/\x∈BA ss/\(∀t,t<21->TU (F5 k pg n) r aaq (R3 n) t)/\R3 n x≠ -1/\∀m,m≠n->R3 m=R m)
        ?own ?adD ⟨R2,adC.out,A1.refl _ _,λt ht=>oI (afU.out t ht),afV.out⟩
        (λx=>{tmps:= #[ac tb,ac w.heap.size,ac (w.heap.size+1),ac (w.heap.size+2),ab n,ac W.heap.size,ac (W.heap.size+1),u 7,ac V.heap.size,ab (x.1:Int),u 10,u 11,u 12,u 13,u 14,ae gN nN xY,ab nN,ab n,u 18,u 19,u 20,u 21,u 22,u 23,u 24,u 25,u 26,u 27,u 28,u 29,u 30,u 31,u 32,u 33,u 34,u 35,ae gR nL Nw,ab nL,ab r,.bool true,ab r,ac tb,ac tb,ac tb,ab n,ab r,.int .u32 ss,.func (.func 181) #[] #[ac w5.heap.size],ab (x.1:Int),u 49,u 50,u 51,u 52,u 53,u 54,u 55,u 56,u 57,u 58,u 59,u 60,u 61,u 62,u 63,u 64,u 65,u 66,u 67,u 68,u 69,u 70,u 71,u 72,u 73,u 74,u 75,u 76,u 77,u 78,u 79],defers:=[]}) ?assign ?body ?done ?stop
       case assign=>
        intro l x V' K hK;simp only[kQ]
        gi_wp2
        exact hK
       case own=>
        rintro pre A B row ⟨R3,h1,h2,h3,h4⟩ hg hrw;have hk:A1 A B row.toList:=(A1.refl A row.toList).grown hg (λq e=>.inl Ld);exact⟨R3,h1.keeps hk (λhm=>by obtain⟨o,ho,hc⟩:=(hrw tb aaD).2;obtain⟨c,e,f,hx⟩:=h1.kind;rw[hx]at ho;cases ho;cases hc),h2.grown hg (λq e=>.inr (hrw q e).1),h3,h4⟩
       case adD=>
        rintro c pre A B row ⟨rfl,R3,aaq,x,h1,h2,h3,h4,h5⟩ hg hrw;have hk:A1 A B row.toList:=(A1.refl A row.toList).grown hg (λq e=>.inl Ld);have hno:∀(q:Nat) (cs:Array Value) (e:Nat) (f:Nat × Nat),A.heap[q]?=some (.cells cs e f)->q∉row.toList:=λq cs e f hq hm=>by obtain⟨o,ho,hc⟩:=(hrw q aaD).2;rw[hq]at ho;cases ho;cases hc
        refine⟨rfl,R3,aaq,x,h1.keeps hk (λhm=>by obtain⟨cs,e,f,hx⟩:=h1.kind;exact hno _ _ _ _ hx hm),h2.grown hg (λq e=>.inr (hrw q e).1),?_,?_,h5⟩
        ·exact(hk.block _ (ak h3) (hno _ _ _ _ h3)).trans h3
        ·exact(hk.block _ (ak h4) (hno _ _ _ _ h4)).trans h4
       case stop=>
        rintro D c pre V' hD ⟨rest,Gh⟩ ⟨rfl,R3,aaq,x,h1,h2,h3,h4,h5,h6,h7,h8,h9⟩ hd;obtain⟨Ub,_⟩:=RU h6;have hnd:=jY ss;rw[Gh,h5]at hnd;have hxn:x∉aaq:=λhm=>(List.nodup_append.1 (List.nodup_append.1 hnd).1).2.2 x hm x (by simp) rfl
        obtain⟨q,hq,hR,hbq⟩:=oZ (h7 x Ub) hxn h8;rw[hR]at h3;have HX:Hid (q<r/\(F5 k pg n q).testBit x=true):=hid ⟨hq,hbq⟩;have Di:Hid (x∈BA ss):=hid h6;have Nq:=hid h9;have HXV:=hid h1;have HXK:Hid (A1 w V' [tb]):=hid (adB.out.trans' h2 (λq hq=>by simp only[bh,jy,qu]at hq ⊢;omega));have HXM:Hid (DX w (D::Ds) V'):=hid (ace.out.cons (ace.out.keeps h2 (λq hq=>by simp only[bh,jy,qu]at hq;rcases hq with rfl |rfl |rfl;exact adC.out.kind;exact⟨_,_,_,((Lx.out.trans aa5.out).block _ Ty yM).trans Nx.out.2.1⟩;exact⟨_,_,_,((Lx.out.trans aa5.out).block _ hsz yM).trans Nx.out.2.2⟩)) (by omega) hD hd);have hcb:=h3;have Ny:=h4;clear hnd Gh hxn hq hbq hR h1 h2 h3 h4 h5 h6 h7 h8 h9 hd;have g0:V'.cell? (af (w.heap.size+1) 0)=some (.string nm.1):=A0 hcb;have g1:V'.cell? (af (w.heap.size+1) 1)=some (ab (q:Int)):=A0 hcb
        have g2:V'.cell? (af (w.heap.size+1) 2)=some (ab (r:Int)):=A0 hcb;have g3:V'.cell? (af (w.heap.size+1) 3)=some (.string (CV yL N.nT x)):=A0 hcb;have g4:V'.cell? (af (w.heap.size+2) 0)=some (.bool true):=A0 Ny;have q0:V'.frozen? (af (w.heap.size+1) 0)=false:=A3 hcb;have q1:V'.frozen? (af (w.heap.size+1) 1)=false:=A3 hcb;have q2:V'.frozen? (af (w.heap.size+1) 2)=false:=A3 hcb;have q3:V'.frozen? (af (w.heap.size+1) 3)=false:=A3 hcb;have q4:V'.frozen? (af (w.heap.size+2) 0)=false:=A3 Ny;have Xf:w.heap.size+1<V'.heap.size:=ak hcb;have hl6:w.heap.size+2<V'.heap.size:=ak Ny;have Fe:Hid (J1 V' (w.heap.size+1) (w.heap.size+2) (.string nm.1) (ab (q:Int)) (ab (r:Int)) (.string (CV yL N.nT x)) (.bool true)):=hid (And.intro hcb Ny);clear hcb Ny
        gi_wp2
        refine KD ((xe (n:=4)).2 ?_);refine dn (S:=λw'=>Hid (J1 w' (w.heap.size+1) (w.heap.size+2) (.string nm.1) (ab (q:Int)) (ab (r:Int)) (.string (CV yL N.nT x)) (.bool true)/\A1 V' w' [w.heap.size+1,w.heap.size+2])/\(w'.cell? (af (w.heap.size+1) 0)=some (.string nm.1)/\w'.cell? (af (w.heap.size+1) 1)=some (ab (q:Int))/\w'.cell? (af (w.heap.size+1) 2)=some (ab (r:Int))/\w'.cell? (af (w.heap.size+1) 3)=some (.string (CV yL N.nT x))/\w'.cell? (af (w.heap.size+2) 0)=some (.bool true))) yg ⟨hid ⟨Fe.out,(A1.refl _ _).drew⟩,g0,g1,g2,g3,g4⟩ (λhH=>?_);refine tB 0 hH ?_;refine tB 1 hH ?_;refine tL ?_;refine tS 2 λK hK=>?_
        refine tM ?_;go_simp;refine hK.out _ _ ?_ λhH=>?_
        ·exact NM (hH.1.out.1.same.1) ((((hH.1.out.2.setCell (by simp) _).setCell (by simp) _).setCell (by simp) _).setCell (by simp) _)
        clear hK K;refine tL ?_;refine tS 3 λK hK=>?_
        refine tM ?_;go_simp;refine hK.out _ _ ?_ λhH=>?_
        ·exact NM (hH.1.out.1.same.2) (hH.1.out.2.setCell (by simp) _)
        clear hK K;refine tL ?_;refine bk yg ?_ _;have Sd:=hid hH.1.out;clear hH g0 g1 g2 g3 g4 q0 q1 q2 q3 q4;refine FA (Q:=λ_ _ _=>False) ?_
        gi_wp2
        obtain⟨W3,hW3⟩:=qF ((((((V'.setCell (af (w.heap.size+1) 0) (.string nm.1)).setCell (af (w.heap.size+1) 1) (ab (q:Int))).setCell (af (w.heap.size+1) 2) (ab (r:Int))).setCell (af (w.heap.size+1) 3) (.string (CV yL N.nT x))).setCell (af (w.heap.size+2) 0) (.bool true)).drew);rw[<-hW3];have hO:J1 W3 (w.heap.size+1) (w.heap.size+2) (.string nm.1) (ab (q:Int)) (ab (r:Int)) (.string (CV yL N.nT x)) (.bool true):=by rw[hW3];exact Fe.out.same.1.same.2
        have hK3:A1 V' W3 [w.heap.size+1,w.heap.size+2]:=by rw[hW3];exact((((((A1.refl V' _).setCell (by simp) _).setCell (by simp) _).setCell (by simp) _).setCell (by simp) _).setCell (by simp) _).drew
        clear hW3;refine KW w.heap.size (λw'=>A1 w w' [tb]/\zH w' tb yu N.nT yl gN nN xY kb R3 E/\J1 w' (w.heap.size+1) (w.heap.size+2) (.string nm.1) (ab (q:Int)) (ab (r:Int)) (.string (CV yL N.nT x)) (.bool true)) ?_ ?_ (D::Ds) _ ⟨?_,?_,hO⟩ ?_ ?_
        ·exact afR
        ·rintro w' ⟨h1,h2,h3⟩
         have c4:w'.cell? (af (w.heap.size+2) 0)=some (.bool true):=A0 h3.2;refine⟨_,QA (p:=2) (q:=3) (ty:=27) (ty2:=4) rfl _ _ (w.heap.size+1) (w.heap.size+2) _ _ _ _ (.bool true) rfl h3.1 Tryz.underlying27 rfl yg rfl (by go_simp),R3,h2,h1,.inl ⟨n,q,r,x,nm,rfl,Ks.out,HX.out.1,by rw[<-HNL.out];exact acd,Rj.out n nm r Ks.out (by rw[<-HNL.out];exact acd) x (by rw[Tz.out];exact Di.out),HX.out.2,by rw[Tz.out];exact(RU Di.out).2,λm hm nm2 hm2 t ht=>by rw[Nq.out m (by omega)];exact HD.out m hm nm2 hm2 t ht⟩⟩
        ·exact HXK.out.trans' hK3 (λq hq=>by simp only[bh,jy,qu]at hq ⊢;omega)
        ·exact HXV.out.keeps hK3 acS
        ·exact(HXM.out.keeps hK3 (λq hq=>by simp only[bh,jy,qu]at hq;rcases hq with rfl |rfl;exact⟨_,_,_,Fe.out.1⟩;exact⟨_,_,_,Fe.out.2⟩)).1
        ·exact(HXM.out.keeps hK3 (λq hq=>by simp only[bh,jy,qu]at hq;rcases hq with rfl |rfl;exact⟨_,_,_,Fe.out.1⟩;exact⟨_,_,_,Fe.out.2⟩)).2
       case done=>
        rintro D ys V' hD hys ⟨R3,h1,h2,h3,h4⟩ hd;rw[hys,<-Tz.out]at h3;have hrow':∀t,t<21->IZ (F5 k pg n) (r+1) (R3 n) t:=λt ht=>sM ht (h3 t ht)
        have Uc:=hid h1;have zN:Hid (A1 wr V' [tb]):=hid (aa5.out.trans h2);have Ud:=hid hrow';have HE4:=hid h4;have HE5:Hid (DX w (D::Ds) V'):=hid (ace.out.cons (ace.out.keeps h2 (λq hq=>by have:=mS.1 hq;subst this;exact adC.out.kind)) (by omega) hD hd);clear h1 h2 h3 h4 hrow' hd
        gi_wp2
        refine⟨nL - (r+1),by omega,RX #[undef,undef,undef,undef,undef,undef,undef,_,_,_,_,_,_,_,_,undef,undef,undef,_,_,_,_,_,_,_,_,_,_,_,_,_,_,_,_,_,_,undef,undef,undef,_] #[_,_,_,_,_,_,_,_,_,_,_,_,_,_,_,_,_,_,_,_,_,_,_,_,_,_,_,_,_,_,_,_,_,_,_,_,_,_,_,_],D::Ds,r+1,R3,rfl,rfl,by omega,Uc.out,zN.out,HE5.out,Ud.out,HE4.out⟩
       case body=>
        rintro l pre ⟨x,hx⟩ V' ⟨R3,h1,h2,h3,h4⟩ _;simp only at hx ⊢;obtain⟨Ub,Ue⟩:=RU hx;have hx3:(x:Int)<21:=by omega
        have afZ:A1 wr V' [tb]:=aa5.out.trans h2;have ald:=h2.size;have c6:V'.cell? (af (W.heap.size+1) 0)=some (.pointer (some (af tb (3+n*21)))):=A0 ((afZ.block _ Tq yM).trans afS.out.2);have cR:=h1.row zU Ub;have fR:=h1.free (3+n*21+x);have b8:=(h2.block V.heap.size (ak afY.out) yM).trans afY.out;have c8:V'.cell? (af V.heap.size 0)=some (ab (r:Int)):=A0 b8;have hl6:W.heap.size+1<V'.heap.size:=by omega
        have aiy:V.heap.size<V'.heap.size:=ak b8;have aa6:Hid (A1 V2 V' [tb]):=hid h2;have adE:=hid h1;have HMI:=hid h3;have HOt:=hid h4;have HXB:Hid (x∈BA ss):=hid hx;obtain⟨z,hz⟩:=qE (R3 n x);rw[hz]at cR;have HZ:Hid (R3 n x=z):=hid hz;clear h1 h2 h3 h4 hz afZ b8 Ue
        by_cases hz1:z= -1
        ·subst hz1
         gi_wp2
         refine BZ (S:=λw'=>w'.cell? (af (W.heap.size+1) 0)=some (.pointer (some (af tb (3+n*21))))/\w'.cell? (af V.heap.size 0)=some (ab (r:Int))) hmx yg Ka yg ⟨c6,c8⟩ (λhH=>?_);simp only[AB,BM,AO];refine tB 0 hH ?_;refine tB 1 hH ?_;refine tB 2 hH ?_;refine tB 3 hH ?_;refine tB 4 hH ?_;refine tB 5 hH ?_;refine tL ?_;refine bk yg ?_ _;clear hH;have HV4:=hid (adE.out.put zU Ub (r:Int));have hK4:A1 V' (V'.setCell (af tb (3+n*21+x)) (ab (r:Int))) [tb]:=(A1.refl _ _).setCell (by simp) _;have Ht:=hid hK4;clear hK4;show wpList _ _ _ _ _ _;go_wp2;refine⟨KeepsFrom.Kk (S:=[tb]) Ht.out.drew (λq h=>by have:=mS.1 h;omega),Ht.out.drew.below (by omega) (λq h=>by have:=mS.1 h;omega),_,HV4.out.block rfl,aa6.out.trans Ht.out.drew,?_,?_⟩
         ·intro t ht
          have h5:=sH HMI.out Ub (by rw[Tz.out];exact(RU HXB.out).2) HZ.out t ht;rw[ew];unfold VU;simp only[aq];exact h5
         ·intro m hm
          unfold VU;simp only[au hm];exact HOt.out m hm
        ·have hne:(z== -1)=false:=by simpa using hz1
         have Tt:=aa6.out.size;have kwr:A1 wr V' [tb]:=aa5.out.trans aa6.out;have kww:A1 w V' [tb]:=adB.out.trans aa6.out;have kWW:A1 W V' [tb]:=Lx.out.trans kwr;have cN:V'.cell? (af W.heap.size 0)=some (.string nm.1):=A0 ((kwr.block _ (by omega) yM).trans afS.out.1);have cB:V'.cell? (af w.heap.size 0)=some (ac tb):=A0 ((kWW.block _ hl0 yM).trans Nx.out.1);have hcb:=(kWW.block _ Ty yM).trans Nx.out.2.1;have hfx:=(kWW.block _ hsz yM).trans Nx.out.2.2;obtain⟨Xg,Xh,_⟩:=adE.out.Ar;have HPW:Ba V'.drew n₀ N yL pg yu yl gN xY:=(H.out.gr.below (kww.below H.out.ln (λq h=>by have:=mS.1 h;omega))).below ⟨rfl,rfl,rfl,yF _,λ_ _=>rfl⟩;have Jm:x<=N.nT:=Rj.out n nm r Ks.out (by rw[<-HNL.out];exact acd) x (by rw[Tz.out];exact HXB.out);have Jk:=hid (P9 V'.drew n₀ N yL pg yu yl gN xY HPW (by show n₀<=V'.heap.size;omega) x Jm)
         rw[<-Ec.out]at Jk;have Gn:=hid (And.intro hcb hfx);have aiz:w.heap.size<V'.heap.size:=by omega
         have aiA:W.heap.size<V'.heap.size:=by omega
         have adF:tb<V'.heap.size:=by omega
         clear HPW Jm kwr kww kWW hcb hfx
         gi_wp2
         refine BZ (S:=λw'=>(w'.cell? (af W.heap.size 0)=some (.string nm.1)/\w'.cell? (af (W.heap.size+1) 0)=some (.pointer (some (af tb (3+n*21))))/\w'.cell? (af tb (3+n*21+x))=some (ab z)/\w'.cell? (af V.heap.size 0)=some (ab (r:Int))/\w'.cell? (af w.heap.size 0)=some (ac tb)/\w'.cell? (af tb 0)=some (.slice yu N.nT yl)/\w'.cell? (af tb 1)=some (ae gN nN xY))/\A1 V' w' []) hmx yg Ka yg ⟨⟨cN,c6,cR,c8,cB,Xg,Xh⟩,(A1.refl _ _).drew⟩ (λhH=>?_);simp only[AB,BM,AO];refine tB 0 hH ?_;refine tB 1 hH ?_;refine tB 2 hH ?_;refine tB 3 hH ?_;refine tB 4 hH ?_;refine tB 5 hH ?_;refine tB 6 hH ?_;refine tB 7 hH ?_;refine tB 8 hH ?_;refine tB 9 hH ?_;refine tB 10 hH ?_;refine tB 11 hH ?_;refine tB 12 hH ?_;refine tB 13 hH ?_;refine tL ?_;refine tS 14 λK hK=>?_
         refine tM ?_
         go_simp;refine Jk.out.mono ?_;rintro e w6 ⟨rfl,yZ⟩;try dsimp only
         refine hK.out _ _ ?_ λhH=>?_
         ·exact⟨⟨(yZ.cell (by exact aiA)).trans hH.1.1,(yZ.cell (by exact hl6)).trans hH.1.2.1,(yZ.cell (by exact adF)).trans hH.1.2.2.1,(yZ.cell (by exact aiy)).trans hH.1.2.2.2.1,(yZ.cell (by exact aiz)).trans hH.1.2.2.2.2.1,(yZ.cell (by exact adF)).trans hH.1.2.2.2.2.2.1,(yZ.cell (by exact adF)).trans hH.1.2.2.2.2.2.2⟩,hH.2.trans (A1.yX yZ [])⟩
         clear hK K;refine tB 15 hH ?_;refine tB 16 hH ?_;refine tL ?_;refine bk yg ?_ _;have Se:=hid hH.2;have Uf:=hH.2.size;clear hH yZ Jk;have hcb:=(Se.out.block _ (ak Gn.out.1) (by simp)).trans Gn.out.1;have hfx:=(Se.out.block _ (ak Gn.out.2) (by simp)).trans Gn.out.2;have g0:w6.cell? (af (w.heap.size+1) 0)=some (.string ⟨#[]⟩):=A0 hcb;have g1:w6.cell? (af (w.heap.size+1) 1)=some (ab 0):=A0 hcb;have g2:w6.cell? (af (w.heap.size+1) 2)=some (ab 0):=A0 hcb;have g3:w6.cell? (af (w.heap.size+1) 3)=some (.string ⟨#[]⟩):=A0 hcb;have g4:w6.cell? (af (w.heap.size+2) 0)=some (.bool false):=A0 hfx;have q0:w6.frozen? (af (w.heap.size+1) 0)=false:=A3 hcb;have q1:w6.frozen? (af (w.heap.size+1) 1)=false:=A3 hcb;have q2:w6.frozen? (af (w.heap.size+1) 2)=false:=A3 hcb;have q3:w6.frozen? (af (w.heap.size+1) 3)=false:=A3 hcb;have q4:w6.frozen? (af (w.heap.size+2) 0)=false:=A3 hfx
         have Xf:w.heap.size+1<w6.heap.size:=ak hcb;have hl7:w.heap.size+2<w6.heap.size:=ak hfx;have HC6:Hid (J1 w6 (w.heap.size+1) (w.heap.size+2) (.string ⟨#[]⟩) (ab 0) (ab 0) (.string ⟨#[]⟩) (.bool false)):=hid ⟨hcb,hfx⟩;clear hcb hfx;show wpList _ _ _ _ _ _;go_wp2
         gi_wp2
         have hO:J1 (((((w6.setCell (af (w.heap.size+1) 0) (.string nm.1)).setCell (af (w.heap.size+1) 1) (ab z)).setCell (af (w.heap.size+1) 2) (ab (r:Int))).setCell (af (w.heap.size+1) 3) (.string (CV yL N.nT x))).setCell (af (w.heap.size+2) 0) (.bool true)) (w.heap.size+1) (w.heap.size+2) (.string nm.1) (ab z) (ab (r:Int)) (.string (CV yL N.nT x)) (.bool true):=qH HC6.out _ _ _ _ _;have hK7:A1 w6 (((((w6.setCell (af (w.heap.size+1) 0) (.string nm.1)).setCell (af (w.heap.size+1) 1) (ab z)).setCell (af (w.heap.size+1) 2) (ab (r:Int))).setCell (af (w.heap.size+1) 3) (.string (CV yL N.nT x))).setCell (af (w.heap.size+2) 0) (.bool true)) [w.heap.size+1,w.heap.size+2]:=(((((A1.refl w6 _).setCell (by simp) _).setCell (by simp) _).setCell (by simp) _).setCell (by simp) _).setCell (by simp) _;have hK8:=(Se.out.mono (T:=[w.heap.size+1,w.heap.size+2]) (λq hq=>by cases hq)).trans hK7;refine⟨KeepsFrom.Kk (S:=[w.heap.size+1,w.heap.size+2]) hK8 (λq h=>by simp only[bh,jy,qu]at h;omega),rfl,R3,pre.map (·.1),x,adE.out.keeps hK8 acS,(aa6.out.mono (λq hq=>by simp only[bh,jy,qu]at hq ⊢;exact .inl hq)).trans (hK8.mono (λq hq=>fj _ hq)),?_,hO.2,by simp,HXB.out,HMI.out,by rw[HZ.out];exact hz1,HOt.out⟩
         rw[HZ.out];exact hO.1
      ·have Hq:r=nL:=by omega
       subst Hq;have Sc:A1 W V [tb]:=Lx.out.trans HVk.out;have Ey:=hid ((Sc.block _ hl0 yM).trans Nx.out.1);have Uc:=hid ((Sc.block _ Ty yM).trans Nx.out.2.1);have zN:=hid ((Sc.block _ hsz yM).trans Nx.out.2.2);have Ud:Hid (A1 w V [tb]):=hid (HW.out.trans Sc);have HE4:Hid (∀m,m<n+1->∀nm':Nm,pg[m]?=some nm'->∀t,t<21->IZ (F5 k pg m) nm'.2.length (R2 m) t):=hid (λm hm nm' hm' t ht=>by
        by_cases e:m=n
        ·subst e
         rw[Ks.out]at hm';injection hm' with hm'
         subst hm';rw[<-HNL.out];exact afU.out t ht
        ·rw[afV.out m e]
         exact HD.out m (by omega) nm' hm' t ht)
       clear Sc
       gi_wp2
       refine⟨nN - (n+1),by omega,RX #[undef,undef,undef,undef,_,_,_,_,_,_,_,_,_,_,_,undef,undef,undef,_,_,_,_,_,_,_,_,_,_,_,_,_,_,_,_,_,_,_,_,_,_] #[_,_,_,_,_,_,_,_,_,_,_,_,_,_,_,_,_,_,_,_,_,_,_,_,_,_,_,_,_,_,_,_,_,_,_,_,_,_,_,_],Ds,n+1,R2,rfl,rfl,by omega,HVV.out,Ud.out,Ey.out,Uc.out,zN.out,Lo.out,HE4.out⟩
  ·have hnn:n=nN:=by omega
   subst hnn;have Xd:=hid Qa;have HWK:Hid (A1 w W [tb]):=hid hW;have HM:Hid (DX w Ds W):=hid hM;have HD:=hid hdone;have hcb:=bx1;have Ny:=Xc;clear Qa hW hM hdone bx0 bx1 Xc;have g0:W.cell? (af (w.heap.size+1) 0)=some (.string ⟨#[]⟩):=A0 hcb;have g1:W.cell? (af (w.heap.size+1) 1)=some (ab 0):=A0 hcb;have g2:W.cell? (af (w.heap.size+1) 2)=some (ab 0):=A0 hcb;have g3:W.cell? (af (w.heap.size+1) 3)=some (.string ⟨#[]⟩):=A0 hcb;have g4:W.cell? (af (w.heap.size+2) 0)=some (.bool false):=A0 Ny;have q0:W.frozen? (af (w.heap.size+1) 0)=false:=A3 hcb;have q1:W.frozen? (af (w.heap.size+1) 1)=false:=A3 hcb;have q2:W.frozen? (af (w.heap.size+1) 2)=false:=A3 hcb;have q3:W.frozen? (af (w.heap.size+1) 3)=false:=A3 hcb;have q4:W.frozen? (af (w.heap.size+2) 0)=false:=A3 Ny;have Xf:w.heap.size+1<W.heap.size:=ak hcb;have hl6:w.heap.size+2<W.heap.size:=ak Ny;have Fe:Hid (J1 W (w.heap.size+1) (w.heap.size+2) (.string ⟨#[]⟩) (ab 0) (ab 0) (.string ⟨#[]⟩) (.bool false)):=hid (And.intro hcb Ny)
   clear hcb Ny
   gi_wp2
   refine KD ((xe (n:=4)).2 ?_);refine dn (S:=λw'=>Hid (J1 w' (w.heap.size+1) (w.heap.size+2) (.string ⟨#[]⟩) (ab 0) (ab 0) (.string ⟨#[]⟩) (.bool false)/\A1 W w' [w.heap.size+1,w.heap.size+2])/\(w'.cell? (af (w.heap.size+1) 0)=some (.string ⟨#[]⟩)/\w'.cell? (af (w.heap.size+1) 1)=some (ab 0)/\w'.cell? (af (w.heap.size+1) 2)=some (ab 0)/\w'.cell? (af (w.heap.size+1) 3)=some (.string ⟨#[]⟩)/\w'.cell? (af (w.heap.size+2) 0)=some (.bool false))) yg ⟨hid ⟨Fe.out,(A1.refl _ _).drew⟩,g0,g1,g2,g3,g4⟩ (λhH=>?_);refine tB 0 hH ?_;refine tB 1 hH ?_;refine tL ?_;refine tS 2 λK hK=>?_
   refine tM ?_;go_simp;refine hK.out _ _ ?_ λhH=>?_
   ·exact NM (hH.1.out.1.same.1) ((((hH.1.out.2.setCell (by simp) _).setCell (by simp) _).setCell (by simp) _).setCell (by simp) _)
   clear hK K;refine tL ?_;refine tS 3 λK hK=>?_
   refine tM ?_;go_simp;refine hK.out _ _ ?_ λhH=>?_
   ·exact NM (hH.1.out.1.same.2) (hH.1.out.2.setCell (by simp) _)
   clear hK K;refine tL ?_;refine bk yg ?_ _;have Sd:=hid hH.1.out;clear hH g0 g1 g2 g3 g4 q0 q1 q2 q3 q4;refine FA (Q:=λ_ _ _=>False) ?_
   gi_wp2
   obtain⟨W3,hW3⟩:=qF ((((((W.setCell (af (w.heap.size+1) 0) (.string ⟨#[]⟩)).setCell (af (w.heap.size+1) 1) (ab 0)).setCell (af (w.heap.size+1) 2) (ab 0)).setCell (af (w.heap.size+1) 3) (.string ⟨#[]⟩)).setCell (af (w.heap.size+2) 0) (.bool false)).drew);rw[<-hW3];have hO:J1 W3 (w.heap.size+1) (w.heap.size+2) (.string ⟨#[]⟩) (ab 0) (ab 0) (.string ⟨#[]⟩) (.bool false):=by rw[hW3];exact Fe.out.same.1.same.2
   have hK3:A1 W W3 [w.heap.size+1,w.heap.size+2]:=by rw[hW3];exact((((((A1.refl W _).setCell (by simp) _).setCell (by simp) _).setCell (by simp) _).setCell (by simp) _).setCell (by simp) _).drew
   clear hW3;refine KW w.heap.size (λw'=>A1 w w' [tb]/\zH w' tb yu N.nT yl gN n xY kb R E/\J1 w' (w.heap.size+1) (w.heap.size+2) (.string ⟨#[]⟩) (ab 0) (ab 0) (.string ⟨#[]⟩) (.bool false)) ?_ ?_ (Ds) _ ⟨?_,?_,hO⟩ ?_ ?_
   ·exact afR
   ·rintro w' ⟨h1,h2,h3⟩
    have c4:w'.cell? (af (w.heap.size+2) 0)=some (.bool false):=A0 h3.2;refine⟨_,QA (p:=2) (q:=3) (ty:=27) (ty2:=4) rfl _ _ (w.heap.size+1) (w.heap.size+2) _ _ _ _ (.bool false) rfl h3.1 Tryz.underlying27 rfl yg rfl (by go_simp),R,h2,h1,.inr ⟨rfl,λm nm2 hm2 t ht=>HD.out m (by rw[Ec.out,<-H.out.gr.Rg];exact(yS.1 hm2).1) nm2 hm2 t ht⟩⟩
   ·exact HWK.out.trans' hK3 (λq hq=>by simp only[bh,jy,qu]at hq ⊢;omega)
   ·exact Xd.out.keeps hK3 acS
   ·exact(HM.out.keeps hK3 (λq hq=>by simp only[bh,jy,qu]at hq;rcases hq with rfl |rfl;exact⟨_,_,_,Fe.out.1⟩;exact⟨_,_,_,Fe.out.2⟩)).1
   ·exact(HM.out.keeps hK3 (λq hq=>by simp only[bh,jy,qu]at hq;rcases hq with rfl |rfl;exact⟨_,_,_,Fe.out.1⟩;exact⟨_,_,_,Fe.out.2⟩)).2
end Go.Proofs.YtjjggdcnpndgjaaGreatDoor
