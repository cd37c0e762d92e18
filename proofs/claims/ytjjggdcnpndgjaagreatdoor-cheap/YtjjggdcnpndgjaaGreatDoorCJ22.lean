import Derived.Test.YtjjggdcnpndgjaaGreatDoorCJ21
import Derived.Scope
set_option linter.unusedSimpArgs false
set_option maxHeartbeats 4000000
set_option maxRecDepth 100000
namespace Go.Proofs.YtjjggdcnpndgjaaGreatDoor
abbrev xz:=@Go.wpIn_wide
open Go.RowKit Go.Shelf
variable {b f n:Nat}{v0 v1 v2 v3 v4:Value}{w:World}
attribute [local go_sem] Oper.semAt_some
theorem KQ {F:Fence}{P:Program}{c:Code}{K:Act->World->Prop}{Q:Exit->Act->World->Prop}{a:Act} (h:c.wpIn F n P (FA K) a w):c.wpIn F n P (Exit.then K Q) a w:=
 wpIn_mono h (λe a w hq=>by cases e <;> first |exact hq |exact hq.elim)
theorem A5.trans' {a b c:World}{S T:List Nat} (h:A5 a b S) (k:A5 b c T) (hT:∀q∈T,q∈S\/a.heap.size<=q):A5 a c S:=
 ⟨k.os.trans h.os,k.tape.trans h.tape,k.output.trans h.output,zV h.size k.size,λi hi hn=>(k.block i (lL hi h.size) (λhm=>by rcases hT i hm with h1 |h1;exact hn h1;omega)).trans (h.block i hi hn)⟩
def JF (w:World) (b f:Nat) (v0 v1 v2 v3 v4:Value):Prop:=w.heap[b]?=some (.cells #[v0,v1,v2,v3] 27 (0,0))/\w.heap[f]?=some (.cells #[v4] 4 (0,0))
theorem JF.same  (h:JF w b f v0 v1 v2 v3 v4):
  JF ((((w.setCell (af b 0) v0).setCell (af b 1) v1).setCell (af b 2) v2).setCell (af b 3) v3) b f v0 v1 v2 v3 v4/\JF (w.setCell (af f 0) v4) b f v0 v1 v2 v3 v4:=by
 have hne:f≠b:=GI h.2 h.1 (by decide);refine⟨⟨?_,?_⟩,⟨?_,?_⟩⟩
 ·exact AA (j:=3) (AA (j:=2) (AA (j:=1) (AA (j:=0) h.1 v0) v1) v2) v3
 ·rw[je _ _ _ _ hne,je _ _ _ _ hne,je _ _ _ _ hne,je _ _ _ _ hne];exact h.2
 ·rw[je _ _ _ _ (λe=>hne e.symm)];exact h.1
 ·exact AA (j:=0) h.2 v4
theorem qP  (h:JF w b f v0 v1 v2 v3 v4) (u0 u1 u2 u3 u4:Value):
  JF (((((w.setCell (af b 0) u0).setCell (af b 1) u1).setCell (af b 2) u2).setCell (af b 3) u3).setCell (af f 0) u4) b f u0 u1 u2 u3 u4:=by
 have hne:f≠b:=GI h.2 h.1 (by decide);constructor
 ·rw[je _ _ _ _ (λe=>hne e.symm)]
  exact AA (j:=3) (AA (j:=2) (AA (j:=1) (AA (j:=0) h.1 u0) u1) u2) u3
 ·have h2:((((w.setCell (af b 0) u0).setCell (af b 1) u1).setCell (af b 2) u2).setCell (af b 3) u3).heap[f]?=some (.cells #[v4] 4 (0,0)):=by
   rw[je _ _ _ _ hne,je _ _ _ _ hne,je _ _ _ _ hne,je _ _ _ _ hne];exact h.2
  exact AA (j:=0) h2 u4
theorem NM {W:World}{S:List Nat} (h:JF w b f v0 v1 v2 v3 v4) (hk:A5 W w S):
  Hid (JF w b f v0 v1 v2 v3 v4/\A5 W w S)/\(w.cell? (af b 0)=some v0/\w.cell? (af b 1)=some v1/\w.cell? (af b 2)=some v2/\w.cell? (af b 3)=some v3/\w.cell? (af f 0)=some v4):=
 ⟨hid ⟨h,hk⟩,A0 h.1,A0 h.1,A0 h.1,A0 h.1,A0 h.2⟩
theorem wP {n₀:Nat}{N:NG}{zy:List ByteArray}{pg:List Nm}{yZ:Option Addr}{yT gN yQ:Nat} (h:Cz w n₀ N zy pg yZ yT gN yQ) {nm:Nm} (hn:pg[n]?=some nm):nm.2.length<=60:=by
 obtain⟨rest,hr⟩:=LV pg hn nm.2.length;have h1:=congrArg List.length hr;rw[<-h.rules,om]at h1;have h2:=h.Nh;simp only[lA,lM]at h1;omega
theorem FH {K:Act->World->Prop}{Q:Exit->Act->World->Prop}{a:Act} (h:Exit.then K Q .normal a w):FA K .normal a w:=h
theorem QR {P:Program}{fn:Func}{p q:Tmp}{ty ty2:TypeId} (h:fn.results= #[.cell p ty,.cell q ty2]) (tmps:Array Value) (w:World) (g g2:Nat) (t':TypeId) (cs:Array Value) (fr:Nat × Nat) (d:TypeDesc) (v:Value)
  (hp:tmps.getD p undef=ac g) (hg:w.heap[g]?=some (.cells cs t' fr)) (hu:P.underlying ty=some d) (hd:(match d with | .struct _ | .array _ _=>true |_=>false)=true) (hi:(P.info? ty).map (·.size)=some cs.size)
  (hq:tmps.getD q undef=ac g2) (h2:(loadVar ty2 (af g2 0)).run P w=.ok v w):
  (results fn tmps).run P w=.ok (.tuple #[.agg cs,v]) w:=by
 have hp':tmps[p]?.getD undef=ac g:=by simpa using hp
 have Dg:tmps[q]?.getD undef=ac g2:=by simpa using hq
 simp[results,h,hp',Dg,asAddr,yw w g t' ty cs fr d hg hu hd hi,h2,Result.andThen]
def SI (A B:Array Value) (i:Nat):Value:=if i<40 then A.getD i undef else B.getD (i - 40) undef
def FE (k:List Fa) (pg:List Nm) (n r:Nat):Nat:=E7 k ((pg.getD n (ByteArray.empty,[])).2.getD r []) (BC k n)
theorem SR (k:List Fa) {pg:List Nm}{r:Nat}{nm:Nm}{ps:List Pt} (hn:pg[n]?=some nm) (hr:nm.2[r]?=some ps):FE k pg n r=E7 k ps (BC k n):=by
 unfold FE;rw[Af,Af,hn];simp only[jq];rw[hr];rfl
theorem agv {P:Prop} (h:P:=by
  rintro w' D' ⟨h1,h2,h3⟩ Gs hd';have hg':=qo w' D' (.deferred none);have hk':A5 w' (w'.putObj D' (.deferred none)) [D']:=(A5.refl w' [D']).grown hg' (λq e=>.inl (by cases e;simp));have hno:∀(q:Nat) (cs:Array Value) (e:Nat) (f:Nat × Nat),w'.heap[q]?=some (.cells cs e f)->q∉ [D']:=λq cs e f hq hm=>by have:=mS.1 hm;subst this;rw[hd']at hq;cases hq
  exact⟨h1.grown hg' (λq e=>by cases e;exact .inr Gs),h2.keeps hk' (λhm=>by obtain⟨cs,e,f,hx⟩:=h2.kind;exact hno _ _ _ _ hx hm),(hk'.block _ (ak h3.1) (hno _ _ _ _ h3.1)).trans h3.1,(hk'.block _ (ak h3.2) (hno _ _ _ _ h3.2)).trans h3.2⟩):P:=h
theorem sM (w:World) (n₀ tb kb:Nat) (N:NG) (zy:List ByteArray) (pg:List Nm) (yZ:Option Addr) (yT gN yQ:Nat) (k:List Fa) (R0:Nat->Nat->Int) (E:Nat->Nat) (h:Aw w n₀ tb kb N zy pg yZ yT gN yQ k) (hv:Au w tb yZ N.nT yT gN N.nN yQ kb R0 E) (Df:∀n,AQ k n<2 ^21) (hfo:∀n,BC k n<2 ^21)
  (hT:TabAt 1 Lib.deBruijn32tab w) (h0:1<n₀) (htb:n₀<=tb)
  (hlen:∀(n:Nat) (nm:Nm) (r:Nat) (ps:List Pt),pg[n]?=some nm->nm.2[r]?=some ps->ps.length<=8/\BE N ps)
  (acX:∀(n:Nat) (nm:Nm) (r:Nat),pg[n]?=some nm->r<nm.2.length->∀t∈BG (FE k pg n r),t<=N.nT):
  Calls Tryz.prog 81 #[ac tb] w λe w'=>∃R,Au w' tb yZ N.nT yT gN N.nN yQ kb R E/\A5 w w' [tb]/\
   ((∃(n q r t:Nat) (nm:Nm),e=.returned (.tuple #[.agg #[.string nm.1,ab q,ab r,.string (D6 zy N.nT t)],.bool true])/\pg[n]?=some nm/\q<r/\r<nm.2.length/\t<=N.nT/\(FE k pg n q).testBit t=true/\(FE k pg n r).testBit t=true/\
     ∀m,m<n->∀nm':Nm,pg[m]?=some nm'->∀t,t<21->JD (FE k pg m) nm'.2.length (R m) t)\/
    (e=.returned (.tuple #[.agg #[.string ByteArray.empty,ab 0,ab 0,.string ByteArray.empty],.bool false])/\∀(m:Nat) (nm':Nm),pg[m]?=some nm'->∀t,t<21->JD (FE k pg m) nm'.2.length (R m) t)):=by
 have H:=hid h;have HV0:=hid hv;have HT:=hid hT;have HL:=hid hlen;have Tz:=hid acX;have HF:Hid ((∀n,AQ k n<2 ^21)/\∀n,BC k n<2 ^21):=hid ⟨Df,hfo⟩;have abK:=h.gr.Dm;have Rl:=h.gr.lN;have Pg:=hv.lt;have f1:=h.f1;have hnk:tb≠kb:=h.ne;clear h hv hT hlen acX Df hfo;obtain⟨nN,zT⟩:=qF (N.nN);rw[<-zT]at f1 HV0 abK Rl ⊢;have Fz:Hid (nN=N.nN):=hid zT;clear zT;refine(nk (n:=4)).1 ?_;refine qw Tryz.func81 rfl trivial ?_ rfl;simp only[Tryz.ntmps81,jf,lC,jd,Nat.reduceAdd,Nat.reduceSub,jm,jo,jy,jr,ey,iw]
 gi_wp2
 refine xz.2 (wp_scope_straight ((xz (n:=4)).1 ?_))
 gi_wp2
 refine wpIn_label ?_;have hs0:w.heap.size+1+1=w.heap.size+2:=rfl;rw[hs0];obtain⟨W1,hW1⟩:=qE (((w.alloc (.cells #[ac tb] 107)).alloc (.cells #[.string ⟨#[]⟩,ab 0,ab 0,.string ⟨#[]⟩] 27)).alloc (.cells #[.bool false] 4));rw[hW1];have Bt:Hid (A5 w W1 []):=hid (by rw[<-hW1];exact(((A5.refl w []).alloc _).alloc _).alloc _);have hb0:W1.heap[w.heap.size]?=some (.cells #[ac tb] 107 (0,0)):=by
  rw[<-hW1];exact(dw _ _ _ zG).trans ((dw _ _ _ (by simp)).trans (bg w _))
 have hb1:W1.heap[w.heap.size+1]?=some (.cells #[.string ⟨#[]⟩,ab 0,ab 0,.string ⟨#[]⟩] 27 (0,0)):=by
  rw[<-hW1];refine(dw _ _ _ (by simp)).trans ?_;have h1:=bg (w.alloc (.cells #[ac tb] 107)) (.cells #[.string ⟨#[]⟩,ab 0,ab 0,.string ⟨#[]⟩] 27)
  rwa [bh]at h1
 have hb2:W1.heap[w.heap.size+2]?=some (.cells #[.bool false] 4 (0,0)):=by
  rw[<-hW1];have h1:=bg ((w.alloc (.cells #[ac tb] 107)).alloc (.cells #[.string ⟨#[]⟩,ab 0,ab 0,.string ⟨#[]⟩] 27)) (.cells #[.bool false] 4)
  rwa [bh,bh]at h1
 have c0:W1.cell? (af w.heap.size 0)=some (ac tb):=A0 hb0;have c1:W1.cell? (af tb 1)=some (ae gN nN yQ):=(Bt.out.cell (by exact Pg) (by simp)).trans f1;have HB:Hid (W1.heap[w.heap.size]?=some (.cells #[ac tb] 107 (0,0))/\W1.heap[w.heap.size+1]?=some (.cells #[.string ⟨#[]⟩,ab 0,ab 0,.string ⟨#[]⟩] 27 (0,0))/\W1.heap[w.heap.size+2]?=some (.cells #[.bool false] 4 (0,0))):=hid ⟨hb0,hb1,hb2⟩;clear hb0 hb1 hb2 hW1 hs0 f1
 gi_wp2
 refine yX (λg a W=>∃(u:Nat->Value) (Ds:List Nat) (n:Nat) (R:Nat->Nat->Int),
   a= {tmps:= #[ac tb,ac w.heap.size,ac (w.heap.size+1),ac (w.heap.size+2),u 4,u 5,u 6,u 7,u 8,u 9,u 10,u 11,u 12,u 13,u 14,ae gN nN yQ,ab nN,ab n,u 18,u 19,u 20,u 21,u 22,u 23,u 24,u 25,u 26,u 27,u 28,u 29,u 30,u 31,u 32,u 33,u 34,u 35,u 36,u 37,u 38,u 39,u 40,u 41,u 42,u 43,u 44,u 45,u 46,u 47,u 48,u 49,u 50,u 51,u 52,u 53,u 54,u 55,u 56,u 57,u 58,u 59,u 60,u 61,u 62,u 63,u 64,u 65,u 66,u 67,u 68,u 69,u 70,u 71,u 72,u 73,u 74,u 75,u 76,u 77,u 78,u 79],defers:=UT Ds}/\
   g=nN - n/\n<=nN/\Au W tb yZ N.nT yT gN nN yQ kb R E/\A5 w W [tb]/\W.heap[w.heap.size]?=some (.cells #[ac tb] 107 (0,0))/\W.heap[w.heap.size+1]?=some (.cells #[.string ⟨#[]⟩,ab 0,ab 0,.string ⟨#[]⟩] 27 (0,0))/\W.heap[w.heap.size+2]?=some (.cells #[.bool false] 4 (0,0))/\EB w Ds W/\
   ∀m,m<n->∀nm':Nm,pg[m]?=some nm'->∀t,t<21->JD (FE k pg m) nm'.2.length (R m) t) nN ?start ?round
 case start=>
  refine⟨SI #[undef,undef,undef,undef,_,_,_,_,_,_,_,_,_,_,_,undef,undef,undef,_,_,_,_,_,_,_,_,_,_,_,_,_,_,_,_,_,_,_,_,_,_] #[_,_,_,_,_,_,_,_,_,_,_,_,_,_,_,_,_,_,_,_,_,_,_,_,_,_,_,_,_,_,_,_,_,_,_,_,_,_,_,_],[],0,R0,rfl,rfl,dh _,?_,?_,?_,?_,?_,⟨List.nodup_nil,λD hD=>by cases hD⟩,λm hm=>by omega⟩
  ·exact HV0.out.keeps Bt.out (by simp)
  ·exact Bt.out.mono (λq hq=>by cases hq)
  ·exact HB.out.1
  ·exact HB.out.2.1
  ·exact HB.out.2.2
 case round=>
  rintro g a W ⟨u,Ds,n,R,rfl,rfl,hn,Rz,hW,bx0,bx1,Zu,hM,hdone⟩
  by_cases hlt:n<nN
  ·have hnP:n<N.nN:=by rw[<-Fz.out];exact hlt
   obtain⟨nm,hnm⟩:∃nm,pg[n]?=some nm:=⟨_,gE (by rw[H.out.gr.Tu];exact hnP)⟩;have X:Hid (Aw W n₀ tb kb N zy pg yZ yT gN yQ k):=hid (H.out.tab (S:=[tb]) (λq hq=>by have:=mS.1 hq;exact⟨by omega,by omega⟩) hW (R:=R) (E:=E) (by rw[<-Fz.out];exact Rz));obtain⟨m0,v,m1,gR,Pz,rfl,Nz,Fy,hrl⟩:=X.out.gr.names n nm hnm;have hgN:=X.out.gr.hgN;have Zv:=hid Rz;have HW:Hid (A5 w W [tb]):=hid hW;have HM:Hid (EB w Ds W):=hid hM;have Qa:=hid (And.intro bx0 (And.intro bx1 Zu));have HD:=hid hdone;have Nx:=hid hrl;have Mm:Hid (pg[n]?=some nm):=hid hnm;have c0:W.cell? (af w.heap.size 0)=some (ac tb):=A0 bx0;have hsz:=ak Zu;have hl0:w.heap.size<W.heap.size:=by omega
   have Mo:w.heap.size+1<W.heap.size:=by omega
   have htW:tb<W.heap.size:=by omega
   obtain⟨nL,Ry⟩:=qF (nm.2.length);rw[<-Ry]at m1 Fy;have HNL:Hid (nL=nm.2.length):=hid Ry;have alJ:gR<W.heap.size:=by have:=X.out.ln;omega
   have alK:gN<W.heap.size:=by have:=X.out.ln;omega
   have Bi:n<20:=by omega
   have alL:nL<=60:=by rw[Ry];exact wP H.out.gr hnm
   clear Rz hW hM bx0 bx1 Zu hdone hrl hnm Ry HB Bt c1 hnP
   gi_wp2
   have hs1:W.heap.size+1=W.heap.size+1:=rfl;obtain⟨W2,hW2⟩:=qE ((W.alloc (.cells #[.string nm.1,ae gR nL Pz] 219)).alloc (.cells #[.pointer (some (af tb (3+n*21)))] 243));rw[hW2];have Hj:Hid (A5 W W2 []):=hid (by rw[<-hW2];exact((A5.refl W []).alloc _).alloc _);have zP:W2.heap[W.heap.size]?=some (.cells #[.string nm.1,ae gR nL Pz] 219 (0,0)):=by
    rw[<-hW2];exact(dw _ _ _ (by simp)).trans (bg W _)
   have zU:W2.heap[W.heap.size+1]?=some (.cells #[.pointer (some (af tb (3+n*21)))] 243 (0,0)):=by
    rw[<-hW2];have h1:=bg (W.alloc (.cells #[.string nm.1,ae gR nL Pz] 219)) (.cells #[.pointer (some (af tb (3+n*21)))] 243)
    rwa [bh]at h1
   have aaV:=ak zU;have abL:=hid (And.intro zP zU);have Gn:Hid (Au W2 tb yZ N.nT yT gN nN yQ kb R E):=hid (Zv.out.keeps Hj.out (by simp));clear hW2 zP zU c0 m0 m1
   gi_loopg [27] (21) (λg i wr=>∃(t:Nat) (R1:Nat->Nat->Int),t+g=21/\i=ab t/\Hid (Au wr tb yZ N.nT yT gN nN yQ kb R1 E)/\Hid (A5 W2 wr [tb])/\Hid ((∀u,u<t->R1 n u= -1)/\∀m,m≠n->R1 m=R m))
   case atStart=>exact⟨0,R,by omega,rfl,Gn,A5.refl _ _,hid ⟨λu hu=>by omega,λm hm=>rfl⟩⟩
   case round=>
    obtain⟨t,R1,htg,rfl,HV,Sa,Dq⟩:=hrel;have Wh:=Sa.out.size;have c6:wr.cell? (af (W.heap.size+1) 0)=some (.pointer (some (af tb (3+n*21)))):=A0 ((Sa.out.block _ aaV zG).trans abL.out.2)
    by_cases Cu:t<21
    ·have cR:=HV.out.row Bi Cu
     have fR:=HV.out.free (3+n*21+t);have Fo:=hid (HV.out.put Bi Cu (-1));have HK3:=hid (Sa.out.setCell (p:=(af tb (3+n*21+t))) (by simp) (ab (-1)))
     gi_wp2
     gi_roundg (20 - t)
     case measure=>omega
     case rel=>
      refine⟨t+1,_,by omega,by go_num,Fo,HK3,hid ⟨λu hu=>?_,λm hm=>?_⟩⟩
      ·unfold WV
       by_cases e:u=t
       ·simp[e]
       ·simp only[ay,aq e]
        exact Dq.out.1 u (by omega)
      ·unfold WV
       simp only[aq hm];exact Dq.out.2 m hm
    ·have aem:t=21:=by omega
     subst aem;have c5:wr.cell? (af W.heap.size 1)=some (ae gR nL Pz):=A0 ((Sa.out.block _ (by omega) zG).trans abL.out.1);have Dl:Hid (∀u,u<21->JD (FE k pg n) 0 (R1 n) u):=hid λu hu=>tE (Dq.out.1 u hu)
     gi_wp2
     have HVr:=hid HV.out;have Nq:Hid (A5 W wr [tb]):=hid ((Hj.out.mono (λq hq=>by cases hq)).trans Sa.out);have Vv:Hid (∀m,m≠n->R1 m=R m):=hid Dq.out.2;have HMr:Hid (EB w Ds wr):=hid (HM.out.keeps Nq.out (λq hq=>by have:=mS.1 hq;subst this;exact Zv.out.kind));have agw:=hid (And.intro ((Sa.out.block _ (by omega) zG).trans abL.out.1) ((Sa.out.block _ aaV zG).trans abL.out.2));have Wc:W.heap.size+1<wr.heap.size:=by omega
     clear c5 c6 HV Sa Dq Gn Hj abL Wh htg;refine yX (λg a V=>∃(u:Nat->Value) (Ds:List Nat) (r:Nat) (R2:Nat->Nat->Int),
       a= {tmps:= #[ac tb,ac w.heap.size,ac (w.heap.size+1),ac (w.heap.size+2),ab n,ac W.heap.size,ac (W.heap.size+1),u 7,u 8,u 9,u 10,u 11,u 12,u 13,u 14,ae gN nN yQ,ab nN,ab n,u 18,u 19,u 20,u 21,u 22,u 23,u 24,u 25,u 26,u 27,u 28,u 29,u 30,u 31,u 32,u 33,u 34,u 35,ae gR nL Pz,ab nL,ab r,u 39,u 40,u 41,u 42,u 43,u 44,u 45,u 46,u 47,u 48,u 49,u 50,u 51,u 52,u 53,u 54,u 55,u 56,u 57,u 58,u 59,u 60,u 61,u 62,u 63,u 64,u 65,u 66,u 67,u 68,u 69,u 70,u 71,u 72,u 73,u 74,u 75,u 76,u 77,u 78,u 79],defers:=UT Ds}/\
       g=nL - r/\r<=nL/\Au V tb yZ N.nT yT gN nN yQ kb R2 E/\A5 wr V [tb]/\EB w Ds V/\(∀t,t<21->JD (FE k pg n) r (R2 n) t)/\∀m,m≠n->R2 m=R m) nL ?ai2 ?ai3
     case ai2=>
      exact⟨SI #[undef,undef,undef,undef,undef,undef,undef,_,_,_,_,_,_,_,_,undef,undef,undef,_,_,_,_,_,_,_,_,_,_,_,_,_,_,_,_,_,_,undef,undef,undef,_] #[_,_,_,_,_,_,_,_,_,_,_,_,_,_,_,_,_,_,_,_,_,_,_,_,_,_,_,_,_,_,_,_,_,_,_,_,_,_,_,_],Ds,0,R1,rfl,rfl,dh _,HVr.out,A5.refl _ _,HMr.out,Dl.out,Vv.out⟩
     case ai3=>
      rintro g a V ⟨u,Ds,r,R2,rfl,rfl,hr,hvV,hVk,hM,hrow,agx⟩;have HVV:=hid hvV;have HVk:Hid (A5 wr V [tb]):=hid hVk;have Nc:=hid hM;have agy:=hid hrow;have agz:=hid agx;have ai4:=hVk.size;clear hvV hVk hM hrow agx HMr HM
      by_cases acY:r<nL
      ·obtain⟨ps,hps⟩:∃ps,nm.2[r]?=some ps:=⟨_,gE (by rw[<-HNL.out];exact acY)⟩
       have aen:A5 w V [tb]:=HW.out.trans (Nq.out.trans HVk.out);have aeo:w.heap.size<V.heap.size:=by omega
       have XV:Hid (Aw V n₀ tb kb N zy pg yZ yT gN yQ k):=hid (H.out.tab (S:=[tb]) (λq hq=>by have:=mS.1 hq;exact⟨by omega,by omega⟩) aen (R:=R2) (E:=E) (by rw[<-Fz.out];exact HVV.out));have Uo:A5 W V [tb]:=Nq.out.trans HVk.out;have k0:=(Uo.block _ hl0 zG).trans Qa.out.1;have c0:V.cell? (af w.heap.size 0)=some (ac tb):=A0 k0;obtain⟨Ob,hpk⟩:=HL.out n nm r ps Mm.out hps;have hnP:n<N.nN:=by rw[<-Fz.out];exact hlt
       have hsp:=SR k Mm.out hps;have CS:=aJ (V.alloc (.cells #[ab (r:Int)] 3)).drew n₀ tb kb N zy pg yZ yT gN yQ k (XV.out.below (Cb (Aj (ah _ _)))) HF.out.1 HF.out.2 n r nm ps Mm.out hnP hps hpk Ob;rw[<-hsp]at CS;have agA:FE k pg n r<2 ^21:=by rw[hsp];exact RA H.out.gr.Ch HF.out.1 hpk (HF.out.2 n)
       obtain⟨ss,hss⟩:=qE (FE k pg n r);rw[hss]at CS agA;have Ws:Hid (FE k pg n r=ss):=hid hss;have HPS:Hid (nm.2[r]?=some ps):=hid hps;have ai5:=hid aen;have alM:=hid Uo;clear aen Uo hpk hps hsp hss
       gi_wp2
       obtain⟨V1,hV1⟩:=qE (V.alloc (.cells #[ab (r:Int)] 3));rw[hV1]at CS ⊢;have Dr:=hid CS;have aa2:Hid (A5 V V1 []):=hid (by rw[<-hV1];exact(A5.refl V []).alloc _);have Cm:V1.heap[V.heap.size]?=some (.cells #[ab (r:Int)] 3 (0,0)):=by rw[<-hV1];exact bg V _
       have d0:V1.cell? (af w.heap.size 0)=some (ac tb):=(aa2.out.cell (by exact aeo) (by simp)).trans c0;have d8:V1.cell? (af V.heap.size 0)=some (ab (r:Int)):=A0 Cm;have agB:=ak Cm;have Se:=hid Cm;clear CS hV1 c0 k0 Cm;refine KQ ((xz (n:=4)).2 ?_);refine dy (S:=λw'=>(w'.cell? (af w.heap.size 0)=some (ac tb)/\w'.cell? (af V.heap.size 0)=some (ab (r:Int)))/\A5 V1 w' []) yM ⟨⟨d0,d8⟩,(A5.refl _ _).drew⟩ (λhH=>?_);refine tB 0 hH ?_;refine tB 1 hH ?_;refine tB 2 hH ?_;refine tB 3 hH ?_;refine tB 4 hH ?_;refine tL ?_;refine tS 5 λK hK=>?_
       refine tM ?_
       go_simp;refine Dr.out.mono ?_;rintro e w5 ⟨rfl,zP⟩;try dsimp only
       refine hK.out _ _ ?_ λhH=>?_
       ·exact⟨⟨(zP.cell (by show w.heap.size<V1.heap.size;omega)).trans hH.1.1,(zP.cell (by exact agB)).trans hH.1.2⟩,hH.2.trans (A5.zQ zP [])⟩
       clear hK K;refine tL ?_;refine tS 6 λK hK=>?_
       refine tM ?_
       go_simp;refine((nk (n:=4)).1 (YO Fence.wide 4 trivial rfl _ _)).mono ?_;rintro e w6 ⟨rfl,rfl⟩;try dsimp only
       refine hK.out _ _ ?_ λhH=>?_
       ·exact⟨⟨A6 _ hH.1.1,A6 _ hH.1.2⟩,hH.2.alloc _⟩
       clear hK K;refine tL ?_;refine bq yM ?_ _;have Wu:=hid hH.2;obtain⟨V2,hV2⟩:=qE (w5.alloc (.cells #[.int .u32 (ss:Int)] 214));have bS:V2.cell? (af w5.heap.size 0)=some (.int .u32 (ss:Int)):=by rw[<-hV2];exact GX w5 _ _
       have ai6:w5.heap.size<V2.heap.size:=by rw[<-hV2,bh];omega
       rw[hV2]at Wu ⊢;clear hH zP hV2 d0 d8;refine FH (Q:=λ_ _ _=>False) ?_
       gi_wp2
       have abM:Hid (A5 wr V2 [tb]):=hid (HVk.out.trans ((aa2.out.trans Wu.out).mono (λq hq=>by cases hq)));have aep:Hid (A5 w V2 [tb]):=hid (ai5.out.trans ((aa2.out.trans Wu.out).mono (λq hq=>by cases hq)));have alN:=Wu.out.size;have agC:Hid (V2.heap[V.heap.size]?=some (.cells #[ab (r:Int)] 3 (0,0))):=hid ((Wu.out.block _ agB (by simp)).trans Se.out);have aer:Hid (Au V2 tb yZ N.nT yT gN nN yQ kb R2 E):=hid ((HVV.out.keeps aa2.out (by simp)).keeps Wu.out (by simp));have acZ:Hid (EB w Ds V2):=hid ((Nc.out.keeps aa2.out (λq hq=>by cases hq)).keeps Wu.out (λq hq=>by cases hq));have ai7:Hid (TabAt 1 Lib.deBruijn32tab V2):=hid (λj hj=>(aep.out.cell (by show 1<w.heap.size;omega) zG).trans (HT.out j hj));have alO:w.heap.size+2<V2.heap.size:=by omega
       have alP:W.heap.size+1<V2.heap.size:=by omega
       clear aa2 Wu Se HVV Nc HVr;refine xm (F:=Fence.wide) rfl (by omega) (gf:=181) (lb:= #[ac w5.heap.size]) rfl trivial (rq Tryz.func181 yM rfl)
        (XX 3 (by omega) w5.heap.size n₀ ss agA h0 V2 ai6 ai7.out bS) belowK_t (yK (by omega)) (ah _ _) (λ_=>rfl)
        (fun(pre:List (TI ss)) V'=>∃R3,Au V' tb yZ N.nT yT gN nN yQ kb R3 E/\A5 V2 V' [tb]/\(∀t,t<21->UH (FE k pg n) r (pre.map (·.1)) (R3 n) t)/\∀m,m≠n->R3 m=R m)
        (λc (pre:List (TI ss)) V'=>c=.exit 0/\∃(R3:Nat->Nat->Int) (aa3:List Nat) (x:Nat),Au V' tb yZ N.nT yT gN nN yQ kb R3 E/\A5 V2 V' [tb,w.heap.size+1,w.heap.size+2]/\V'.heap[w.heap.size+1]?=some (.cells #[.string nm.1,ab (R3 n x),ab (r:Int),.string (D6 zy N.nT x)] 27 (0,0))/\V'.heap[w.heap.size+2]?=some (.cells #[.bool true] 4 (0,0))/\pre.map (·.1)=aa3++ [x]/\x∈BG ss/\(∀t,t<21->UH (FE k pg n) r aa3 (R3 n) t)/\R3 n x≠ -1/\∀m,m≠n->R3 m=R m)
        ?own ?aes ⟨R2,aer.out,A5.refl _ _,λt ht=>pF (agy.out t ht),agz.out⟩
        (λx=>{tmps:= #[ac tb,ac w.heap.size,ac (w.heap.size+1),ac (w.heap.size+2),ab n,ac W.heap.size,ac (W.heap.size+1),u 7,ac V.heap.size,ab (x.1:Int),u 10,u 11,u 12,u 13,u 14,ae gN nN yQ,ab nN,ab n,u 18,u 19,u 20,u 21,u 22,u 23,u 24,u 25,u 26,u 27,u 28,u 29,u 30,u 31,u 32,u 33,u 34,u 35,ae gR nL Pz,ab nL,ab r,.bool true,ab r,ac tb,ac tb,ac tb,ab n,ab r,.int .u32 ss,.func (.func 181) #[] #[ac w5.heap.size],ab (x.1:Int),u 49,u 50,u 51,u 52,u 53,u 54,u 55,u 56,u 57,u 58,u 59,u 60,u 61,u 62,u 63,u 64,u 65,u 66,u 67,u 68,u 69,u 70,u 71,u 72,u 73,u 74,u 75,u 76,u 77,u 78,u 79],defers:=[]}) ?assign ?body ?done ?stop
       case assign=>
        intro l x V' K hK;simp only[iZ]
        gi_wp2
        exact hK
       case own=>
        rintro pre A B row ⟨R3,h1,h2,h3,h4⟩ hg hrw;have hk:A5 A B row.toList:=(A5.refl A row.toList).grown hg (λq e=>.inl Mv);exact⟨R3,h1.keeps hk (λhm=>by obtain⟨o,ho,hc⟩:=(hrw tb aaK).2;obtain⟨c,e,f,hx⟩:=h1.kind;rw[hx]at ho;cases ho;cases hc),h2.grown hg (λq e=>.inr (hrw q e).1),h3,h4⟩
       case aes=>
        rintro c pre A B row ⟨rfl,R3,aa3,x,h1,h2,h3,h4,h5⟩ hg hrw;have hk:A5 A B row.toList:=(A5.refl A row.toList).grown hg (λq e=>.inl Mv);have hno:∀(q:Nat) (cs:Array Value) (e:Nat) (f:Nat × Nat),A.heap[q]?=some (.cells cs e f)->q∉row.toList:=λq cs e f hq hm=>by obtain⟨o,ho,hc⟩:=(hrw q aaK).2;rw[hq]at ho;cases ho;cases hc
        refine⟨rfl,R3,aa3,x,h1.keeps hk (λhm=>by obtain⟨cs,e,f,hx⟩:=h1.kind;exact hno _ _ _ _ hx hm),h2.grown hg (λq e=>.inr (hrw q e).1),?_,?_,h5⟩
        ·exact(hk.block _ (ak h3) (hno _ _ _ _ h3)).trans h3
        ·exact(hk.block _ (ak h4) (hno _ _ _ _ h4)).trans h4
       case stop=>
        rintro D c pre V' hD ⟨rest,Ja⟩ ⟨rfl,R3,aa3,x,h1,h2,h3,h4,h5,h6,h7,h8,h9⟩ hd;obtain⟨Wv,_⟩:=SE h6;have hnd:=jP ss;rw[Ja,h5]at hnd;have hxn:x∉aa3:=λhm=>(List.nodup_append.1 (List.nodup_append.1 hnd).1).2.2 x hm x (by simp) rfl
        obtain⟨q,hq,hR,hbq⟩:=mJ (h7 x Wv) hxn h8;rw[hR]at h3;have HX:Hid (q<r/\(FE k pg n q).testBit x=true):=hid ⟨hq,hbq⟩;have Ey:Hid (x∈BG ss):=hid h6;have Pq:=hid h9;have HXV:=hid h1;have HXK:Hid (A5 w V' [tb]):=hid (aep.out.trans' h2 (λq hq=>by simp only[bk,ko,su]at hq ⊢;omega));have HXM:Hid (EB w (D::Ds) V'):=hid (acZ.out.cons (acZ.out.keeps h2 (λq hq=>by simp only[bk,ko,su]at hq;rcases hq with rfl |rfl |rfl;exact aer.out.kind;exact⟨_,_,_,((Nq.out.trans abM.out).block _ Mo zG).trans Qa.out.2.1⟩;exact⟨_,_,_,((Nq.out.trans abM.out).block _ hsz zG).trans Qa.out.2.2⟩)) (by omega) hD hd);have hcb:=h3;have Qb:=h4;clear hnd Ja hxn hq hbq hR h1 h2 h3 h4 h5 h6 h7 h8 h9 hd;have g0:V'.cell? (af (w.heap.size+1) 0)=some (.string nm.1):=A0 hcb;have g1:V'.cell? (af (w.heap.size+1) 1)=some (ab (q:Int)):=A0 hcb
        have g2:V'.cell? (af (w.heap.size+1) 2)=some (ab (r:Int)):=A0 hcb;have g3:V'.cell? (af (w.heap.size+1) 3)=some (.string (D6 zy N.nT x)):=A0 hcb;have g4:V'.cell? (af (w.heap.size+2) 0)=some (.bool true):=A0 Qb;have q0:V'.frozen? (af (w.heap.size+1) 0)=false:=A7 hcb;have q1:V'.frozen? (af (w.heap.size+1) 1)=false:=A7 hcb;have q2:V'.frozen? (af (w.heap.size+1) 2)=false:=A7 hcb;have q3:V'.frozen? (af (w.heap.size+1) 3)=false:=A7 hcb;have q4:V'.frozen? (af (w.heap.size+2) 0)=false:=A7 Qb;have Zw:w.heap.size+1<V'.heap.size:=ak hcb;have hl6:w.heap.size+2<V'.heap.size:=ak Qb;have Hl:Hid (JF V' (w.heap.size+1) (w.heap.size+2) (.string nm.1) (ab (q:Int)) (ab (r:Int)) (.string (D6 zy N.nT x)) (.bool true)):=hid (And.intro hcb Qb);clear hcb Qb
        gi_wp2
        refine KQ ((xz (n:=4)).2 ?_);refine dy (S:=λw'=>Hid (JF w' (w.heap.size+1) (w.heap.size+2) (.string nm.1) (ab (q:Int)) (ab (r:Int)) (.string (D6 zy N.nT x)) (.bool true)/\A5 V' w' [w.heap.size+1,w.heap.size+2])/\(w'.cell? (af (w.heap.size+1) 0)=some (.string nm.1)/\w'.cell? (af (w.heap.size+1) 1)=some (ab (q:Int))/\w'.cell? (af (w.heap.size+1) 2)=some (ab (r:Int))/\w'.cell? (af (w.heap.size+1) 3)=some (.string (D6 zy N.nT x))/\w'.cell? (af (w.heap.size+2) 0)=some (.bool true))) yM ⟨hid ⟨Hl.out,(A5.refl _ _).drew⟩,g0,g1,g2,g3,g4⟩ (λhH=>?_);refine tB 0 hH ?_;refine tB 1 hH ?_;refine tL ?_;refine tS 2 λK hK=>?_
        refine tM ?_;go_simp;refine hK.out _ _ ?_ λhH=>?_
        ·exact NM (hH.1.out.1.same.1) ((((hH.1.out.2.setCell (by simp) _).setCell (by simp) _).setCell (by simp) _).setCell (by simp) _)
        clear hK K;refine tL ?_;refine tS 3 λK hK=>?_
        refine tM ?_;go_simp;refine hK.out _ _ ?_ λhH=>?_
        ·exact NM (hH.1.out.1.same.2) (hH.1.out.2.setCell (by simp) _)
        clear hK K;refine tL ?_;refine bq yM ?_ _;have Up:=hid hH.1.out;clear hH g0 g1 g2 g3 g4 q0 q1 q2 q3 q4;refine FH (Q:=λ_ _ _=>False) ?_
        gi_wp2
        obtain⟨W3,hW3⟩:=qF ((((((V'.setCell (af (w.heap.size+1) 0) (.string nm.1)).setCell (af (w.heap.size+1) 1) (ab (q:Int))).setCell (af (w.heap.size+1) 2) (ab (r:Int))).setCell (af (w.heap.size+1) 3) (.string (D6 zy N.nT x))).setCell (af (w.heap.size+2) 0) (.bool true)).drew);rw[<-hW3];have hO:JF W3 (w.heap.size+1) (w.heap.size+2) (.string nm.1) (ab (q:Int)) (ab (r:Int)) (.string (D6 zy N.nT x)) (.bool true):=by rw[hW3];exact Hl.out.same.1.same.2
        have hK3:A5 V' W3 [w.heap.size+1,w.heap.size+2]:=by rw[hW3];exact((((((A5.refl V' _).setCell (by simp) _).setCell (by simp) _).setCell (by simp) _).setCell (by simp) _).setCell (by simp) _).drew
        clear hW3;refine L9 w.heap.size (λw'=>A5 w w' [tb]/\Au w' tb yZ N.nT yT gN nN yQ kb R3 E/\JF w' (w.heap.size+1) (w.heap.size+2) (.string nm.1) (ab (q:Int)) (ab (r:Int)) (.string (D6 zy N.nT x)) (.bool true)) ?_ ?_ (D::Ds) _ ⟨?_,?_,hO⟩ ?_ ?_
        ·exact agv
        ·rintro w' ⟨h1,h2,h3⟩
         have c4:w'.cell? (af (w.heap.size+2) 0)=some (.bool true):=A0 h3.2;refine⟨_,QR (p:=2) (q:=3) (ty:=27) (ty2:=4) rfl _ _ (w.heap.size+1) (w.heap.size+2) _ _ _ _ (.bool true) rfl h3.1 Tryz.underlying27 rfl yM rfl (by go_simp),R3,h2,h1,.inl ⟨n,q,r,x,nm,rfl,Mm.out,HX.out.1,by rw[<-HNL.out];exact acY,Tz.out n nm r Mm.out (by rw[<-HNL.out];exact acY) x (by rw[Ws.out];exact Ey.out),HX.out.2,by rw[Ws.out];exact(SE Ey.out).2,λm hm nm2 hm2 t ht=>by rw[Pq.out m (by omega)];exact HD.out m hm nm2 hm2 t ht⟩⟩
        ·exact HXK.out.trans' hK3 (λq hq=>by simp only[bk,ko,su]at hq ⊢;omega)
        ·exact HXV.out.keeps hK3 adL
        ·exact(HXM.out.keeps hK3 (λq hq=>by simp only[bk,ko,su]at hq;rcases hq with rfl |rfl;exact⟨_,_,_,Hl.out.1⟩;exact⟨_,_,_,Hl.out.2⟩)).1
        ·exact(HXM.out.keeps hK3 (λq hq=>by simp only[bk,ko,su]at hq;rcases hq with rfl |rfl;exact⟨_,_,_,Hl.out.1⟩;exact⟨_,_,_,Hl.out.2⟩)).2
       case done=>
        rintro D ys V' hD hys ⟨R3,h1,h2,h3,h4⟩ hd;rw[hys,<-Ws.out]at h3;have hrow':∀t,t<21->JD (FE k pg n) (r+1) (R3 n) t:=λt ht=>sL ht (h3 t ht)
        have Ww:=hid h1;have Ba:Hid (A5 wr V' [tb]):=hid (abM.out.trans h2);have Wx:=hid hrow';have HE4:=hid h4;have HE5:Hid (EB w (D::Ds) V'):=hid (acZ.out.cons (acZ.out.keeps h2 (λq hq=>by have:=mS.1 hq;subst this;exact aer.out.kind)) (by omega) hD hd);clear h1 h2 h3 h4 hrow' hd
        gi_wp2
        refine⟨nL - (r+1),by omega,SI #[undef,undef,undef,undef,undef,undef,undef,_,_,_,_,_,_,_,_,undef,undef,undef,_,_,_,_,_,_,_,_,_,_,_,_,_,_,_,_,_,_,undef,undef,undef,_] #[_,_,_,_,_,_,_,_,_,_,_,_,_,_,_,_,_,_,_,_,_,_,_,_,_,_,_,_,_,_,_,_,_,_,_,_,_,_,_,_],D::Ds,r+1,R3,rfl,rfl,by omega,Ww.out,Ba.out,HE5.out,Wx.out,HE4.out⟩
       case body=>
        rintro l pre ⟨x,hx⟩ V' ⟨R3,h1,h2,h3,h4⟩ _;simp only at hx ⊢;obtain⟨Wv,Oc⟩:=SE hx;have hx3:(x:Int)<21:=by omega
        have agD:A5 wr V' [tb]:=abM.out.trans h2;have alQ:=h2.size;have c6:V'.cell? (af (W.heap.size+1) 0)=some (.pointer (some (af tb (3+n*21)))):=A0 ((agD.block _ Wc zG).trans agw.out.2);have cR:=h1.row Bi Wv;have fR:=h1.free (3+n*21+x);have b8:=(h2.block V.heap.size (ak agC.out) zG).trans agC.out;have c8:V'.cell? (af V.heap.size 0)=some (ab (r:Int)):=A0 b8;have hl6:W.heap.size+1<V'.heap.size:=by omega
        have ai8:V.heap.size<V'.heap.size:=ak b8;have abN:Hid (A5 V2 V' [tb]):=hid h2;have aet:=hid h1;have HMI:=hid h3;have HOt:=hid h4;have HXB:Hid (x∈BG ss):=hid hx;obtain⟨z,hz⟩:=qE (R3 n x);rw[hz]at cR;have HZ:Hid (R3 n x=z):=hid hz;clear h1 h2 h3 h4 hz agD b8 Oc
        by_cases hz1:z= -1
        ·subst hz1
         gi_wp2
         refine CV (S:=λw'=>w'.cell? (af (W.heap.size+1) 0)=some (.pointer (some (af tb (3+n*21))))/\w'.cell? (af V.heap.size 0)=some (ab (r:Int))) hmx yM Lv yM ⟨c6,c8⟩ (λhH=>?_);simp only[AG,BP,AR];refine tB 0 hH ?_;refine tB 1 hH ?_;refine tB 2 hH ?_;refine tB 3 hH ?_;refine tB 4 hH ?_;refine tB 5 hH ?_;refine tL ?_;refine bq yM ?_ _;clear hH;have HV4:=hid (aet.out.put Bi Wv (r:Int));have hK4:A5 V' (V'.setCell (af tb (3+n*21+x)) (ab (r:Int))) [tb]:=(A5.refl _ _).setCell (by simp) _;have Ke:=hid hK4;clear hK4;show wpList _ _ _ _ _ _;go_wp2;refine⟨KeepsFrom.Mg (S:=[tb]) Ke.out.drew (λq h=>by have:=mS.1 h;omega),Ke.out.drew.below (by omega) (λq h=>by have:=mS.1 h;omega),_,HV4.out.block rfl,abN.out.trans Ke.out.drew,?_,?_⟩
         ·intro t ht
          have h5:=sD HMI.out Wv (by rw[Ws.out];exact(SE HXB.out).2) HZ.out t ht;rw[fq];unfold WV;simp only[ay];exact h5
         ·intro m hm
          unfold WV;simp only[aq hm];exact HOt.out m hm
        ·have hne:(z== -1)=false:=by simpa using hz1
         have Wh:=abN.out.size;have kwr:A5 wr V' [tb]:=abM.out.trans abN.out;have kww:A5 w V' [tb]:=aep.out.trans abN.out;have kWW:A5 W V' [tb]:=Nq.out.trans kwr;have cN:V'.cell? (af W.heap.size 0)=some (.string nm.1):=A0 ((kwr.block _ (by omega) zG).trans agw.out.1);have cB:V'.cell? (af w.heap.size 0)=some (ac tb):=A0 ((kWW.block _ hl0 zG).trans Qa.out.1);have hcb:=(kWW.block _ Mo zG).trans Qa.out.2.1;have hfx:=(kWW.block _ hsz zG).trans Qa.out.2.2;obtain⟨Zx,Zy,_⟩:=aet.out.Cq;have HPW:Cz V'.drew n₀ N zy pg yZ yT gN yQ:=(H.out.gr.below (kww.below H.out.ln (λq h=>by have:=mS.1 h;omega))).below ⟨rfl,rfl,rfl,zn _,λ_ _=>rfl⟩;have Kf:x<=N.nT:=Tz.out n nm r Mm.out (by rw[<-HNL.out];exact acY) x (by rw[Ws.out];exact HXB.out);have Li:=hid (Q5 V'.drew n₀ N zy pg yZ yT gN yQ HPW (by show n₀<=V'.heap.size;omega) x Kf)
         rw[<-Fz.out]at Li;have Jf:=hid (And.intro hcb hfx);have ai9:w.heap.size<V'.heap.size:=by omega
         have aja:W.heap.size<V'.heap.size:=by omega
         have aeu:tb<V'.heap.size:=by omega
         clear HPW Kf kwr kww kWW hcb hfx
         gi_wp2
         refine CV (S:=λw'=>(w'.cell? (af W.heap.size 0)=some (.string nm.1)/\w'.cell? (af (W.heap.size+1) 0)=some (.pointer (some (af tb (3+n*21))))/\w'.cell? (af tb (3+n*21+x))=some (ab z)/\w'.cell? (af V.heap.size 0)=some (ab (r:Int))/\w'.cell? (af w.heap.size 0)=some (ac tb)/\w'.cell? (af tb 0)=some (.slice yZ N.nT yT)/\w'.cell? (af tb 1)=some (ae gN nN yQ))/\A5 V' w' []) hmx yM Lv yM ⟨⟨cN,c6,cR,c8,cB,Zx,Zy⟩,(A5.refl _ _).drew⟩ (λhH=>?_);simp only[AG,BP,AR];refine tB 0 hH ?_;refine tB 1 hH ?_;refine tB 2 hH ?_;refine tB 3 hH ?_;refine tB 4 hH ?_;refine tB 5 hH ?_;refine tB 6 hH ?_;refine tB 7 hH ?_;refine tB 8 hH ?_;refine tB 9 hH ?_;refine tB 10 hH ?_;refine tB 11 hH ?_;refine tB 12 hH ?_;refine tB 13 hH ?_;refine tL ?_;refine tS 14 λK hK=>?_
         refine tM ?_
         go_simp;refine Li.out.mono ?_;rintro e w6 ⟨rfl,zU⟩;try dsimp only
         refine hK.out _ _ ?_ λhH=>?_
         ·exact⟨⟨(zU.cell (by exact aja)).trans hH.1.1,(zU.cell (by exact hl6)).trans hH.1.2.1,(zU.cell (by exact aeu)).trans hH.1.2.2.1,(zU.cell (by exact ai8)).trans hH.1.2.2.2.1,(zU.cell (by exact ai9)).trans hH.1.2.2.2.2.1,(zU.cell (by exact aeu)).trans hH.1.2.2.2.2.2.1,(zU.cell (by exact aeu)).trans hH.1.2.2.2.2.2.2⟩,hH.2.trans (A5.zQ zU [])⟩
         clear hK K;refine tB 15 hH ?_;refine tB 16 hH ?_;refine tL ?_;refine bq yM ?_ _;have Uq:=hid hH.2;have Wy:=hH.2.size;clear hH zU Li;have hcb:=(Uq.out.block _ (ak Jf.out.1) (by simp)).trans Jf.out.1;have hfx:=(Uq.out.block _ (ak Jf.out.2) (by simp)).trans Jf.out.2;have g0:w6.cell? (af (w.heap.size+1) 0)=some (.string ⟨#[]⟩):=A0 hcb;have g1:w6.cell? (af (w.heap.size+1) 1)=some (ab 0):=A0 hcb;have g2:w6.cell? (af (w.heap.size+1) 2)=some (ab 0):=A0 hcb;have g3:w6.cell? (af (w.heap.size+1) 3)=some (.string ⟨#[]⟩):=A0 hcb;have g4:w6.cell? (af (w.heap.size+2) 0)=some (.bool false):=A0 hfx;have q0:w6.frozen? (af (w.heap.size+1) 0)=false:=A7 hcb;have q1:w6.frozen? (af (w.heap.size+1) 1)=false:=A7 hcb;have q2:w6.frozen? (af (w.heap.size+1) 2)=false:=A7 hcb;have q3:w6.frozen? (af (w.heap.size+1) 3)=false:=A7 hcb;have q4:w6.frozen? (af (w.heap.size+2) 0)=false:=A7 hfx
         have Zw:w.heap.size+1<w6.heap.size:=ak hcb;have hl7:w.heap.size+2<w6.heap.size:=ak hfx;have HC6:Hid (JF w6 (w.heap.size+1) (w.heap.size+2) (.string ⟨#[]⟩) (ab 0) (ab 0) (.string ⟨#[]⟩) (.bool false)):=hid ⟨hcb,hfx⟩;clear hcb hfx;show wpList _ _ _ _ _ _;go_wp2
         gi_wp2
         have hO:JF (((((w6.setCell (af (w.heap.size+1) 0) (.string nm.1)).setCell (af (w.heap.size+1) 1) (ab z)).setCell (af (w.heap.size+1) 2) (ab (r:Int))).setCell (af (w.heap.size+1) 3) (.string (D6 zy N.nT x))).setCell (af (w.heap.size+2) 0) (.bool true)) (w.heap.size+1) (w.heap.size+2) (.string nm.1) (ab z) (ab (r:Int)) (.string (D6 zy N.nT x)) (.bool true):=qP HC6.out _ _ _ _ _;have hK7:A5 w6 (((((w6.setCell (af (w.heap.size+1) 0) (.string nm.1)).setCell (af (w.heap.size+1) 1) (ab z)).setCell (af (w.heap.size+1) 2) (ab (r:Int))).setCell (af (w.heap.size+1) 3) (.string (D6 zy N.nT x))).setCell (af (w.heap.size+2) 0) (.bool true)) [w.heap.size+1,w.heap.size+2]:=(((((A5.refl w6 _).setCell (by simp) _).setCell (by simp) _).setCell (by simp) _).setCell (by simp) _).setCell (by simp) _;have hK8:=(Uq.out.mono (T:=[w.heap.size+1,w.heap.size+2]) (λq hq=>by cases hq)).trans hK7;refine⟨KeepsFrom.Mg (S:=[w.heap.size+1,w.heap.size+2]) hK8 (λq h=>by simp only[bk,ko,su]at h;omega),rfl,R3,pre.map (·.1),x,aet.out.keeps hK8 adL,(abN.out.mono (λq hq=>by simp only[bk,ko,su]at hq ⊢;exact .inl hq)).trans (hK8.mono (λq hq=>gj _ hq)),?_,hO.2,by simp,HXB.out,HMI.out,by rw[HZ.out];exact hz1,HOt.out⟩
         rw[HZ.out];exact hO.1
      ·have Jw:r=nL:=by omega
       subst Jw;have Uo:A5 W V [tb]:=Nq.out.trans HVk.out;have Gz:=hid ((Uo.block _ hl0 zG).trans Qa.out.1);have Ww:=hid ((Uo.block _ Mo zG).trans Qa.out.2.1);have Ba:=hid ((Uo.block _ hsz zG).trans Qa.out.2.2);have Wx:Hid (A5 w V [tb]):=hid (HW.out.trans Uo);have HE4:Hid (∀m,m<n+1->∀nm':Nm,pg[m]?=some nm'->∀t,t<21->JD (FE k pg m) nm'.2.length (R2 m) t):=hid (λm hm nm' hm' t ht=>by
        by_cases e:m=n
        ·subst e
         rw[Mm.out]at hm';injection hm' with hm'
         subst hm';rw[<-HNL.out];exact agy.out t ht
        ·rw[agz.out m e]
         exact HD.out m (by omega) nm' hm' t ht)
       clear Uo
       gi_wp2
       refine⟨nN - (n+1),by omega,SI #[undef,undef,undef,undef,_,_,_,_,_,_,_,_,_,_,_,undef,undef,undef,_,_,_,_,_,_,_,_,_,_,_,_,_,_,_,_,_,_,_,_,_,_] #[_,_,_,_,_,_,_,_,_,_,_,_,_,_,_,_,_,_,_,_,_,_,_,_,_,_,_,_,_,_,_,_,_,_,_,_,_,_,_,_],Ds,n+1,R2,rfl,rfl,by omega,HVV.out,Wx.out,Gz.out,Ww.out,Ba.out,Nc.out,HE4.out⟩
  ·have hnn:n=nN:=by omega
   subst hnn;have Zv:=hid Rz;have HWK:Hid (A5 w W [tb]):=hid hW;have HM:Hid (EB w Ds W):=hid hM;have HD:=hid hdone;have hcb:=bx1;have Qb:=Zu;clear Rz hW hM hdone bx0 bx1 Zu;have g0:W.cell? (af (w.heap.size+1) 0)=some (.string ⟨#[]⟩):=A0 hcb;have g1:W.cell? (af (w.heap.size+1) 1)=some (ab 0):=A0 hcb;have g2:W.cell? (af (w.heap.size+1) 2)=some (ab 0):=A0 hcb;have g3:W.cell? (af (w.heap.size+1) 3)=some (.string ⟨#[]⟩):=A0 hcb;have g4:W.cell? (af (w.heap.size+2) 0)=some (.bool false):=A0 Qb;have q0:W.frozen? (af (w.heap.size+1) 0)=false:=A7 hcb;have q1:W.frozen? (af (w.heap.size+1) 1)=false:=A7 hcb;have q2:W.frozen? (af (w.heap.size+1) 2)=false:=A7 hcb;have q3:W.frozen? (af (w.heap.size+1) 3)=false:=A7 hcb;have q4:W.frozen? (af (w.heap.size+2) 0)=false:=A7 Qb;have Zw:w.heap.size+1<W.heap.size:=ak hcb;have hl6:w.heap.size+2<W.heap.size:=ak Qb;have Hl:Hid (JF W (w.heap.size+1) (w.heap.size+2) (.string ⟨#[]⟩) (ab 0) (ab 0) (.string ⟨#[]⟩) (.bool false)):=hid (And.intro hcb Qb)
   clear hcb Qb
   gi_wp2
   refine KQ ((xz (n:=4)).2 ?_);refine dy (S:=λw'=>Hid (JF w' (w.heap.size+1) (w.heap.size+2) (.string ⟨#[]⟩) (ab 0) (ab 0) (.string ⟨#[]⟩) (.bool false)/\A5 W w' [w.heap.size+1,w.heap.size+2])/\(w'.cell? (af (w.heap.size+1) 0)=some (.string ⟨#[]⟩)/\w'.cell? (af (w.heap.size+1) 1)=some (ab 0)/\w'.cell? (af (w.heap.size+1) 2)=some (ab 0)/\w'.cell? (af (w.heap.size+1) 3)=some (.string ⟨#[]⟩)/\w'.cell? (af (w.heap.size+2) 0)=some (.bool false))) yM ⟨hid ⟨Hl.out,(A5.refl _ _).drew⟩,g0,g1,g2,g3,g4⟩ (λhH=>?_);refine tB 0 hH ?_;refine tB 1 hH ?_;refine tL ?_;refine tS 2 λK hK=>?_
   refine tM ?_;go_simp;refine hK.out _ _ ?_ λhH=>?_
   ·exact NM (hH.1.out.1.same.1) ((((hH.1.out.2.setCell (by simp) _).setCell (by simp) _).setCell (by simp) _).setCell (by simp) _)
   clear hK K;refine tL ?_;refine tS 3 λK hK=>?_
   refine tM ?_;go_simp;refine hK.out _ _ ?_ λhH=>?_
   ·exact NM (hH.1.out.1.same.2) (hH.1.out.2.setCell (by simp) _)
   clear hK K;refine tL ?_;refine bq yM ?_ _;have Up:=hid hH.1.out;clear hH g0 g1 g2 g3 g4 q0 q1 q2 q3 q4;refine FH (Q:=λ_ _ _=>False) ?_
   gi_wp2
   obtain⟨W3,hW3⟩:=qF ((((((W.setCell (af (w.heap.size+1) 0) (.string ⟨#[]⟩)).setCell (af (w.heap.size+1) 1) (ab 0)).setCell (af (w.heap.size+1) 2) (ab 0)).setCell (af (w.heap.size+1) 3) (.string ⟨#[]⟩)).setCell (af (w.heap.size+2) 0) (.bool false)).drew);rw[<-hW3];have hO:JF W3 (w.heap.size+1) (w.heap.size+2) (.string ⟨#[]⟩) (ab 0) (ab 0) (.string ⟨#[]⟩) (.bool false):=by rw[hW3];exact Hl.out.same.1.same.2
   have hK3:A5 W W3 [w.heap.size+1,w.heap.size+2]:=by rw[hW3];exact((((((A5.refl W _).setCell (by simp) _).setCell (by simp) _).setCell (by simp) _).setCell (by simp) _).setCell (by simp) _).drew
   clear hW3;refine L9 w.heap.size (λw'=>A5 w w' [tb]/\Au w' tb yZ N.nT yT gN n yQ kb R E/\JF w' (w.heap.size+1) (w.heap.size+2) (.string ⟨#[]⟩) (ab 0) (ab 0) (.string ⟨#[]⟩) (.bool false)) ?_ ?_ (Ds) _ ⟨?_,?_,hO⟩ ?_ ?_
   ·exact agv
   ·rintro w' ⟨h1,h2,h3⟩
    have c4:w'.cell? (af (w.heap.size+2) 0)=some (.bool false):=A0 h3.2;refine⟨_,QR (p:=2) (q:=3) (ty:=27) (ty2:=4) rfl _ _ (w.heap.size+1) (w.heap.size+2) _ _ _ _ (.bool false) rfl h3.1 Tryz.underlying27 rfl yM rfl (by go_simp),R,h2,h1,.inr ⟨rfl,λm nm2 hm2 t ht=>HD.out m (by rw[Fz.out,<-H.out.gr.Tu];exact(zM.1 hm2).1) nm2 hm2 t ht⟩⟩
   ·exact HWK.out.trans' hK3 (λq hq=>by simp only[bk,ko,su]at hq ⊢;omega)
   ·exact Zv.out.keeps hK3 adL
   ·exact(HM.out.keeps hK3 (λq hq=>by simp only[bk,ko,su]at hq;rcases hq with rfl |rfl;exact⟨_,_,_,Hl.out.1⟩;exact⟨_,_,_,Hl.out.2⟩)).1
   ·exact(HM.out.keeps hK3 (λq hq=>by simp only[bk,ko,su]at hq;rcases hq with rfl |rfl;exact⟨_,_,_,Hl.out.1⟩;exact⟨_,_,_,Hl.out.2⟩)).2
end Go.Proofs.YtjjggdcnpndgjaaGreatDoor
