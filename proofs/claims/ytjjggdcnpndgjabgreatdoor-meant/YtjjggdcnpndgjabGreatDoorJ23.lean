import Derived.Test.YtjjggdcnpndgjabGreatDoorJ22
import Derived.Scope
set_option linter.unusedSimpArgs false
set_option maxHeartbeats 4000000
set_option maxRecDepth 100000
namespace Go.Proofs.YtjjggdcnpndgjabGreatDoor
open Go.RowKit Go.Shelf
variable {b f n:Nat}{v0 v1 v2 v3 v4:Value}{w:World}
attribute [local go_sem] Oper.semAt_some
theorem K7 {F:Fence}{P:Program}{c:Code}{K:Act->World->Prop}{Q:Exit->Act->World->Prop}{a:Act} (h:c.wpIn F n P (ER K) a w):c.wpIn F n P (Exit.then K Q) a w:=
 wpIn_mono h (fun e a w hq=>by cases e <;> first |exact hq |exact hq.elim)
theorem A1.trans' {a b c:World}{S T:List Nat} (h:A1 a b S) (k:A1 b c T) (hT:∀q∈T,q∈S\/a.heap.size<=q):A1 a c S:=
 ⟨k.os.trans h.os,k.tape.trans h.tape,k.output.trans h.output,lT_ h.size k.size,fun i hi hn=>(k.block i (lL hi h.size) (fun hm=>by rcases hT i hm with h1 |h1;exact hn h1;omega)).trans (h.block i hi hn)⟩
def IX (w:World) (b f:Nat) (v0 v1 v2 v3 v4:Value):Prop:=w.heap[b]?=some (.cells #[v0,v1,v2,v3] 56 (0,0))/\w.heap[f]?=some (.cells #[v4] 4 (0,0))
theorem IX.same  (h:IX w b f v0 v1 v2 v3 v4):
  IX ((((w.setCell (af b 0) v0).setCell (af b 1) v1).setCell (af b 2) v2).setCell (af b 3) v3) b f v0 v1 v2 v3 v4/\IX (w.setCell (af f 0) v4) b f v0 v1 v2 v3 v4:=by
 have hne:f≠b:=FY h.2 h.1 (by decide);refine⟨⟨?_,?_⟩,⟨?_,?_⟩⟩
 ·exact A5 (j:=3) (A5 (j:=2) (A5 (j:=1) (A5 (j:=0) h.1 v0) v1) v2) v3
 ·rw[Below.heap_setCell _ _ _ _ hne,Below.heap_setCell _ _ _ _ hne,Below.heap_setCell _ _ _ _ hne,Below.heap_setCell _ _ _ _ hne];exact h.2
 ·rw[Below.heap_setCell _ _ _ _ (fun e=>hne e.symm)];exact h.1
 ·exact A5 (j:=0) h.2 v4
theorem rF  (h:IX w b f v0 v1 v2 v3 v4) (u0 u1 u2 u3 u4:Value):
  IX (((((w.setCell (af b 0) u0).setCell (af b 1) u1).setCell (af b 2) u2).setCell (af b 3) u3).setCell (af f 0) u4) b f u0 u1 u2 u3 u4:=by
 have hne:f≠b:=FY h.2 h.1 (by decide);constructor
 ·rw[Below.heap_setCell _ _ _ _ (fun e=>hne e.symm)]
  exact A5 (j:=3) (A5 (j:=2) (A5 (j:=1) (A5 (j:=0) h.1 u0) u1) u2) u3
 ·have h2:((((w.setCell (af b 0) u0).setCell (af b 1) u1).setCell (af b 2) u2).setCell (af b 3) u3).heap[f]?=some (.cells #[v4] 4 (0,0)):=by
   rw[Below.heap_setCell _ _ _ _ hne,Below.heap_setCell _ _ _ _ hne,Below.heap_setCell _ _ _ _ hne,Below.heap_setCell _ _ _ _ hne];exact h.2
  exact A5 (j:=0) h2 u4
theorem NC {W:World}{S:List Nat} (h:IX w b f v0 v1 v2 v3 v4) (hk:A1 W w S):
  Hid (IX w b f v0 v1 v2 v3 v4/\A1 W w S)/\(w.cell? (af b 0)=some v0/\w.cell? (af b 1)=some v1/\w.cell? (af b 2)=some v2/\w.cell? (af b 3)=some v3/\w.cell? (af f 0)=some v4):=
 ⟨hid ⟨h,hk⟩,A0 h.1,A0 h.1,A0 h.1,A0 h.1,A0 h.2⟩
theorem uV {n₀:Nat}{N:NG}{tws:List ByteArray}{pg:List Nm}{adT:Option Addr}{capT gN capN:Nat} (h:PGr w n₀ N tws pg adT capT gN capN) {nm:Nm} (hn:pg[n]?=some nm):nm.2.length<=60:=by
 obtain⟨rest,hr⟩:=LA pg hn nm.2.length;have h1:=congrArg List.length hr;rw[<-h.rules,List.take_length]at h1;have h2:=h.leR;simp only[lA,lM]at h1;omega
theorem F3 {K:Act->World->Prop}{Q:Exit->Act->World->Prop}{a:Act} (h:Exit.then K Q .normal a w):ER K .normal a w:=h
theorem Q8 {P:Program}{fn:Func}{p q:Tmp}{ty ty2:TypeId} (h:fn.results= #[.cell p ty,.cell q ty2]) (tmps:Array Value) (w:World) (g g2:Nat) (t':TypeId) (cs:Array Value) (fr:Nat × Nat) (d:TypeDesc) (v:Value)
  (hp:tmps.getD p undef=ac g) (hg:w.heap[g]?=some (.cells cs t' fr)) (hu:P.underlying ty=some d) (hd:(match d with | .struct _ | .array _ _=>true |_=>false)=true) (hi:(P.info? ty).map (·.size)=some cs.size)
  (hq:tmps.getD q undef=ac g2) (h2:(loadVar ty2 (af g2 0)).run P w=.ok v w):
  (results fn tmps).run P w=.ok (.tuple #[.agg cs,v]) w:=by
 have hp':tmps[p]?.getD undef=ac g:=by simpa using hp
 have hq':tmps[q]?.getD undef=ac g2:=by simpa using hq
 simp[results,h,hp',hq',asAddr,run_loadVar_row w g t' ty cs fr d hg hu hd hi,h2,Result.andThen]
def RU (A B:Array Value) (i:Nat):Value:=if i<40 then A.getD i undef else B.getD (i - 40) undef
def EX (k:List Fa) (pg:List Nm) (n r:Nat):Nat:=DU k ((pg.getD n (ByteArray.empty,[])).2.getD r []) (B2 k n)
theorem RQ (k:List Fa) {pg:List Nm}{r:Nat}{nm:Nm}{ps:List Pt} (hn:pg[n]?=some nm) (hr:nm.2[r]?=some ps):EX k pg n r=DU k ps (B2 k n):=by
 unfold EX;rw[gD_,gD_,hn];simp only[Option.getD_some];rw[hr];rfl
theorem Mz28 {P:Prop} (h:P:=by
  rintro w' D' ⟨h1,h2,h3⟩ hD' hd';have hg':=grownBy_putObj' w' D' (.deferred none);have hk':A1 w' (w'.putObj D' (.deferred none)) [D']:=(A1.refl w' [D']).grown hg' (fun q e=>.inl (by cases e;simp));have hno:∀(q:Nat) (cs:Array Value) (e:Nat) (f:Nat × Nat),w'.heap[q]?=some (.cells cs e f)->q∉ [D']:=fun q cs e f hq hm=>by have:=mS.1 hm;subst this;rw[hd']at hq;cases hq
  exact⟨h1.grown hg' (fun q e=>by cases e;exact .inr hD'),h2.keeps hk' (fun hm=>by obtain⟨cs,e,f,hx⟩:=h2.kind;exact hno _ _ _ _ hx hm),(hk'.block _ (lt_of_block h3.1) (hno _ _ _ _ h3.1)).trans h3.1,(hk'.block _ (lt_of_block h3.2) (hno _ _ _ _ h3.2)).trans h3.2⟩):P:=h
theorem qA (w:World) (n₀ tb kb:Nat) (N:NG) (tws:List ByteArray) (pg:List Nm) (adT:Option Addr) (capT gN capN:Nat) (k:List Fa) (R0:Nat->Nat->Int) (E:Nat->Nat) (h:FcM w n₀ tb kb N tws pg adT capT gN capN k) (hv:TbV w tb adT N.nT capT gN N.nN capN kb R0 E) (hfh:∀n,AL k n<2 ^21) (hfo:∀n,B2 k n<2 ^21)
  (hT:TabAt 0 Lib.deBruijn32tab w) (h0:0<n₀) (htb:n₀<=tb)
  (hlen:∀(n:Nat) (nm:Nm) (r:Nat) (ps:List Pt),pg[n]?=some nm->nm.2[r]?=some ps->ps.length<=8/\AY N ps)
  (hbits:∀(n:Nat) (nm:Nm) (r:Nat),pg[n]?=some nm->r<nm.2.length->∀t∈B1 (EX k pg n r),t<=N.nT):
  Calls Tryz.prog 23 #[ac tb] w fun e w'=>∃R,TbV w' tb adT N.nT capT gN N.nN capN kb R E/\A1 w w' [tb]/\
   ((∃(n q r t:Nat) (nm:Nm),e=.returned (.tuple #[.agg #[.string nm.1,ab q,ab r,.string (CX tws N.nT t)],.bool true])/\pg[n]?=some nm/\q<r/\r<nm.2.length/\t<=N.nT/\(EX k pg n q).testBit t=true/\(EX k pg n r).testBit t=true/\
     ∀m,m<n->∀nm':Nm,pg[m]?=some nm'->∀t,t<21->IY (EX k pg m) nm'.2.length (R m) t)\/
    (e=.returned (.tuple #[.agg #[.string ByteArray.empty,ab 0,ab 0,.string ByteArray.empty],.bool false])/\∀(m:Nat) (nm':Nm),pg[m]?=some nm'->∀t,t<21->IY (EX k pg m) nm'.2.length (R m) t)):=by
 have H:=hid h;have HV0:=hid hv;have HT:=hid hT;have HL:=hid hlen;have HBt:=hid hbits;have HF:Hid ((∀n,AL k n<2 ^21)/\∀n,B2 k n<2 ^21):=hid ⟨hfh,hfo⟩;have hN20:=h.gr.leN;have hlN:=h.gr.lN;have htw:=hv.lt;have f1:=h.f1;have hnk:tb≠kb:=h.ne;clear h hv hT hlen hbits hfh hfo;obtain⟨nN,hnN⟩:=qF (N.nN);rw[<-hnN]at f1 HV0 hN20 hlN ⊢;have HNN:Hid (nN=N.nN):=hid hnN;clear hnN;refine(callsIn_wide (n:=4)).1 ?_;refine callsIn_of_wp_marks Tryz.func23 rfl trivial ?_ rfl;simp only[Tryz.ntmps23,List.size_toArray,lC,List.length_nil,Nat.reduceAdd,Nat.reduceSub,Array.replicate_succ,Array.replicate_zero,List.push_toArray,List.append_toArray,List.nil_append,List.cons_append]
 gi_wp2
 refine wpIn_wide.2 (wp_scope_straight ((wpIn_wide (n:=4)).1 ?_))
 gi_wp2
 refine wpIn_label ?_;have hs0:w.heap.size+1+1=w.heap.size+2:=rfl;rw[hs0];obtain⟨W1,hW1⟩:=qE (((w.alloc (.cells #[ac tb] 54)).alloc (.cells #[.string ⟨#[]⟩,ab 0,ab 0,.string ⟨#[]⟩] 56)).alloc (.cells #[.bool false] 4));rw[hW1];have HK1:Hid (A1 w W1 []):=hid (by rw[<-hW1];exact(((A1.refl w []).alloc _).alloc _).alloc _);have hb0:W1.heap[w.heap.size]?=some (.cells #[ac tb] 54 (0,0)):=by
  rw[<-hW1];exact(Below.heap_alloc _ _ _ y2Z).trans ((Below.heap_alloc _ _ _ (by simp)).trans (World.alloc_heap_new w _))
 have hb1:W1.heap[w.heap.size+1]?=some (.cells #[.string ⟨#[]⟩,ab 0,ab 0,.string ⟨#[]⟩] 56 (0,0)):=by
  rw[<-hW1];refine(Below.heap_alloc _ _ _ (by simp)).trans ?_;have h1:=World.alloc_heap_new (w.alloc (.cells #[ac tb] 54)) (.cells #[.string ⟨#[]⟩,ab 0,ab 0,.string ⟨#[]⟩] 56)
  rwa [World.size_alloc]at h1
 have hb2:W1.heap[w.heap.size+2]?=some (.cells #[.bool false] 4 (0,0)):=by
  rw[<-hW1];have h1:=World.alloc_heap_new ((w.alloc (.cells #[ac tb] 54)).alloc (.cells #[.string ⟨#[]⟩,ab 0,ab 0,.string ⟨#[]⟩] 56)) (.cells #[.bool false] 4)
  rwa [World.size_alloc,World.size_alloc]at h1
 have c0:W1.cell? (af w.heap.size 0)=some (ac tb):=A0 hb0;have c1:W1.cell? (af tb 1)=some (ae gN nN capN):=(HK1.out.cell (by exact htw) (by simp)).trans f1;have HB:Hid (W1.heap[w.heap.size]?=some (.cells #[ac tb] 54 (0,0))/\W1.heap[w.heap.size+1]?=some (.cells #[.string ⟨#[]⟩,ab 0,ab 0,.string ⟨#[]⟩] 56 (0,0))/\W1.heap[w.heap.size+2]?=some (.cells #[.bool false] 4 (0,0))):=hid ⟨hb0,hb1,hb2⟩;clear hb0 hb1 hb2 hW1 hs0 f1
 gi_wp2
 refine wpIn_loop_ghost (fun g a W=>∃(u:Nat->Value) (Ds:List Nat) (n:Nat) (R:Nat->Nat->Int),
   a= {tmps:= #[ac tb,ac w.heap.size,ac (w.heap.size+1),ac (w.heap.size+2),u 4,u 5,u 6,u 7,u 8,u 9,u 10,u 11,u 12,u 13,u 14,ae gN nN capN,ab nN,ab n,u 18,u 19,u 20,u 21,u 22,u 23,u 24,u 25,u 26,u 27,u 28,u 29,u 30,u 31,u 32,u 33,u 34,u 35,u 36,u 37,u 38,u 39,u 40,u 41,u 42,u 43,u 44,u 45,u 46,u 47,u 48,u 49,u 50,u 51,u 52,u 53,u 54,u 55,u 56,u 57,u 58,u 59,u 60,u 61,u 62,u 63,u 64,u 65,u 66,u 67,u 68,u 69,u 70,u 71,u 72,u 73,u 74,u 75,u 76,u 77,u 78,u 79],defers:=UU Ds}/\
   g=nN - n/\n<=nN/\TbV W tb adT N.nT capT gN nN capN kb R E/\A1 w W [tb]/\W.heap[w.heap.size]?=some (.cells #[ac tb] 54 (0,0))/\W.heap[w.heap.size+1]?=some (.cells #[.string ⟨#[]⟩,ab 0,ab 0,.string ⟨#[]⟩] 56 (0,0))/\W.heap[w.heap.size+2]?=some (.cells #[.bool false] 4 (0,0))/\DX w Ds W/\
   ∀m,m<n->∀nm':Nm,pg[m]?=some nm'->∀t,t<21->IY (EX k pg m) nm'.2.length (R m) t) nN ?start ?round
 case start=>
  refine⟨RU #[undef,undef,undef,undef,_,_,_,_,_,_,_,_,_,_,_,undef,undef,undef,_,_,_,_,_,_,_,_,_,_,_,_,_,_,_,_,_,_,_,_,_,_] #[_,_,_,_,_,_,_,_,_,_,_,_,_,_,_,_,_,_,_,_,_,_,_,_,_,_,_,_,_,_,_,_,_,_,_,_,_,_,_,_],[],0,R0,rfl,rfl,Nat.zero_le _,?_,?_,?_,?_,?_,⟨List.nodup_nil,fun D hD=>by cases hD⟩,fun m hm=>by omega⟩
  ·exact HV0.out.keeps HK1.out (by simp)
  ·exact HK1.out.mono (fun q hq=>by cases hq)
  ·exact HB.out.1
  ·exact HB.out.2.1
  ·exact HB.out.2.2
 case round=>
  rintro g a W ⟨u,Ds,n,R,rfl,rfl,hn,hvW,hW,bx0,bx1,bx2,hM,hdone⟩
  by_cases hlt:n<nN
  ·have hnP:n<N.nN:=by rw[<-HNN.out];exact hlt
   obtain⟨nm,hnm⟩:∃nm,pg[n]?=some nm:=⟨_,gE (by rw[H.out.gr.pgl];exact hnP)⟩;have X:Hid (FcM W n₀ tb kb N tws pg adT capT gN capN k):=hid (H.out.tab (S:=[tb]) (fun q hq=>by have:=mS.1 hq;exact⟨by omega,by omega⟩) hW (R:=R) (E:=E) (by rw[<-HNN.out];exact hvW));obtain⟨m0,v,m1,gR,capR,rfl,hgR,hcR,hrl⟩:=X.out.gr.names n nm hnm;have hgN:=X.out.gr.hgN;have HVW:=hid hvW;have HW:Hid (A1 w W [tb]):=hid hW;have HM:Hid (DX w Ds W):=hid hM;have HBX:=hid (And.intro bx0 (And.intro bx1 bx2));have HD:=hid hdone;have HRL:=hid hrl;have HNM:Hid (pg[n]?=some nm):=hid hnm;have c0:W.cell? (af w.heap.size 0)=some (ac tb):=A0 bx0;have hsz:=lt_of_block bx2;have hl0:w.heap.size<W.heap.size:=by omega
   have hl1:w.heap.size+1<W.heap.size:=by omega
   have htW:tb<W.heap.size:=by omega
   obtain⟨nL,hnL⟩:=qF (nm.2.length);rw[<-hnL]at m1 hcR;have HNL:Hid (nL=nm.2.length):=hid hnL;have hgRw:gR<W.heap.size:=by have:=X.out.ln;omega
   have hgNw:gN<W.heap.size:=by have:=X.out.ln;omega
   have hn20:n<20:=by omega
   have hnL60:nL<=60:=by rw[hnL];exact uV H.out.gr hnm
   clear hvW hW hM bx0 bx1 bx2 hdone hrl hnm hnL HB HK1 c1 hnP
   gi_wp2
   have hs1:W.heap.size+1=W.heap.size+1:=rfl;obtain⟨W2,hW2⟩:=qE ((W.alloc (.cells #[.string nm.1,ae gR nL capR] 113)).alloc (.cells #[.pointer (some (af tb (3+n*21)))] 114));rw[hW2];have HK2:Hid (A1 W W2 []):=hid (by rw[<-hW2];exact((A1.refl W []).alloc _).alloc _);have hb5:W2.heap[W.heap.size]?=some (.cells #[.string nm.1,ae gR nL capR] 113 (0,0)):=by
    rw[<-hW2];exact(Below.heap_alloc _ _ _ (by simp)).trans (World.alloc_heap_new W _)
   have hb6:W2.heap[W.heap.size+1]?=some (.cells #[.pointer (some (af tb (3+n*21)))] 114 (0,0)):=by
    rw[<-hW2];have h1:=World.alloc_heap_new (W.alloc (.cells #[.string nm.1,ae gR nL capR] 113)) (.cells #[.pointer (some (af tb (3+n*21)))] 114)
    rwa [World.size_alloc]at h1
   have hsz2:=lt_of_block hb6;have HB56:=hid (And.intro hb5 hb6);have HV2:Hid (TbV W2 tb adT N.nT capT gN nN capN kb R E):=hid (HVW.out.keeps HK2.out (by simp));clear hW2 hb5 hb6 c0 m0 m1
   gi_loopg [27] (21) (fun g i wr=>∃(t:Nat) (R1:Nat->Nat->Int),t+g=21/\i=ab t/\Hid (TbV wr tb adT N.nT capT gN nN capN kb R1 E)/\Hid (A1 W2 wr [tb])/\Hid ((∀u,u<t->R1 n u= -1)/\∀m,m≠n->R1 m=R m))
   case atStart=>exact⟨0,R,by omega,rfl,HV2,A1.refl _ _,hid ⟨fun u hu=>by omega,fun m hm=>rfl⟩⟩
   case round=>
    obtain⟨t,R1,htg,rfl,HV,HKw,HR1⟩:=hrel;have hszr:=HKw.out.size;have c6:wr.cell? (af (W.heap.size+1) 0)=some (.pointer (some (af tb (3+n*21)))):=A0 ((HKw.out.block _ hsz2 y2Z).trans HB56.out.2)
    by_cases hlt2:t<21
    ·have cR:=HV.out.row hn20 hlt2
     have fR:=HV.out.free (3+n*21+t);have HV3:=hid (HV.out.put hn20 hlt2 (-1));have HK3:=hid (HKw.out.setCell (p:=(af tb (3+n*21+t))) (by simp) (ab (-1)))
     gi_wp2
     gi_roundg (20 - t)
     case measure=>omega
     case rel=>
      refine⟨t+1,_,by omega,by go_num,HV3,HK3,hid ⟨fun u hu=>?_,fun m hm=>?_⟩⟩
      ·unfold VY
       by_cases e:u=t
       ·simp[e]
       ·simp only[if_pos,if_neg e]
        exact HR1.out.1 u (by omega)
      ·unfold VY
       simp only[if_neg hm];exact HR1.out.2 m hm
    ·have ht21:t=21:=by omega
     subst ht21;have c5:wr.cell? (af W.heap.size 1)=some (ae gR nL capR):=A0 ((HKw.out.block _ (by omega) y2Z).trans HB56.out.1);have HRow:Hid (∀u,u<21->IY (EX k pg n) 0 (R1 n) u):=hid fun u hu=>pZ (HR1.out.1 u hu)
     gi_wp2
     have HVr:=hid HV.out;have HKr:Hid (A1 W wr [tb]):=hid ((HK2.out.mono (fun q hq=>by cases hq)).trans HKw.out);have HR2:Hid (∀m,m≠n->R1 m=R m):=hid HR1.out.2;have HMr:Hid (DX w Ds wr):=hid (HM.out.keeps HKr.out (fun q hq=>by have:=mS.1 hq;subst this;exact HVW.out.kind));have HB56r:=hid (And.intro ((HKw.out.block _ (by omega) y2Z).trans HB56.out.1) ((HKw.out.block _ hsz2 y2Z).trans HB56.out.2));have hszw:W.heap.size+1<wr.heap.size:=by omega
     clear c5 c6 HV HKw HR1 HV2 HK2 HB56 hszr htg;refine wpIn_loop_ghost (fun g a V=>∃(u:Nat->Value) (Ds:List Nat) (r:Nat) (R2:Nat->Nat->Int),
       a= {tmps:= #[ac tb,ac w.heap.size,ac (w.heap.size+1),ac (w.heap.size+2),ab n,ac W.heap.size,ac (W.heap.size+1),u 7,u 8,u 9,u 10,u 11,u 12,u 13,u 14,ae gN nN capN,ab nN,ab n,u 18,u 19,u 20,u 21,u 22,u 23,u 24,u 25,u 26,u 27,u 28,u 29,u 30,u 31,u 32,u 33,u 34,u 35,ae gR nL capR,ab nL,ab r,u 39,u 40,u 41,u 42,u 43,u 44,u 45,u 46,u 47,u 48,u 49,u 50,u 51,u 52,u 53,u 54,u 55,u 56,u 57,u 58,u 59,u 60,u 61,u 62,u 63,u 64,u 65,u 66,u 67,u 68,u 69,u 70,u 71,u 72,u 73,u 74,u 75,u 76,u 77,u 78,u 79],defers:=UU Ds}/\
       g=nL - r/\r<=nL/\TbV V tb adT N.nT capT gN nN capN kb R2 E/\A1 wr V [tb]/\DX w Ds V/\(∀t,t<21->IY (EX k pg n) r (R2 n) t)/\∀m,m≠n->R2 m=R m) nL ?start2 ?round2
     case start2=>
      exact⟨RU #[undef,undef,undef,undef,undef,undef,undef,_,_,_,_,_,_,_,_,undef,undef,undef,_,_,_,_,_,_,_,_,_,_,_,_,_,_,_,_,_,_,undef,undef,undef,_] #[_,_,_,_,_,_,_,_,_,_,_,_,_,_,_,_,_,_,_,_,_,_,_,_,_,_,_,_,_,_,_,_,_,_,_,_,_,_,_,_],Ds,0,R1,rfl,rfl,Nat.zero_le _,HVr.out,A1.refl _ _,HMr.out,HRow.out,HR2.out⟩
     case round2=>
      rintro g a V ⟨u,Ds,r,R2,rfl,rfl,hr,hvV,hVk,hM,hrow,hoth⟩;have HVV:=hid hvV;have HVk:Hid (A1 wr V [tb]):=hid hVk;have HMV:=hid hM;have HRowV:=hid hrow;have HOth:=hid hoth;have hszV:=hVk.size;clear hvV hVk hM hrow hoth HMr HM
      by_cases hltr:r<nL
      ·obtain⟨ps,hps⟩:∃ps,nm.2[r]?=some ps:=⟨_,gE (by rw[<-HNL.out];exact hltr)⟩
       have hKwV:A1 w V [tb]:=HW.out.trans (HKr.out.trans HVk.out);have hl0V:w.heap.size<V.heap.size:=by omega
       have XV:Hid (FcM V n₀ tb kb N tws pg adT capT gN capN k):=hid (H.out.tab (S:=[tb]) (fun q hq=>by have:=mS.1 hq;exact⟨by omega,by omega⟩) hKwV (R:=R2) (E:=E) (by rw[<-HNN.out];exact HVV.out));have hKWV:A1 W V [tb]:=HKr.out.trans HVk.out;have k0:=(hKWV.block _ hl0 y2Z).trans HBX.out.1;have c0:V.cell? (af w.heap.size 0)=some (ac tb):=A0 k0;obtain⟨hl8,hpk⟩:=HL.out n nm r ps HNM.out hps;have hnP:n<N.nN:=by rw[<-HNN.out];exact hlt
       have hsp:=RQ k HNM.out hps;have CS:=ZL (V.alloc (.cells #[ab (r:Int)] 3)).drew n₀ tb kb N tws pg adT capT gN capN k (XV.out.below (bdr (bal (Below.refl _ _)))) HF.out.1 HF.out.2 n r nm ps HNM.out hnP hps hpk hl8;rw[<-hsp]at CS;have hss21:EX k pg n r<2 ^21:=by rw[hsp];exact QY H.out.gr.leT HF.out.1 hpk (HF.out.2 n)
       obtain⟨ss,hss⟩:=qE (EX k pg n r);rw[hss]at CS hss21;have HSS:Hid (EX k pg n r=ss):=hid hss;have HPS:Hid (nm.2[r]?=some ps):=hid hps;have HKwV:=hid hKwV;have HKWV:=hid hKWV;clear hKwV hKWV hpk hps hsp hss
       gi_wp2
       obtain⟨V1,hV1⟩:=qE (V.alloc (.cells #[ab (r:Int)] 3));rw[hV1]at CS ⊢;have HCS:=hid CS;have HKV1:Hid (A1 V V1 []):=hid (by rw[<-hV1];exact(A1.refl V []).alloc _);have hb8:V1.heap[V.heap.size]?=some (.cells #[ab (r:Int)] 3 (0,0)):=by rw[<-hV1];exact World.alloc_heap_new V _
       have d0:V1.cell? (af w.heap.size 0)=some (ac tb):=(HKV1.out.cell (by exact hl0V) (by simp)).trans c0;have d8:V1.cell? (af V.heap.size 0)=some (ab (r:Int)):=A0 hb8;have hszV1:=lt_of_block hb8;have HB8:=hid hb8;clear CS hV1 c0 k0 hb8;refine K7 ((wpIn_wide (n:=4)).2 ?_);refine wp_region_held_drew (S:=fun w'=>(w'.cell? (af w.heap.size 0)=some (ac tb)/\w'.cell? (af V.heap.size 0)=some (ab (r:Int)))/\A1 V1 w' []) y1Z ⟨⟨d0,d8⟩,(A1.refl _ _).drew⟩ (fun hH=>?_);refine tB 0 hH ?_;refine tB 1 hH ?_;refine tB 2 hH ?_;refine tB 3 hH ?_;refine tB 4 hH ?_;refine tL ?_;refine tS 5 fun K hK=>?_
       refine tM ?_
       go_simp;refine HCS.out.mono ?_;rintro e w5 ⟨rfl,hb5⟩;try dsimp only
       refine hK.out _ _ ?_ fun hH=>?_
       ·exact⟨⟨(hb5.cell (by show w.heap.size<V1.heap.size;omega)).trans hH.1.1,(hb5.cell (by exact hszV1)).trans hH.1.2⟩,hH.2.trans (A1.of_below hb5 [])⟩
       clear hK K;refine tL ?_;refine tS 6 fun K hK=>?_
       refine tM ?_
       go_simp;refine((callsIn_wide (n:=4)).1 (YS Fence.wide 4 trivial rfl _ _)).mono ?_;rintro e w6 ⟨rfl,rfl⟩;try dsimp only
       refine hK.out _ _ ?_ fun hH=>?_
       ·exact⟨⟨A2 _ hH.1.1,A2 _ hH.1.2⟩,hH.2.alloc _⟩
       clear hK K;refine tL ?_;refine wpAnyH_done y1Z ?_ _;have HKV5:=hid hH.2;obtain⟨V2,hV2⟩:=qE (w5.alloc (.cells #[.int .u32 (ss:Int)] 118));have bS:V2.cell? (af w5.heap.size 0)=some (.int .u32 (ss:Int)):=by rw[<-hV2];exact GJ w5 _ _
       have hV2s:w5.heap.size<V2.heap.size:=by rw[<-hV2,World.size_alloc];omega
       rw[hV2]at HKV5 ⊢;clear hH hb5 hV2 d0 d8;refine F3 (Q:=fun _ _ _=>False) ?_
       gi_wp2
       have HKwr:Hid (A1 wr V2 [tb]):=hid (HVk.out.trans ((HKV1.out.trans HKV5.out).mono (fun q hq=>by cases hq)));have HKw2:Hid (A1 w V2 [tb]):=hid (HKwV.out.trans ((HKV1.out.trans HKV5.out).mono (fun q hq=>by cases hq)));have hszV5:=HKV5.out.size;have HB8V:Hid (V2.heap[V.heap.size]?=some (.cells #[ab (r:Int)] 3 (0,0))):=hid ((HKV5.out.block _ hszV1 (by simp)).trans HB8.out);have HVV2:Hid (TbV V2 tb adT N.nT capT gN nN capN kb R2 E):=hid ((HVV.out.keeps HKV1.out (by simp)).keeps HKV5.out (by simp));have HMV2:Hid (DX w Ds V2):=hid ((HMV.out.keeps HKV1.out (fun q hq=>by cases hq)).keeps HKV5.out (fun q hq=>by cases hq));have HTV2:Hid (TabAt 0 Lib.deBruijn32tab V2):=hid (fun j hj=>(HKw2.out.cell (by show 0<w.heap.size;omega) y2Z).trans (HT.out j hj));have hszw2:w.heap.size+2<V2.heap.size:=by omega
       have hszW2:W.heap.size+1<V2.heap.size:=by omega
       clear HKV1 HKV5 HB8 HVV HMV HVr;refine wpIn_rangeFunc_ownG (F:=Fence.wide) rfl (by omega) (gf:=74) (lb:= #[ac w5.heap.size]) rfl trivial (enters_of Tryz.func74 y1Z rfl)
        (YG 3 (by omega) w5.heap.size n₀ ss hss21 h0 V2 hV2s HTV2.out bS) belowK_t (belowK_b (by omega)) (Below.refl _ _) (fun _=>rfl)
        (fun(pre:List (TI ss)) V'=>∃R3,TbV V' tb adT N.nT capT gN nN capN kb R3 E/\A1 V2 V' [tb]/\(∀t,t<21->T8 (EX k pg n) r (pre.map (·.1)) (R3 n) t)/\∀m,m≠n->R3 m=R m)
        (fun c (pre:List (TI ss)) V'=>c=.exit 0/\∃(R3:Nat->Nat->Int) (pre0:List Nat) (x:Nat),TbV V' tb adT N.nT capT gN nN capN kb R3 E/\A1 V2 V' [tb,w.heap.size+1,w.heap.size+2]/\V'.heap[w.heap.size+1]?=some (.cells #[.string nm.1,ab (R3 n x),ab (r:Int),.string (CX tws N.nT x)] 56 (0,0))/\V'.heap[w.heap.size+2]?=some (.cells #[.bool true] 4 (0,0))/\pre.map (·.1)=pre0++ [x]/\x∈B1 ss/\(∀t,t<21->T8 (EX k pg n) r pre0 (R3 n) t)/\R3 n x≠ -1/\∀m,m≠n->R3 m=R m)
        ?own ?ownx ⟨R2,HVV2.out,A1.refl _ _,fun t ht=>nC (HRowV.out t ht),HOth.out⟩
        (fun x=>{tmps:= #[ac tb,ac w.heap.size,ac (w.heap.size+1),ac (w.heap.size+2),ab n,ac W.heap.size,ac (W.heap.size+1),u 7,ac V.heap.size,ab (x.1:Int),u 10,u 11,u 12,u 13,u 14,ae gN nN capN,ab nN,ab n,u 18,u 19,u 20,u 21,u 22,u 23,u 24,u 25,u 26,u 27,u 28,u 29,u 30,u 31,u 32,u 33,u 34,u 35,ae gR nL capR,ab nL,ab r,.bool true,ab r,ac tb,ac tb,ac tb,ab n,ab r,.int .u32 ss,.func (.func 74) #[] #[ac w5.heap.size],ab (x.1:Int),u 49,u 50,u 51,u 52,u 53,u 54,u 55,u 56,u 57,u 58,u 59,u 60,u 61,u 62,u 63,u 64,u 65,u 66,u 67,u 68,u 69,u 70,u 71,u 72,u 73,u 74,u 75,u 76,u 77,u 78,u 79],defers:=[]}) ?assign ?body ?done ?stop
       case assign=>
        intro l x V' K hK;simp only[jT]
        gi_wp2
        exact hK
       case own=>
        rintro pre A B row ⟨R3,h1,h2,h3,h4⟩ hg hrw;have hk:A1 A B row.toList:=(A1.refl A row.toList).grown hg (fun q e=>.inl y27Z);exact⟨R3,h1.keeps hk (fun hm=>by obtain⟨o,ho,hc⟩:=(hrw tb y59Z).2;obtain⟨c,e,f,hx⟩:=h1.kind;rw[hx]at ho;cases ho;cases hc),h2.grown hg (fun q e=>.inr (hrw q e).1),h3,h4⟩
       case ownx=>
        rintro c pre A B row ⟨rfl,R3,pre0,x,h1,h2,h3,h4,h5⟩ hg hrw;have hk:A1 A B row.toList:=(A1.refl A row.toList).grown hg (fun q e=>.inl y27Z);have hno:∀(q:Nat) (cs:Array Value) (e:Nat) (f:Nat × Nat),A.heap[q]?=some (.cells cs e f)->q∉row.toList:=fun q cs e f hq hm=>by obtain⟨o,ho,hc⟩:=(hrw q y59Z).2;rw[hq]at ho;cases ho;cases hc
        refine⟨rfl,R3,pre0,x,h1.keeps hk (fun hm=>by obtain⟨cs,e,f,hx⟩:=h1.kind;exact hno _ _ _ _ hx hm),h2.grown hg (fun q e=>.inr (hrw q e).1),?_,?_,h5⟩
        ·exact(hk.block _ (lt_of_block h3) (hno _ _ _ _ h3)).trans h3
        ·exact(hk.block _ (lt_of_block h4) (hno _ _ _ _ h4)).trans h4
       case stop=>
        rintro D c pre V' hD ⟨rest,hrest⟩ ⟨rfl,R3,pre0,x,h1,h2,h3,h4,h5,h6,h7,h8,h9⟩ hd;obtain⟨hx21,_⟩:=S0 h6;have hnd:=iZ ss;rw[hrest,h5]at hnd;have hxn:x∉pre0:=fun hm=>(List.nodup_append.1 (List.nodup_append.1 hnd).1).2.2 x hm x (by simp) rfl
        obtain⟨q,hq,hR,hbq⟩:=o2 (h7 x hx21) hxn h8;rw[hR]at h3;have HX:Hid (q<r/\(EX k pg n q).testBit x=true):=hid ⟨hq,hbq⟩;have HX6:Hid (x∈B1 ss):=hid h6;have HX9:=hid h9;have HXV:=hid h1;have HXK:Hid (A1 w V' [tb]):=hid (HKw2.out.trans' h2 (fun q hq=>by simp only[List.mem_cons,List.not_mem_nil,or_false]at hq ⊢;omega));have HXM:Hid (DX w (D::Ds) V'):=hid (HMV2.out.cons (HMV2.out.keeps h2 (fun q hq=>by simp only[List.mem_cons,List.not_mem_nil,or_false]at hq;rcases hq with rfl |rfl |rfl;exact HVV2.out.kind;exact⟨_,_,_,((HKr.out.trans HKwr.out).block _ hl1 y2Z).trans HBX.out.2.1⟩;exact⟨_,_,_,((HKr.out.trans HKwr.out).block _ hsz y2Z).trans HBX.out.2.2⟩)) (by omega) hD hd);have hcb:=h3;have hfbx:=h4;clear hnd hrest hxn hq hbq hR h1 h2 h3 h4 h5 h6 h7 h8 h9 hd;have g0:V'.cell? (af (w.heap.size+1) 0)=some (.string nm.1):=A0 hcb;have g1:V'.cell? (af (w.heap.size+1) 1)=some (ab (q:Int)):=A0 hcb
        have g2:V'.cell? (af (w.heap.size+1) 2)=some (ab (r:Int)):=A0 hcb;have g3:V'.cell? (af (w.heap.size+1) 3)=some (.string (CX tws N.nT x)):=A0 hcb;have g4:V'.cell? (af (w.heap.size+2) 0)=some (.bool true):=A0 hfbx;have q0:V'.frozen? (af (w.heap.size+1) 0)=false:=A3 hcb;have q1:V'.frozen? (af (w.heap.size+1) 1)=false:=A3 hcb;have q2:V'.frozen? (af (w.heap.size+1) 2)=false:=A3 hcb;have q3:V'.frozen? (af (w.heap.size+1) 3)=false:=A3 hcb;have q4:V'.frozen? (af (w.heap.size+2) 0)=false:=A3 hfbx;have hl5:w.heap.size+1<V'.heap.size:=lt_of_block hcb;have hl6:w.heap.size+2<V'.heap.size:=lt_of_block hfbx;have HCB:Hid (IX V' (w.heap.size+1) (w.heap.size+2) (.string nm.1) (ab (q:Int)) (ab (r:Int)) (.string (CX tws N.nT x)) (.bool true)):=hid (And.intro hcb hfbx);clear hcb hfbx
        gi_wp2
        refine K7 ((wpIn_wide (n:=4)).2 ?_);refine wp_region_held_drew (S:=fun w'=>Hid (IX w' (w.heap.size+1) (w.heap.size+2) (.string nm.1) (ab (q:Int)) (ab (r:Int)) (.string (CX tws N.nT x)) (.bool true)/\A1 V' w' [w.heap.size+1,w.heap.size+2])/\(w'.cell? (af (w.heap.size+1) 0)=some (.string nm.1)/\w'.cell? (af (w.heap.size+1) 1)=some (ab (q:Int))/\w'.cell? (af (w.heap.size+1) 2)=some (ab (r:Int))/\w'.cell? (af (w.heap.size+1) 3)=some (.string (CX tws N.nT x))/\w'.cell? (af (w.heap.size+2) 0)=some (.bool true))) y1Z ⟨hid ⟨HCB.out,(A1.refl _ _).drew⟩,g0,g1,g2,g3,g4⟩ (fun hH=>?_);refine tB 0 hH ?_;refine tB 1 hH ?_;refine tL ?_;refine tS 2 fun K hK=>?_
        refine tM ?_;go_simp;refine hK.out _ _ ?_ fun hH=>?_
        ·exact NC (hH.1.out.1.same.1) ((((hH.1.out.2.setCell (by simp) _).setCell (by simp) _).setCell (by simp) _).setCell (by simp) _)
        clear hK K;refine tL ?_;refine tS 3 fun K hK=>?_
        refine tM ?_;go_simp;refine hK.out _ _ ?_ fun hH=>?_
        ·exact NC (hH.1.out.1.same.2) (hH.1.out.2.setCell (by simp) _)
        clear hK K;refine tL ?_;refine wpAnyH_done y1Z ?_ _;have HEnd:=hid hH.1.out;clear hH g0 g1 g2 g3 g4 q0 q1 q2 q3 q4;refine F3 (Q:=fun _ _ _=>False) ?_
        gi_wp2
        obtain⟨W3,hW3⟩:=qF ((((((V'.setCell (af (w.heap.size+1) 0) (.string nm.1)).setCell (af (w.heap.size+1) 1) (ab (q:Int))).setCell (af (w.heap.size+1) 2) (ab (r:Int))).setCell (af (w.heap.size+1) 3) (.string (CX tws N.nT x))).setCell (af (w.heap.size+2) 0) (.bool true)).drew);rw[<-hW3];have hO:IX W3 (w.heap.size+1) (w.heap.size+2) (.string nm.1) (ab (q:Int)) (ab (r:Int)) (.string (CX tws N.nT x)) (.bool true):=by rw[hW3];exact HCB.out.same.1.same.2
        have hK3:A1 V' W3 [w.heap.size+1,w.heap.size+2]:=by rw[hW3];exact((((((A1.refl V' _).setCell (by simp) _).setCell (by simp) _).setCell (by simp) _).setCell (by simp) _).setCell (by simp) _).drew
        clear hW3;refine KJ w.heap.size (fun w'=>A1 w w' [tb]/\TbV w' tb adT N.nT capT gN nN capN kb R3 E/\IX w' (w.heap.size+1) (w.heap.size+2) (.string nm.1) (ab (q:Int)) (ab (r:Int)) (.string (CX tws N.nT x)) (.bool true)) ?_ ?_ (D::Ds) _ ⟨?_,?_,hO⟩ ?_ ?_
        ·exact Mz28
        ·rintro w' ⟨h1,h2,h3⟩
         have c4:w'.cell? (af (w.heap.size+2) 0)=some (.bool true):=A0 h3.2;refine⟨_,Q8 (p:=2) (q:=3) (ty:=56) (ty2:=4) rfl _ _ (w.heap.size+1) (w.heap.size+2) _ _ _ _ (.bool true) rfl h3.1 Tryz.underlying56 rfl y1Z rfl (by go_simp),R3,h2,h1,.inl ⟨n,q,r,x,nm,rfl,HNM.out,HX.out.1,by rw[<-HNL.out];exact hltr,HBt.out n nm r HNM.out (by rw[<-HNL.out];exact hltr) x (by rw[HSS.out];exact HX6.out),HX.out.2,by rw[HSS.out];exact(S0 HX6.out).2,fun m hm nm2 hm2 t ht=>by rw[HX9.out m (by omega)];exact HD.out m hm nm2 hm2 t ht⟩⟩
        ·exact HXK.out.trans' hK3 (fun q hq=>by simp only[List.mem_cons,List.not_mem_nil,or_false]at hq ⊢;omega)
        ·exact HXV.out.keeps hK3 y26Z
        ·exact(HXM.out.keeps hK3 (fun q hq=>by simp only[List.mem_cons,List.not_mem_nil,or_false]at hq;rcases hq with rfl |rfl;exact⟨_,_,_,HCB.out.1⟩;exact⟨_,_,_,HCB.out.2⟩)).1
        ·exact(HXM.out.keeps hK3 (fun q hq=>by simp only[List.mem_cons,List.not_mem_nil,or_false]at hq;rcases hq with rfl |rfl;exact⟨_,_,_,HCB.out.1⟩;exact⟨_,_,_,HCB.out.2⟩)).2
       case done=>
        rintro D ys V' hD hys ⟨R3,h1,h2,h3,h4⟩ hd;rw[hys,<-HSS.out]at h3;have hrow':∀t,t<21->IY (EX k pg n) (r+1) (R3 n) t:=fun t ht=>p9 ht (h3 t ht)
        have HE1:=hid h1;have HE2:Hid (A1 wr V' [tb]):=hid (HKwr.out.trans h2);have HE3:=hid hrow';have HE4:=hid h4;have HE5:Hid (DX w (D::Ds) V'):=hid (HMV2.out.cons (HMV2.out.keeps h2 (fun q hq=>by have:=mS.1 hq;subst this;exact HVV2.out.kind)) (by omega) hD hd);clear h1 h2 h3 h4 hrow' hd
        gi_wp2
        refine⟨nL - (r+1),by omega,RU #[undef,undef,undef,undef,undef,undef,undef,_,_,_,_,_,_,_,_,undef,undef,undef,_,_,_,_,_,_,_,_,_,_,_,_,_,_,_,_,_,_,undef,undef,undef,_] #[_,_,_,_,_,_,_,_,_,_,_,_,_,_,_,_,_,_,_,_,_,_,_,_,_,_,_,_,_,_,_,_,_,_,_,_,_,_,_,_],D::Ds,r+1,R3,rfl,rfl,by omega,HE1.out,HE2.out,HE5.out,HE3.out,HE4.out⟩
       case body=>
        rintro l pre ⟨x,hx⟩ V' ⟨R3,h1,h2,h3,h4⟩ _;simp only at hx ⊢;obtain⟨hx21,hxb⟩:=S0 hx;have hx3:(x:Int)<21:=by omega
        have hKr':A1 wr V' [tb]:=HKwr.out.trans h2;have hszV':=h2.size;have c6:V'.cell? (af (W.heap.size+1) 0)=some (.pointer (some (af tb (3+n*21)))):=A0 ((hKr'.block _ hszw y2Z).trans HB56r.out.2);have cR:=h1.row hn20 hx21;have fR:=h1.free (3+n*21+x);have b8:=(h2.block V.heap.size (lt_of_block HB8V.out) y2Z).trans HB8V.out;have c8:V'.cell? (af V.heap.size 0)=some (ab (r:Int)):=A0 b8;have hl6:W.heap.size+1<V'.heap.size:=by omega
        have hl8V:V.heap.size<V'.heap.size:=lt_of_block b8;have HKV':Hid (A1 V2 V' [tb]):=hid h2;have HTV':=hid h1;have HMI:=hid h3;have HOt:=hid h4;have HXB:Hid (x∈B1 ss):=hid hx;obtain⟨z,hz⟩:=qE (R3 n x);rw[hz]at cR;have HZ:Hid (R3 n x=z):=hid hz;clear h1 h2 h3 h4 hz hKr' b8 hxb
        by_cases hz1:z= -1
        ·subst hz1
         gi_wp2
         refine C3 (S:=fun w'=>w'.cell? (af (W.heap.size+1) 0)=some (.pointer (some (af tb (3+n*21))))/\w'.cell? (af V.heap.size 0)=some (ab (r:Int))) hmx y1Z y9Z y1Z ⟨c6,c8⟩ (fun hH=>?_);simp only[AC,BM,AO];refine tB 0 hH ?_;refine tB 1 hH ?_;refine tB 2 hH ?_;refine tB 3 hH ?_;refine tB 4 hH ?_;refine tB 5 hH ?_;refine tL ?_;refine wpAnyH_done y1Z ?_ _;clear hH;have HV4:=hid (HTV'.out.put hn20 hx21 (r:Int));have hK4:A1 V' (V'.setCell (af tb (3+n*21+x)) (ab (r:Int))) [tb]:=(A1.refl _ _).setCell (by simp) _;have HK4:=hid hK4;clear hK4;show wpList _ _ _ _ _ _;go_wp2;refine⟨KeepsFrom.of_keeps (S:=[tb]) HK4.out.drew (fun q h=>by have:=mS.1 h;omega),HK4.out.drew.below (by omega) (fun q h=>by have:=mS.1 h;omega),_,HV4.out.block rfl,HKV'.out.trans HK4.out.drew,?_,?_⟩
         ·intro t ht
          have h5:=rC HMI.out hx21 (by rw[HSS.out];exact(S0 HXB.out).2) HZ.out t ht;rw[List.map_append];unfold VY;simp only[if_pos];exact h5
         ·intro m hm
          unfold VY;simp only[if_neg hm];exact HOt.out m hm
        ·have hne:(z== -1)=false:=by simpa using hz1
         have hszr:=HKV'.out.size;have kwr:A1 wr V' [tb]:=HKwr.out.trans HKV'.out;have kww:A1 w V' [tb]:=HKw2.out.trans HKV'.out;have kWW:A1 W V' [tb]:=HKr.out.trans kwr;have cN:V'.cell? (af W.heap.size 0)=some (.string nm.1):=A0 ((kwr.block _ (by omega) y2Z).trans HB56r.out.1);have cB:V'.cell? (af w.heap.size 0)=some (ac tb):=A0 ((kWW.block _ hl0 y2Z).trans HBX.out.1);have hcb:=(kWW.block _ hl1 y2Z).trans HBX.out.2.1;have hfx:=(kWW.block _ hsz y2Z).trans HBX.out.2.2;obtain⟨cT0,cT1,_⟩:=HTV'.out.heads;have HPW:PGr V'.drew n₀ N tws pg adT capT gN capN:=(H.out.gr.below (kww.below H.out.ln (fun q h=>by have:=mS.1 h;omega))).below ⟨rfl,rfl,rfl,lR_ _,fun _ _=>rfl⟩;have hxT:x<=N.nT:=HBt.out n nm r HNM.out (by rw[<-HNL.out];exact hltr) x (by rw[HSS.out];exact HXB.out);have HCW:=hid (PE V'.drew n₀ N tws pg adT capT gN capN HPW (by show n₀<=V'.heap.size;omega) x hxT)
         rw[<-HNN.out]at HCW;have HCF:=hid (And.intro hcb hfx);have hl0V':w.heap.size<V'.heap.size:=by omega
         have hlWV':W.heap.size<V'.heap.size:=by omega
         have htV':tb<V'.heap.size:=by omega
         clear HPW hxT kwr kww kWW hcb hfx
         gi_wp2
         refine C3 (S:=fun w'=>(w'.cell? (af W.heap.size 0)=some (.string nm.1)/\w'.cell? (af (W.heap.size+1) 0)=some (.pointer (some (af tb (3+n*21))))/\w'.cell? (af tb (3+n*21+x))=some (ab z)/\w'.cell? (af V.heap.size 0)=some (ab (r:Int))/\w'.cell? (af w.heap.size 0)=some (ac tb)/\w'.cell? (af tb 0)=some (.slice adT N.nT capT)/\w'.cell? (af tb 1)=some (ae gN nN capN))/\A1 V' w' []) hmx y1Z y9Z y1Z ⟨⟨cN,c6,cR,c8,cB,cT0,cT1⟩,(A1.refl _ _).drew⟩ (fun hH=>?_);simp only[AC,BM,AO];refine tB 0 hH ?_;refine tB 1 hH ?_;refine tB 2 hH ?_;refine tB 3 hH ?_;refine tB 4 hH ?_;refine tB 5 hH ?_;refine tB 6 hH ?_;refine tB 7 hH ?_;refine tB 8 hH ?_;refine tB 9 hH ?_;refine tB 10 hH ?_;refine tB 11 hH ?_;refine tB 12 hH ?_;refine tB 13 hH ?_;refine tL ?_;refine tS 14 fun K hK=>?_
         refine tM ?_
         go_simp;refine HCW.out.mono ?_;rintro e w6 ⟨rfl,hb6⟩;try dsimp only
         refine hK.out _ _ ?_ fun hH=>?_
         ·exact⟨⟨(hb6.cell (by exact hlWV')).trans hH.1.1,(hb6.cell (by exact hl6)).trans hH.1.2.1,(hb6.cell (by exact htV')).trans hH.1.2.2.1,(hb6.cell (by exact hl8V)).trans hH.1.2.2.2.1,(hb6.cell (by exact hl0V')).trans hH.1.2.2.2.2.1,(hb6.cell (by exact htV')).trans hH.1.2.2.2.2.2.1,(hb6.cell (by exact htV')).trans hH.1.2.2.2.2.2.2⟩,hH.2.trans (A1.of_below hb6 [])⟩
         clear hK K;refine tB 15 hH ?_;refine tB 16 hH ?_;refine tL ?_;refine wpAnyH_done y1Z ?_ _;have HK6:=hid hH.2;have hs6:=hH.2.size;clear hH hb6 HCW;have hcb:=(HK6.out.block _ (lt_of_block HCF.out.1) (by simp)).trans HCF.out.1;have hfx:=(HK6.out.block _ (lt_of_block HCF.out.2) (by simp)).trans HCF.out.2;have g0:w6.cell? (af (w.heap.size+1) 0)=some (.string ⟨#[]⟩):=A0 hcb;have g1:w6.cell? (af (w.heap.size+1) 1)=some (ab 0):=A0 hcb;have g2:w6.cell? (af (w.heap.size+1) 2)=some (ab 0):=A0 hcb;have g3:w6.cell? (af (w.heap.size+1) 3)=some (.string ⟨#[]⟩):=A0 hcb;have g4:w6.cell? (af (w.heap.size+2) 0)=some (.bool false):=A0 hfx;have q0:w6.frozen? (af (w.heap.size+1) 0)=false:=A3 hcb;have q1:w6.frozen? (af (w.heap.size+1) 1)=false:=A3 hcb;have q2:w6.frozen? (af (w.heap.size+1) 2)=false:=A3 hcb;have q3:w6.frozen? (af (w.heap.size+1) 3)=false:=A3 hcb;have q4:w6.frozen? (af (w.heap.size+2) 0)=false:=A3 hfx
         have hl5:w.heap.size+1<w6.heap.size:=lt_of_block hcb;have hl7:w.heap.size+2<w6.heap.size:=lt_of_block hfx;have HC6:Hid (IX w6 (w.heap.size+1) (w.heap.size+2) (.string ⟨#[]⟩) (ab 0) (ab 0) (.string ⟨#[]⟩) (.bool false)):=hid ⟨hcb,hfx⟩;clear hcb hfx;show wpList _ _ _ _ _ _;go_wp2
         gi_wp2
         have hO:IX (((((w6.setCell (af (w.heap.size+1) 0) (.string nm.1)).setCell (af (w.heap.size+1) 1) (ab z)).setCell (af (w.heap.size+1) 2) (ab (r:Int))).setCell (af (w.heap.size+1) 3) (.string (CX tws N.nT x))).setCell (af (w.heap.size+2) 0) (.bool true)) (w.heap.size+1) (w.heap.size+2) (.string nm.1) (ab z) (ab (r:Int)) (.string (CX tws N.nT x)) (.bool true):=rF HC6.out _ _ _ _ _;have hK7:A1 w6 (((((w6.setCell (af (w.heap.size+1) 0) (.string nm.1)).setCell (af (w.heap.size+1) 1) (ab z)).setCell (af (w.heap.size+1) 2) (ab (r:Int))).setCell (af (w.heap.size+1) 3) (.string (CX tws N.nT x))).setCell (af (w.heap.size+2) 0) (.bool true)) [w.heap.size+1,w.heap.size+2]:=(((((A1.refl w6 _).setCell (by simp) _).setCell (by simp) _).setCell (by simp) _).setCell (by simp) _).setCell (by simp) _;have hK8:=(HK6.out.mono (T:=[w.heap.size+1,w.heap.size+2]) (fun q hq=>by cases hq)).trans hK7;refine⟨KeepsFrom.of_keeps (S:=[w.heap.size+1,w.heap.size+2]) hK8 (fun q h=>by simp only[List.mem_cons,List.not_mem_nil,or_false]at h;omega),rfl,R3,pre.map (·.1),x,HTV'.out.keeps hK8 y26Z,(HKV'.out.mono (fun q hq=>by simp only[List.mem_cons,List.not_mem_nil,or_false]at hq ⊢;exact .inl hq)).trans (hK8.mono (fun q hq=>List.mem_cons_of_mem _ hq)),?_,hO.2,by simp,HXB.out,HMI.out,by rw[HZ.out];exact hz1,HOt.out⟩
         rw[HZ.out];exact hO.1
      ·have hrn:r=nL:=by omega
       subst hrn;have hKWV:A1 W V [tb]:=HKr.out.trans HVk.out;have HE0:=hid ((hKWV.block _ hl0 y2Z).trans HBX.out.1);have HE1:=hid ((hKWV.block _ hl1 y2Z).trans HBX.out.2.1);have HE2:=hid ((hKWV.block _ hsz y2Z).trans HBX.out.2.2);have HE3:Hid (A1 w V [tb]):=hid (HW.out.trans hKWV);have HE4:Hid (∀m,m<n+1->∀nm':Nm,pg[m]?=some nm'->∀t,t<21->IY (EX k pg m) nm'.2.length (R2 m) t):=hid (fun m hm nm' hm' t ht=>by
        by_cases e:m=n
        ·subst e
         rw[HNM.out]at hm';injection hm' with hm'
         subst hm';rw[<-HNL.out];exact HRowV.out t ht
        ·rw[HOth.out m e]
         exact HD.out m (by omega) nm' hm' t ht)
       clear hKWV
       gi_wp2
       refine⟨nN - (n+1),by omega,RU #[undef,undef,undef,undef,_,_,_,_,_,_,_,_,_,_,_,undef,undef,undef,_,_,_,_,_,_,_,_,_,_,_,_,_,_,_,_,_,_,_,_,_,_] #[_,_,_,_,_,_,_,_,_,_,_,_,_,_,_,_,_,_,_,_,_,_,_,_,_,_,_,_,_,_,_,_,_,_,_,_,_,_,_,_],Ds,n+1,R2,rfl,rfl,by omega,HVV.out,HE3.out,HE0.out,HE1.out,HE2.out,HMV.out,HE4.out⟩
  ·have hnn:n=nN:=by omega
   subst hnn;have HVW:=hid hvW;have HWK:Hid (A1 w W [tb]):=hid hW;have HM:Hid (DX w Ds W):=hid hM;have HD:=hid hdone;have hcb:=bx1;have hfbx:=bx2;clear hvW hW hM hdone bx0 bx1 bx2;have g0:W.cell? (af (w.heap.size+1) 0)=some (.string ⟨#[]⟩):=A0 hcb;have g1:W.cell? (af (w.heap.size+1) 1)=some (ab 0):=A0 hcb;have g2:W.cell? (af (w.heap.size+1) 2)=some (ab 0):=A0 hcb;have g3:W.cell? (af (w.heap.size+1) 3)=some (.string ⟨#[]⟩):=A0 hcb;have g4:W.cell? (af (w.heap.size+2) 0)=some (.bool false):=A0 hfbx;have q0:W.frozen? (af (w.heap.size+1) 0)=false:=A3 hcb;have q1:W.frozen? (af (w.heap.size+1) 1)=false:=A3 hcb;have q2:W.frozen? (af (w.heap.size+1) 2)=false:=A3 hcb;have q3:W.frozen? (af (w.heap.size+1) 3)=false:=A3 hcb;have q4:W.frozen? (af (w.heap.size+2) 0)=false:=A3 hfbx;have hl5:w.heap.size+1<W.heap.size:=lt_of_block hcb;have hl6:w.heap.size+2<W.heap.size:=lt_of_block hfbx;have HCB:Hid (IX W (w.heap.size+1) (w.heap.size+2) (.string ⟨#[]⟩) (ab 0) (ab 0) (.string ⟨#[]⟩) (.bool false)):=hid (And.intro hcb hfbx)
   clear hcb hfbx
   gi_wp2
   refine K7 ((wpIn_wide (n:=4)).2 ?_);refine wp_region_held_drew (S:=fun w'=>Hid (IX w' (w.heap.size+1) (w.heap.size+2) (.string ⟨#[]⟩) (ab 0) (ab 0) (.string ⟨#[]⟩) (.bool false)/\A1 W w' [w.heap.size+1,w.heap.size+2])/\(w'.cell? (af (w.heap.size+1) 0)=some (.string ⟨#[]⟩)/\w'.cell? (af (w.heap.size+1) 1)=some (ab 0)/\w'.cell? (af (w.heap.size+1) 2)=some (ab 0)/\w'.cell? (af (w.heap.size+1) 3)=some (.string ⟨#[]⟩)/\w'.cell? (af (w.heap.size+2) 0)=some (.bool false))) y1Z ⟨hid ⟨HCB.out,(A1.refl _ _).drew⟩,g0,g1,g2,g3,g4⟩ (fun hH=>?_);refine tB 0 hH ?_;refine tB 1 hH ?_;refine tL ?_;refine tS 2 fun K hK=>?_
   refine tM ?_;go_simp;refine hK.out _ _ ?_ fun hH=>?_
   ·exact NC (hH.1.out.1.same.1) ((((hH.1.out.2.setCell (by simp) _).setCell (by simp) _).setCell (by simp) _).setCell (by simp) _)
   clear hK K;refine tL ?_;refine tS 3 fun K hK=>?_
   refine tM ?_;go_simp;refine hK.out _ _ ?_ fun hH=>?_
   ·exact NC (hH.1.out.1.same.2) (hH.1.out.2.setCell (by simp) _)
   clear hK K;refine tL ?_;refine wpAnyH_done y1Z ?_ _;have HEnd:=hid hH.1.out;clear hH g0 g1 g2 g3 g4 q0 q1 q2 q3 q4;refine F3 (Q:=fun _ _ _=>False) ?_
   gi_wp2
   obtain⟨W3,hW3⟩:=qF ((((((W.setCell (af (w.heap.size+1) 0) (.string ⟨#[]⟩)).setCell (af (w.heap.size+1) 1) (ab 0)).setCell (af (w.heap.size+1) 2) (ab 0)).setCell (af (w.heap.size+1) 3) (.string ⟨#[]⟩)).setCell (af (w.heap.size+2) 0) (.bool false)).drew);rw[<-hW3];have hO:IX W3 (w.heap.size+1) (w.heap.size+2) (.string ⟨#[]⟩) (ab 0) (ab 0) (.string ⟨#[]⟩) (.bool false):=by rw[hW3];exact HCB.out.same.1.same.2
   have hK3:A1 W W3 [w.heap.size+1,w.heap.size+2]:=by rw[hW3];exact((((((A1.refl W _).setCell (by simp) _).setCell (by simp) _).setCell (by simp) _).setCell (by simp) _).setCell (by simp) _).drew
   clear hW3;refine KJ w.heap.size (fun w'=>A1 w w' [tb]/\TbV w' tb adT N.nT capT gN n capN kb R E/\IX w' (w.heap.size+1) (w.heap.size+2) (.string ⟨#[]⟩) (ab 0) (ab 0) (.string ⟨#[]⟩) (.bool false)) ?_ ?_ (Ds) _ ⟨?_,?_,hO⟩ ?_ ?_
   ·exact Mz28
   ·rintro w' ⟨h1,h2,h3⟩
    have c4:w'.cell? (af (w.heap.size+2) 0)=some (.bool false):=A0 h3.2;refine⟨_,Q8 (p:=2) (q:=3) (ty:=56) (ty2:=4) rfl _ _ (w.heap.size+1) (w.heap.size+2) _ _ _ _ (.bool false) rfl h3.1 Tryz.underlying56 rfl y1Z rfl (by go_simp),R,h2,h1,.inr ⟨rfl,fun m nm2 hm2 t ht=>HD.out m (by rw[HNN.out,<-H.out.gr.pgl];exact(gS_.1 hm2).1) nm2 hm2 t ht⟩⟩
   ·exact HWK.out.trans' hK3 (fun q hq=>by simp only[List.mem_cons,List.not_mem_nil,or_false]at hq ⊢;omega)
   ·exact HVW.out.keeps hK3 y26Z
   ·exact(HM.out.keeps hK3 (fun q hq=>by simp only[List.mem_cons,List.not_mem_nil,or_false]at hq;rcases hq with rfl |rfl;exact⟨_,_,_,HCB.out.1⟩;exact⟨_,_,_,HCB.out.2⟩)).1
   ·exact(HM.out.keeps hK3 (fun q hq=>by simp only[List.mem_cons,List.not_mem_nil,or_false]at hq;rcases hq with rfl |rfl;exact⟨_,_,_,HCB.out.1⟩;exact⟨_,_,_,HCB.out.2⟩)).2
end Go.Proofs.YtjjggdcnpndgjabGreatDoor
