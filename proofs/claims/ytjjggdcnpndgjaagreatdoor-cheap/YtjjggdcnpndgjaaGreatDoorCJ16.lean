import Derived.Test.YtjjggdcnpndgjaaGreatDoorCJ15
import Derived.Test.YtjjggdcnpndgjaaGreatDoorShelf2
set_option linter.unusedSimpArgs false
set_option maxHeartbeats 1000000
set_option maxRecDepth 100000
namespace Go.Proofs.YtjjggdcnpndgjaaGreatDoor
abbrev nh:=@List.length_take
abbrev qp:=@Nat.le_of_lt
abbrev zg:=@List.replicate_succ
open Go.RowKit Go.Shelf
variable {B i j k n t:Nat}{M:List Nm}{P:List Ln}{TC pv Ak:List Value}{W w:World}{r:List ByteArray}{rs:List (List Pt)}{v v' vN vT:Value}{x:Ln}
theorem ZE (s:ByteArray) (w:World) (hs:s.size<=4000):Calls Tryz.prog 201 #[.string s] w λe w'=>e=.returned (.string s)/\Below w.heap.size w w':=by
 have CC:=Tryz.stringslite_Clone s w (by omega)
 go_enter Tryz.func201,Tryz.ntmps201
 go_wp2_with (go_at_call 227;refine CC.mono ?_;rintro e w2 ⟨rfl,hb2⟩)
 go_ret;exact⟨rfl,hb2⟩
theorem KF {P:Program}{fn:Func}{p t:Tmp}{ty:TypeId} (h:fn.results= #[.cell p ty,.tmp t]) (tmps:Array Value) (w:World) (g:Nat) (t':TypeId) (cs:Array Value) (fr:Nat × Nat) (d:TypeDesc)
  (hp:tmps.getD p undef=ac g) (hg:w.heap[g]?=some (.cells cs t' fr)) (hu:P.underlying ty=some d) (hd:(match d with | .struct _ | .array _ _=>true |_=>false)=true) (hi:(P.info? ty).map (·.size)=some cs.size):
  (results fn tmps).run P w=.ok (.tuple #[.agg cs,tmps.getD t undef]) w:=by
 have hp':tmps[p]?.getD undef=ac g:=by simpa using hp
 simp[results,h,hp',asAddr,yw w g t' ty cs fr d hg hu hd hi,Result.andThen]
theorem lW {ls:List Ln} (h:Bv w B v ls pv):∃a n c,v=.slice a n c:=by
 rcases h.form with⟨h1,_⟩ | ⟨g,cap,h1,_⟩
 ·exact⟨_,_,_,h1⟩
 ·exact⟨_,_,_,h1⟩
theorem sR (s:ByteArray) (w:World) (hG:E2 w) (hs:s.size<=9223372036854775807) (hok:s.size<=4000->LN (AK (AL s 0).1)) (he:(ES s).1=0) (N:NG) (zy:List ByteArray) (pg:List Nm)
  (hB:∀W B v pv,Below w.heap.size w W->Bv W B v (AK (AL s 0).1) pv->Calls Tryz.prog 152 #[v] W λe w'=>∃yZ yT gN yQ,e=.returned (.agg #[.slice yZ N.nT yT,ae gN N.nN yQ])/\(∀W'',(∀q,W.heap.size<=q->q<w'.heap.size->W''.heap[q]?=w'.heap[q]?)->Cz W'' w'.heap.size N zy pg yZ yT gN yQ)/\Below W.heap.size W w'):
  Calls Tryz.prog 105 #[.string s] w λe w'=>∃yZ yT gN yQ,e=.returned (.tuple #[.agg #[.slice yZ N.nT yT,ae gN N.nN yQ],ab 0])/\(∀W'',(∀q,w.heap.size<=q->q<w'.heap.size->W''.heap[q]?=w'.heap[q]?)->Cz W'' w'.heap.size N zy pg yZ yT gN yQ)/\Below w.heap.size w w':=by
 have CC:=fM s (w.alloc (.cells #[.slice none 0 0,.slice none 0 0] 135)) (hG.below ((ah _ w).alloc (zn _) _) hG.size) hs hok;have Jy:=hid CC;have HE:Hid ((ES s).1=0):=hid he;have HB:=hid hB;clear CC hG hok he hB
 go_enter Tryz.func105,Tryz.ntmps105
 go_wp2_with (go_at_call 113;refine Jy.out.mono ?_;rintro e w1 ⟨v,rfl,hL,hb1⟩;obtain⟨B,pv,_,hV⟩:=hL HE.out;obtain⟨av,nv,cv,hve⟩:=lW hV;subst hve;rw[HE.out];have Z1:Hid (w1.heap[w.heap.size]?=some (.cells #[.slice none 0 0,.slice none 0 0] 135 (0,0))):=hid ((hb1.block w.heap.size (by simp)).trans (bg w _));have zL:Hid (Below w.heap.size w w1):=hid ((Aj (ah _ _)).trans (hb1.mono (by simp)));have HC:=hid (HB.out w1 B _ pv zL.out hV);clear hb1 hL hV)
 refine HC.out.mono ?_;rintro e w2 ⟨yZ,yT,gN,yQ,rfl,hPR,hb2⟩;have Z2:=(hb2.block w.heap.size (ak Z1.out)).trans Z1.out;have r0:w2.cell? (af w.heap.size 0)=some (.slice none 0 0):=A0 Z2;have r1:w2.cell? (af w.heap.size 1)=some (.slice none 0 0):=A0 Z2;have t0:w2.frozen? (af w.heap.size 0)=false:=A7 Z2;have t1:w2.frozen? (af w.heap.size 1)=false:=A7 Z2;have HZ2:=hid Z2;have HPR:=hid hPR;have zO:Hid (Below w.heap.size w w2):=hid (zL.out.trans (hb2.mono zL.out.size));have aiA:=hb2.size;have alq:=ak Z1.out;clear hPR hb2 Z2 HC Jy;go_wp2;have hrow:=AA (j:=1) (AA (j:=0) HZ2.out (.slice yZ N.nT yT)) (ae gN N.nN yQ);have Uj:A5 w2 ((w2.setCell (af w.heap.size 0) (.slice yZ N.nT yT)).setCell (af w.heap.size 1) (ae gN N.nN yQ)) [w.heap.size]:=((A5.refl w2 [w.heap.size]).setCell (by simp) _).setCell (by simp) _;have hsz:((w2.setCell (af w.heap.size 0) (.slice yZ N.nT yT)).setCell (af w.heap.size 1) (ae gN N.nN yQ)).heap.size=w2.heap.size:=by simp
 refine⟨rfl,_,KF (p:=2) (t:=3) (ty:=135) rfl _ _ w.heap.size _ _ _ _ rfl hrow Tryz.underlying135 rfl yM,?_⟩;refine⟨yZ,yT,gN,yQ,rfl,λW'' hW=>?_,zO.out.trans (Uj.below zO.out.size (λq hq=>by have:=mS.1 hq;omega))⟩;rw[hsz]at hW ⊢;exact HPR.out W'' (λq Kb Wi=>(hW q (by omega) Wi).trans (Uj.block q Wi zG))
section
theorem NQ {e sz:Nat}{xs:List Value} (h:w.ownsRow B e sz v n xs) (hW:∀q,B<=q->q<w.heap.size->W.heap[q]?=w.heap[q]?):W.ownsRow B e sz v n xs:=by
 obtain⟨h1,h2⟩:=h;refine⟨h1,?_⟩
 rcases h2 with h2 | ⟨g,cap,cur,hv,hg,hh,r⟩
 ·exact .inl h2
 ·exact .inr ⟨g,cap,cur,hv,hg,by rw[hW g hg (ak hh)];exact hh,r⟩
def BZ (ps:List Pt):List Value:=ps.flatMap λp=>[.bool (AW p),ab (AV p)]
abbrev Tk:=ByteArray × Nat × Nat
def MT (t:Tk) (v:Value):List Value:=[.string t.1,ab (t.2.1:Int),ab (t.2.2:Int),v]
def FW (T:List Tk):List Value:=T.flatMap λt=>MT t (.slice none 0 0)
def DG (T:List Tk) (f:Nat->Value):List Value:=T.zipIdx.flatMap λx=>MT x.1 (f x.2)
def OK (M:List Nm) (pv:List Value):List Value:=(M.zip pv).flatMap λt=>[.string t.1.1,t.2]
def lB (w:World) (B:Nat) (v:Value) (ps:List Pt):Prop:=w.ownsRow B 235 2 v ps.length (BZ ps)
structure I7 (w:World) (B:Nat) (v:Value) (rs:List (List Pt)) (Ak:List Value):Prop where
 row:w.ownsRow B 228 1 v rs.length Ak
 each:∀(i:Nat) ps p,rs[i]?=some ps->Ak[i]?=some p->lB w B p ps
structure Cc (w:World) (B gb n:Nat) (TC:List Value) (M:List Nm) (vT vN:Value) (pv:List Value):Prop where
 blk:w.heap[gb]?=some (.cells #[vT,vN] 135 (0,0))
 hb:B<=gb
 toks:w.ownsRow B 268 4 vT n TC
 names:w.ownsRow B 219 2 vN M.length (OK M pv)
 Eo:pv.length=M.length
 Zn:∀(i:Nat) nm p,M[i]?=some nm->pv[i]?=some p->∃Ak,I7 w B p nm.2 Ak
section
variable {w w1:World}{B gb:Nat}{S:List Nat}
theorem I7.keeps  (h:I7 w B v rs Ak) (hk:A5 w w1 S) (h1:Rj w S 228) (h2:Rj w S 235):I7 w1 B v rs Ak:=
 ⟨AC h.row hk (FK h.row h1),λi ps p hr hp=>AC (h.each i ps p hr hp) hk (FK (h.each i ps p hr hp) h2)⟩
theorem I7.base {B':Nat} (h:I7 w B v rs Ak) (hB:B'<=B):I7 w B' v rs Ak:=
 ⟨LH h.row hB,λi ps p hr hp=>LH (h.each i ps p hr hp) hB⟩
theorem I7.setOther {u:Value}{cs:Array Value}{fr:Nat × Nat} (h:I7 w B v rs Ak) (hb:w.heap[gb]?=some (.cells cs t fr)) (h1:228≠t) (h2:235≠t):I7 (w.setCell (af gb j) u) B v rs Ak:=
 ⟨CZ h.row hb h1,λi ps p hr hp=>CZ (h.each i ps p hr hp) hb h2⟩
theorem Cc.cells  (h:Cc w B gb n TC M vT vN pv):w.cell? (af gb 0)=some vT/\w.cell? (af gb 1)=some vN/\w.frozen? (af gb 0)=false/\w.frozen? (af gb 1)=false:=
 ⟨A0 h.blk,A0 h.blk,A7 h.blk,A7 h.blk⟩
theorem Cc.below  (h:Cc w B gb n TC M vT vN pv) (hb:Below w.heap.size w w1):Cc w1 B gb n TC M vT vN pv:=
 ⟨(hb.block gb (ak h.blk)).trans h.blk,h.hb,AC h.toks (A5.zQ hb []) (by simp),AC h.names (A5.zQ hb []) (by simp),h.Eo,
  λi nm p hm hp=>by obtain⟨Ak,hr⟩:=h.Zn i nm p hm hp;exact⟨Ak,hr.keeps (A5.zQ hb []) (I9 _ _) (I9 _ _)⟩⟩
theorem Cc.aiB {T:List Tk} (h:Cc w B gb n (FW T) M vT vN pv) (hk:A5 w w1 vT.ownBlock.toList) {t:Tk}
  (hown:w1.ownsRow B 268 4 v' (n+1) (FW T++MT t (.slice none 0 0))):Cc (w1.setCell (af gb 0) v') B gb (n+1) (FW (T++ [t])) M v' vN pv:=by
 have hgb:gb∉vT.ownBlock.toList:=λhm=>A9 h.toks h.blk (by decide) (BJ hm)
 have hb1:=(hk.block gb (ak h.blk) hgb).trans h.blk;refine⟨AA hb1 v',h.hb,?_,?_,h.Eo,λi nm p hm hp=>?_⟩
 ·have e:FW (T++ [t])=FW T++MT t (.slice none 0 0):=by simp[FW]
  rw[e];exact CZ hown hb1 (by decide)
 ·exact JU h.names hk (FK h.names (AO h.toks (by decide))) (λg hg e=>A9 h.names h.blk (by decide) (e▸hg))
 ·obtain⟨Ak,hr⟩:=h.Zn i nm p hm hp
  exact⟨Ak,(hr.keeps hk (AO h.toks (by decide)) (AO h.toks (by decide))).setOther hb1 (by decide) (by decide)⟩
theorem Cc.aiC {vR:Value} (h:Cc w B gb n TC M vT vN pv) (hk:A5 w w1 vN.ownBlock.toList) {nm:Nm} (hR:I7 w B vR nm.2 Ak)
  (hown:w1.ownsRow B 219 2 v' (M.length+1) (OK M pv++ [.string nm.1,vR])):Cc (w1.setCell (af gb 1) v') B gb n TC (M++ [nm]) vT v' (pv++ [vR]):=by
 have hgb:gb∉vN.ownBlock.toList:=λhm=>A9 h.names h.blk (by decide) (BJ hm)
 have hb1:=(hk.block gb (ak h.blk) hgb).trans h.blk;have hl:=h.Eo;refine⟨AA hb1 v',h.hb,?_,?_,by simp[hl],λi q p hm hp=>?_⟩
 ·exact JU h.toks hk (FK h.toks (AO h.names (by decide))) (λg hg e=>A9 h.toks h.blk (by decide) (e▸hg))
 ·have e:OK (M++ [nm]) (pv++ [vR])=OK M pv++ [.string nm.1,vR]:=by
   unfold OK;rw[List.zip_append hl.symm];simp
  rw[e,lA];exact CZ hown hb1 (by decide)
 ·have keep:∀{v:Value}{rs:List (List Pt)}{ps:List Value},I7 w B v rs ps->I7 (w1.setCell (af gb 1) v') B v rs ps:=λhr=>(hr.keeps hk (AO h.names (by decide)) (AO h.names (by decide))).setOther hb1 (by decide) (by decide)
  by_cases hi:i<M.length
  ·rw[aL hi]at hm
   rw[aL (by omega)]at hp;obtain⟨ps,hr⟩:=h.Zn i q p hm hp;exact⟨ps,keep hr⟩
  ·rw[Bc (by omega)]at hm
   rw[Bc (by omega)]at hp;obtain⟨h1,_⟩:=zM.1 hm;simp at h1;rw[show i - M.length=0 by omega]at hm;rw[show i - pv.length=0 by omega]at hp;simp at hm hp;subst hm;subst hp;exact⟨Ak,keep hR⟩
end
theorem I7.push {w1:World}{p:Value}{ps:List Pt} (h:I7 w B v rs Ak) (hp:lB w B p ps) (hk:A5 w w1 v.ownBlock.toList) (hown:w1.ownsRow B 228 1 v' (rs.length+1) (Ak++ [p])):I7 w1 B v' (rs++ [ps]) (Ak++ [p]):=by
 have hpl:Ak.length=rs.length:=by have:=h.row.1;omega
 refine⟨by rw[lA];exact hown,λi q u hq hu=>?_⟩
 by_cases hi:i<rs.length
 ·rw[aL hi]at hq
  rw[aL (by omega)]at hu;exact AC (h.each i q u hq hu) hk (FK (h.each i q u hq hu) (AO h.row (by decide)))
 ·rw[Bc (by omega)]at hq
  rw[Bc (by omega)]at hu;obtain⟨h1,_⟩:=zM.1 hq;simp at h1;rw[show i - rs.length=0 by omega]at hq;rw[show i - Ak.length=0 by omega]at hu;simp at hq hu;subst hq;subst hu;exact AC hp hk (FK hp (AO h.row (by decide)))
theorem Cc.again {gb:Nat} (h:Cc w B gb n TC M vT vN pv):Cc ((w.setCell (af gb 0) vT).setCell (af gb 1) vN) B gb n TC M vT vN pv:=by
 have hb0:=AA (j:=0) h.blk vT;have hb1:=AA (j:=1) hb0 vN;refine⟨hb1,h.hb,?_,?_,h.Eo,λi nm p hm hp=>?_⟩
 ·exact CZ (CZ h.toks h.blk (by decide)) hb0 (by decide)
 ·exact CZ (CZ h.names h.blk (by decide)) hb0 (by decide)
 ·obtain⟨Ak,hr⟩:=h.Zn i nm p hm hp
  exact⟨Ak,(hr.setOther h.blk (by decide) (by decide)).setOther hb0 (by decide) (by decide)⟩
theorem I7.view {n₀:Nat} (h:I7 w B v rs Ak) (h0:0<rs.length) (hn:w.heap.size<=n₀):RW w n₀ v rs:=by
 obtain⟨g,cap,rfl,_,hlt,hc⟩:=B4 h.row h0;refine⟨g,cap,rfl,by omega,hc,λr ps hr=>?_⟩;have hi:=(zM.1 hr).1;have hpl:Ak.length=rs.length:=by have:=h.row.1;omega
 obtain⟨p,hp⟩:∃p,Ak[r]?=some p:=⟨_,gE (by omega)⟩;refine⟨p,by rw[h.row.cellAt r (by omega)];exact hp,?_⟩;have hP:w.ownsRow B 235 2 p ps.length (BZ ps):=h.each r ps p hr hp
 rcases hP.2 with⟨h1,h2⟩ | ⟨g2,cap2,cur,h1,_,hh,hnc,_⟩
 ·exact⟨none,0,by rw[h2];exact h1,by omega,λh=>by omega⟩
 ·subst h1
  refine⟨_,cap2,rfl,hnc,λ_=>⟨g2,0,rfl,by have:=ak hh;omega,λi q hq=>?_⟩⟩;have hil:=(zM.1 hq).1;have h2:=λj hj=>SL (λp:Pt=>[Value.bool (AW p),ab (AV p)]) (λ_=>rfl) ps i q j hq hj
  rw[ju];refine⟨?_,?_⟩
  ·rw[hP.cellAt _ (by omega)];exact h2 0 (by omega)
  ·rw[hP.cellAt _ (by omega)];exact h2 1 (by omega)
def Gt (w:World) (b n:Nat) (S:Nat->Nat->Nat):Prop:=∀t,t<n->w.heap[b+t]?=some (.cells ((List.range n).map λu=>ab (S t u:Int)).toArray 3 (0,0))
def Ih (b n t:Nat):Value:=.slice (some (af (b+t) 0)) n n
theorem Gt.agree {b:Nat}{S:Nat->Nat->Nat} (h:Gt w b n S) (hB:B<=b) (hW:∀q,B<=q->q<w.heap.size->W.heap[q]?=w.heap[q]?):Gt W b n S:=
 λt ht=>(hW (b+t) (by omega) (ak (h t ht))).trans (h t ht)
theorem Gt.cell {b:Nat}{S:Nat->Nat->Nat} (h:Gt w b n S) {u:Nat} (ht:t<n) (hu:u<n):w.cell? (af (b+t) u)=some (ab (S t u:Int)):=by
 rw[A0 (h t ht)];simp[hu]
theorem JT (T:List Tk) (f:Nat->Value):(DG T f).length=T.length*4:=by
 unfold DG;have:∀(L:List (Tk × Nat)),(L.flatMap λx=>MT x.1 (f x.2)).length=L.length*4:=by
  intro L
  induction L with
  |nil=>rfl
  |cons a L ih=>rw[ij,lA,ih,lC];simp[MT];omega
 rw[this];simp
theorem IM {T:List Tk}{f:Nat->Value}{x:Tk} (hx:T[t]?=some x)  (hj:j<4):(DG T f)[t*4+j]?=(MT x (f t))[j]?:=
 QL (λx:Tk × Nat=>MT x.1 (f x.2)) (λ_=>rfl) T.zipIdx t (x,t) j (by rw[oz,hx];simp) hj
theorem Cc.done {gb bs:Nat}{T:List Tk} (h:Cc w B gb T.length (DG T (Ih bs T.length)) M vT vN pv) (hW:∀q,B<=q->q<w.heap.size->W.heap[q]?=w.heap[q]?) {N:NG} (hN:N.Ok) (Dm:N.nN<=20) (Ch:N.nT<=20) (Nh:N.rules.length<=60)
  (hS:Gt w bs T.length N.swp) (Pm:B<=bs)
  (hT:T.length=N.nT) (hM:M.length=N.nN) (hr:N.rules=PE M) (hput:∀t x,T[t]?=some x->x.2.1=N.put t/\x.2.2=N.drop t) (hrl:∀nm∈M,0<nm.2.length) {yZ aN:Option Addr}{nT nN yT yQ:Nat} (hvT:vT=.slice yZ nT yT) (hvN:vN=.slice aN nN yQ):
  nT=N.nT/\nN=N.nN/\∃gN,aN=some (af gN 0)/\Cz W w.heap.size N (T.map (·.1)) M yZ yT gN yQ:=by
 have hTW:=NQ h.toks hW;have hNW:=NQ h.names hW;have hpos:0<M.length:=by have:=hN.pos;omega
 obtain⟨gN,cN,hsh,_,Bu,hcl⟩:=B4 h.names hpos;subst hvN;injection hsh with e1 e2 e3
 subst e1;subst e3;subst hvT;have Ac:nT=T.length/\T.length<=yT/\(0<T.length->∃g,yZ=some (af g 0)/\g<w.heap.size):=by
  rcases h.toks.2 with⟨h1,h2⟩ | ⟨g,cap,cur,h1,_,hh,hnc,_⟩
  ·injection h1 with a1 a2 a3
   exact⟨by omega,by omega,λh=>by omega⟩
  ·injection h1 with a1 a2 a3
   subst a3;exact⟨a2,hnc,λ_=>⟨g,a1,ak hh⟩⟩
 have En:=λt (ht:t<T.length)=>ak (hS t ht)
 refine⟨by omega,by omega,gN,rfl,⟨hN,Dm,Ch,Nh,by omega,by omega,by simp[hT],hM,Bu,hr,λt ht=>?_,λt ht=>?_,λn nm hn=>?_⟩⟩
 ·obtain⟨g,rfl,hg⟩:=Ac.2.2 (by omega)
  obtain⟨x,hx⟩:∃x,T[t]?=some x:=⟨_,gE (by omega)⟩;have h4:=λj hj=>IM (f:=Ih bs T.length) hx (j:=j) hj
  have e1:=Ac.1;subst e1;refine⟨g,rfl,hg,?_,?_⟩
  ·rw[hTW.cellAt _ (by omega)]
   have:nth (T.map (·.1)) t=x.1:=by unfold nth;rw[Af,gM,hx];rfl
   rw[this];exact h4 0 (by omega)
  ·rw[hTW.cellAt _ (by omega),<-(hput t x hx).1];exact h4 1 (by omega)
 ·obtain⟨g,rfl,hg⟩:=Ac.2.2 (by omega)
  obtain⟨x,hx⟩:∃x,T[t]?=some x:=⟨_,gE (by omega)⟩;have h4:=λj hj=>IM (f:=Ih bs T.length) hx (j:=j) hj
  have e1:=Ac.1;subst e1;have hSW:=hS.agree Pm hW;refine⟨g,bs+t,T.length,rfl,hg,?_,?_,En t (by omega),by omega,λu hu=>hSW.cell (by omega) (by omega)⟩
  ·rw[hTW.cellAt _ (by omega),<-(hput t x hx).2];exact h4 2 (by omega)
  ·rw[hTW.cellAt _ (by omega),<-hT];exact h4 3 (by omega)
 ·have hi:=(zM.1 hn).1
  have hpl:=h.Eo;obtain⟨p,hp⟩:∃p,pv[n]?=some p:=⟨_,gE (by omega)⟩;have hz:(M.zip pv)[n]?=some (nm,p):=by rw[List.getElem?_zip_eq_some];exact⟨hn,hp⟩
  have h2:=λj hj=>SL (λt:Nm × Value=>[Value.string t.1.1,t.2]) (λ_=>rfl) (M.zip pv) n (nm,p) j hz hj
  subst e2;refine⟨?_,p,?_,?_⟩
  ·rw[hNW.cellAt _ (by omega)];exact h2 0 (by omega)
  ·rw[hNW.cellAt _ (by omega)];exact h2 1 (by omega)
  ·obtain⟨Ak,hR⟩:=h.Zn n nm p hn hp
   have hRW:I7 W B p nm.2 Ak:=⟨NQ hR.row hW,λi ps p hr hp=>NQ (hR.each i ps p hr hp) hW⟩;obtain⟨g,cap,hv,hlt,hc,hcell⟩:=hRW.view (hrl nm (mG hn)) (zn _);obtain⟨g',cap',hv',_,hlt',_⟩:=B4 hR.row (hrl nm (mG hn));rw[hv]at hv';injection hv' with k1 k2 k3
   injection k1 with k1
   injection k1 with k1
   refine⟨g,cap,hv,by omega,hc,λr ps hr=>?_⟩;obtain⟨q,hq,ad,cq,Kb,Wi,hq3⟩:=hcell r ps hr;refine⟨q,hq,ad,cq,Kb,Wi,λh0=>?_⟩;obtain⟨g2,off,j1,_,j3⟩:=hq3 h0;refine⟨g2,off,j1,?_,j3⟩;have alr:Ak.length=nm.2.length:=by have:=hR.row.1;omega
   have hi2:=(zM.1 hr).1;obtain⟨q',Dg⟩:∃p,Ak[r]?=some p:=⟨_,gE (by omega)⟩;have aiD:W.cell? (af g r)=some q':=by
    have h5:=hRW.row;rw[hv]at h5;rw[h5.cellAt r (by omega)];exact Dg
   rw[aiD]at hq;injection hq with hq
   subst hq;have hP:=hR.each r ps q' hr Dg;refine D8 hP ?_;rw[Kb,j1];rfl
end
def lQ (x:Ln):Tk:=(nth x.2.2 1,(D5 (nth x.2.2 2).data.toList).toNat,(D5 (nth x.2.2 3).data.toList).toNat)
def Ck (P:List Ln):List Tk:=(BD P).map lQ
theorem mN (P:List Ln):(Ck P).map (·.1)=LS P:=by
 unfold Ck LS;rw[qm];rfl
theorem uT:∀(t:Nat) x,(Ck P)[t]?=some x->x.2.1=(Dw P).put t/\x.2.2=(Dw P).drop t:=by
 intro t x h;unfold Ck at h;rw[gM]at h;cases hy:(BD P)[t]? with
 |none=>rw[hy]at h;cases h
 |some y=>
  rw[hy]at h;injection h with h
  subst h;refine⟨?_,?_⟩
  ·show _=(((BD P)[t]?.map λx=>D5 (nth x.2.2 2).data.toList).getD 0).toNat
   rw[hy];rfl
  ·show _=(((BD P)[t]?.map λx=>D5 (nth x.2.2 3).data.toList).getD 0).toNat
   rw[hy];rfl
theorem wA (f:ByteArray->Int) (P:List Ln):∀nm∈Cj f P,0<nm.2.length:=by
 intro nm h;obtain⟨x,_,rfl⟩:=dm.1 h;show 0< ((AE x.2.2).map _).length;rw[lM];unfold AE;simp
theorem kO  (hx:P[k]?=some x):BD (P.take (k+1))=BD (P.take k)++if x.2.1=0 then [x]else []:=by
 obtain⟨hk,e⟩:=zM.1 hx;unfold BD;rw[iq hk,e,ql]
 by_cases h:x.2.1=0 <;> simp[h]
theorem lK  (hx:P[k]?=some x):AU (P.take (k+1))=AU (P.take k)++if x.2.1=2 then [x]else []:=by
 obtain⟨hk,e⟩:=zM.1 hx;unfold AU;rw[iq hk,e,ql]
 by_cases h:x.2.1=2 <;> simp[h]
theorem rW  (hx:P[k]?=some x):Ck (P.take (k+1))=Ck (P.take k)++if x.2.1=0 then [lQ x]else []:=by
 unfold Ck;rw[kO hx,fq];split <;> rfl
theorem rC (f:ByteArray->Int)  (hx:P[k]?=some x):Cj f (P.take (k+1))=Cj f (P.take k)++if x.2.1=2 then [TZ f x]else []:=by
 unfold Cj;rw[lK hx,fq];split <;> rfl
theorem vX (P:List Ln) (k:Nat):(Ck (P.take k)).length<=k:=by
 unfold Ck BD;rw[lM];have:=qy (λx:Ln=>x.2.1==0) (P.take k);rw[nh]at this;omega
theorem tX (f:ByteArray->Int) (P:List Ln) (k:Nat):(Cj f (P.take k)).length<=k:=by
 unfold Cj AU;rw[lM];have:=qy (λx:Ln=>x.2.1==2) (P.take k);rw[nh]at this;omega
def Kr (f:ByteArray->Int) (r:List ByteArray):List Pt:=r.map λw=>Fl (f w)
def Ji (f:ByteArray->Int) (r:List ByteArray) (i:Nat):List Pt:=Kr f (r.take i)++List.replicate (r.length - i) (.tok 0)
theorem vA (f:ByteArray->Int) (r:List ByteArray)  (h:i<=r.length):(Ji f r i).length=r.length:=by
 unfold Ji Kr;simp;omega
theorem rO (f:ByteArray->Int) {u:ByteArray} (h:r[i]?=some u):(Ji f r i).set i (Fl (f u))=Ji f r (i+1):=by
 obtain⟨hi,e⟩:=zM.1 h;unfold Ji Kr;have hl:((r.take i).map λw=>Fl (f w)).length=i:=by simp;omega
 rw[vp _ _ (by omega),hl,ku];obtain⟨m,hm⟩:∃m,r.length - i=m+1:=⟨r.length - i - 1,by omega⟩;rw[hm,zg,xy,show r.length - (i+1)=m by omega,iq hi,e,fq];simp
theorem sI (f:ByteArray->Int) (r:List ByteArray):Ji f r r.length=Kr f r:=by unfold Ji;simp
theorem uA (f:ByteArray->Int) {RS:List (List ByteArray)} (h:RS[j]?=some r):(RS.take (j+1)).map (Kr f)=(RS.take j).map (Kr f)++ [Kr f r]:=by
 obtain⟨hj,e⟩:=zM.1 h;rw[iq hj,e,fq];rfl
theorem TE:∀(L:List Pt) (i:Nat) (p:Pt),i<L.length->BZ (L.set i p)=((BZ L).set (i*2) (.bool (AW p))).set (i*2+1) (ab (AV p))
 | [],i,_,h=>by simp at h
 |q::L,0,p,_=>by simp[BZ]
 |q::L,i+1,p,h=>by
  have h1:=TE L i p Lx;unfold BZ at h1 ⊢;simp only[vk,ij];rw[h1];simp only[show(i+1)*2=i*2+1+1 from by omega,iw,ey,vk]
theorem lV (c:Int):AW (Fl c)=decide (c % 2=1):=by
 unfold Fl;split
 ·rename_i h;simp[AW,h]
 ·rename_i h;simp[AW,h]
theorem pY {c:Int} (h:0<=c):((AV (Fl c):Nat):Int)=c / 2:=by
 unfold Fl;split <;> simp[AV] <;> omega
theorem J8.pos {f:ByteArray->Int}{T M:List ByteArray} (h:J8 f T M) (s:ByteArray):0<=f s:=by
 have h1:=h s;cases hM:F5 M s with
 |some k=>rw[hM]at h1;have h2:f s=2*(k:Int)+1:=h1;omega
 |none=>
  rw[hM]at h1;cases hT:F5 T s with
  |some k=>rw[hT]at h1;have h2:f s=2*(k:Int):=h1;omega
  |none=>rw[hT]at h1;have h2:f s=0:=h1;omega
theorem q8 (w:World) (f:ByteArray->Int) (r:List ByteArray) (B:Nat) (hB:B<=w.heap.size) (hr:r.length<=8):
  (w.alloc (.cells (madeCells #[.bool false,ab 0] (r.length*2)) 235)).ownsRow B 235 2 (ae w.heap.size r.length r.length) r.length (BZ (Ji f r 0)):=by
 have h1:=LM w (madeCells #[.bool false,ab 0] (r.length*2)) r.length 2 235 B hB Bg (vh _ _);have h2:=NZ 2 (by omega) (λp:Pt=>[Value.bool (AW p),ab (AV p)]) (λ_=>rfl) (.tok 0) r.length;have h3:Ji f r 0=List.replicate r.length (.tok 0):=by unfold Ji Kr;simp
 unfold BZ;rw[h3,<-h2];exact h1
theorem qY {pb:Nat} (f:ByteArray->Int) {u:ByteArray} (hu:r[i]?=some u) (hf:0<=f u) (h:w.ownsRow B 235 2 (ae pb r.length r.length) r.length (BZ (Ji f r i))):
  ((w.setCell (af pb (i*2)) (.bool (decide (f u % 2=1)))).setCell (af pb (i*2+1)) (ab (f u / 2))).ownsRow B 235 2 (ae pb r.length r.length) r.length (BZ (Ji f r (i+1))):=by
 have hi:=(zM.1 hu).1;have h1:=((h.stored (i*2) (.bool (decide (f u % 2=1)))).1.stored (i*2+1) (ab (f u / 2))).1;rw[<-rO f hu,TE _ _ _ (by rw[vA f r (by omega)];exact hi),lV,pY hf];exact h1
theorem Q7.atK {w':World}{g cap nb:Nat}{rs:List (List ByteArray)} (h:Q7 w B (ae g n cap) rs Ak) (hn:rs.length=n) (hb:A5 w w' [nb]) {cs:Array Value}{fr:Nat × Nat} (hnb:w.heap[nb]?=some (.cells cs t fr)) (h1:39≠t) (h2:9≠t)  (hk:k<n):
  ∃r p,rs[k]?=some r/\w'.cell? (af g k)=some p/\w'.ownsRow B 9 1 p r.length (r.map Value.string)/\(∀q,p.ownBlock=some q->q<w.heap.size):=by
 have hr:=h.row;rw[hn]at hr;have hpl:Ak.length=n:=by have:=hr.1;omega
 have hp:Ak[k]?=some (Ak[k]'(by omega)):=gE (by omega);have Co:rs[k]?=some (rs[k]'(by omega)):=gE (by omega);have he:=h.each k _ _ Co hp;have hr':=AC hr hb (λq hq hm=>by rw[mS.1 hm]at hq;exact A9 hr hnb h1 hq);refine⟨_,_,Co,?_,AC he hb (λq hq hm=>by rw[mS.1 hm]at hq;exact A9 he hnb h2 hq),λq hq=>D8 he hq⟩;rw[hr'.cellAt k (by omega),hp]
theorem A5.aiE {w':World} (h:A5 w w' [k]) (hk:k<w.heap.size):Below k w w':=h.below (qp hk) (λq hq=>by rw[mS.1 hq];exact zn _)
theorem A5.af1 {a b c:World}{S:List Nat} (h:A5 a b [n]) (k:A5 b c S) (hS:∀q,q∈S->a.heap.size<=q):A5 a c [n]:=
 ⟨k.os.trans h.os,k.tape.trans h.tape,k.output.trans h.output,zV h.size k.size,λi hi hn=>(k.block i (lL hi h.size) (λhm=>by have:=hS i hm;omega)).trans (h.block i hi hn)⟩
def K7 (x:Ln):Nat:=(D5 (nth x.2.2 3).data.toList).toNat
def K8 (f:ByteArray->Int) (x:Ln) (t u:Nat):Prop:=x.2.1=1/\f (nth x.2.2 1)=2*(t:Int)/\f (nth x.2.2 2)=2*(u:Int)
instance (f:ByteArray->Int) (x:Ln) (t u:Nat):Decidable (K8 f x t u):=by unfold K8;infer_instance
theorem YD (f:ByteArray->Int) (x:Ln) (t u:Nat):∀{P:List Ln},(∀y∈P,y.2.1=1->1<=K7 y)->F4 f (P++ [x]) t u=if F4 f P t u=0/\K8 f x t u then K7 x else F4 f P t u
 | [],_=>by
  show(if K8 f x t u then K7 x else 0)=if(0:Nat)=0/\K8 f x t u then K7 x else 0
  by_cases h:K8 f x t u
  ·rw[ay h,ay ⟨rfl,h⟩]
  ·rw[aq h,aq (λe=>h e.2)]
 |y::P,h=>by
  have ih:=YD f x t u (P:=P) (λz hz=>h z (gj _ hz));show(if K8 f y t u then K7 y else F4 f (P++ [x]) t u)=if(if K8 f y t u then K7 y else F4 f P t u)=0/\K8 f x t u then K7 x else if K8 f y t u then K7 y else F4 f P t u
  by_cases hy:K8 f y t u
  ·have h1:=h y (ew ..) hy.1
   rw[ay hy,ay hy,aq (by omega)]
  ·rw[aq hy,aq hy,ih]
theorem mX (f:ByteArray->Int)  (hx:P[k]?=some x) (h:∀y∈P,y.2.1=1->1<=K7 y) (t u:Nat):F4 f (P.take (k+1)) t u=if F4 f (P.take k) t u=0/\K8 f x t u then K7 x else F4 f (P.take k) t u:=by
 obtain⟨hk,e⟩:=zM.1 hx;rw[iq hk,e];exact YD f x t u λy hy=>h y (yN hy)
theorem GC {P:Program}{fn:Func}{p:Tmp}{ty:TypeId} (h:fn.results= #[.cell p ty]) (tmps:Array Value) (w:World) (g:Nat) (t':TypeId) (cs:Array Value) (fr:Nat × Nat) (d:TypeDesc)
  (hp:tmps.getD p undef=ac g) (hg:w.heap[g]?=some (.cells cs t' fr)) (hu:P.underlying ty=some d) (hd:(match d with | .struct _ | .array _ _=>true |_=>false)=true) (hi:(P.info? ty).map (·.size)=some cs.size):
  (results fn tmps).run P w=.ok (.agg cs) w:=by
 have hp':tmps[p]?.getD undef=ac g:=by simpa using hp
 simp[results,h,hp',asAddr,yw w g t' ty cs fr d hg hu hd hi]
end Go.Proofs.YtjjggdcnpndgjaaGreatDoor
