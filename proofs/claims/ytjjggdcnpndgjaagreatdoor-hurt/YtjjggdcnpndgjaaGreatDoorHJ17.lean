import Derived.Test.YtjjggdcnpndgjaaGreatDoorHJ16
import Derived.Test.YtjjggdcnpndgjaaGreatDoorShelf2
set_option linter.unusedSimpArgs false
set_option maxHeartbeats 1000000
set_option maxRecDepth 100000
namespace Go.Proofs.YtjjggdcnpndgjaaGreatDoor
abbrev nk:=@List.length_take
abbrev qb:=@Nat.le_of_lt
abbrev yz:=@List.replicate_succ
open Go.RowKit Go.Shelf
variable {B i j k n t:Nat}{M:List Nm}{P:List Ln}{TC pv zm:List Value}{W w:World}{r:List ByteArray}{rs:List (List Pt)}{v v' vN vT:Value}{x:Ln}
theorem XJ (s:ByteArray) (w:World) (hs:s.size<=4000):Calls Tryz.prog 201 #[.string s] w λe w'=>e=.returned (.string s)/\Below w.heap.size w w':=by
 have CC:=Tryz.stringslite_Clone s w (by omega)
 go_enter Tryz.func201,Tryz.ntmps201
 go_wp2_with (go_at_call 227;refine CC.mono ?_;rintro e w2 ⟨rfl,hb2⟩)
 go_ret;exact⟨rfl,hb2⟩
theorem K2 {P:Program}{fn:Func}{p t:Tmp}{ty:TypeId} (h:fn.results= #[.cell p ty,.tmp t]) (tmps:Array Value) (w:World) (g:Nat) (t':TypeId) (cs:Array Value) (fr:Nat × Nat) (d:TypeDesc)
  (hp:tmps.getD p undef=ac g) (hg:w.heap[g]?=some (.cells cs t' fr)) (hu:P.underlying ty=some d) (hd:(match d with | .struct _ | .array _ _=>true |_=>false)=true) (hi:(P.info? ty).map (·.size)=some cs.size):
  (results fn tmps).run P w=.ok (.tuple #[.agg cs,tmps.getD t undef]) w:=by
 have hp':tmps[p]?.getD undef=ac g:=by simpa using hp
 simp[results,h,hp',asAddr,xK w g t' ty cs fr d hg hu hd hi,Result.andThen]
theorem mB {ls:List Ln} (h:Ac w B v ls pv):∃a n c,v=.slice a n c:=by
 rcases h.form with⟨h1,_⟩ | ⟨g,cap,h1,_⟩
 ·exact⟨_,_,_,h1⟩
 ·exact⟨_,_,_,h1⟩
theorem qM (s:ByteArray) (w:World) (hG:DT w) (hs:s.size<=9223372036854775807) (hok:s.size<=4000->LJ (AF (AG s 0).1)) (he:(EA s).1=0) (N:NG) (yL:List ByteArray) (pg:List Nm)
  (hB:∀W B v pv,Below w.heap.size w W->Ac W B v (AF (AG s 0).1) pv->Calls Tryz.prog 152 #[v] W λe w'=>∃yu yl gN xY,e=.returned (.agg #[.slice yu N.nT yl,ae gN N.nN xY])/\(∀W'',(∀q,W.heap.size<=q->q<w'.heap.size->W''.heap[q]?=w'.heap[q]?)->Ba W'' w'.heap.size N yL pg yu yl gN xY)/\Below W.heap.size W w'):
  Calls Tryz.prog 105 #[.string s] w λe w'=>∃yu yl gN xY,e=.returned (.tuple #[.agg #[.slice yu N.nT yl,ae gN N.nN xY],ab 0])/\(∀W'',(∀q,w.heap.size<=q->q<w'.heap.size->W''.heap[q]?=w'.heap[q]?)->Ba W'' w'.heap.size N yL pg yu yl gN xY)/\Below w.heap.size w w':=by
 have CC:=dR s (w.alloc (.cells #[.slice none 0 0,.slice none 0 0] 135)) (hG.below ((ah _ w).alloc (yF _) _) hG.size) hs hok;have Jd:=hid CC;have HE:Hid ((EA s).1=0):=hid he;have HB:=hid hB;clear CC hG hok he hB
 go_enter Tryz.func105,Tryz.ntmps105
 go_wp2_with (go_at_call 113;refine Jd.out.mono ?_;rintro e w1 ⟨v,rfl,hL,hb1⟩;obtain⟨B,pv,_,hV⟩:=hL HE.out;obtain⟨av,nv,cv,hve⟩:=mB hV;subst hve;rw[HE.out];have Z1:Hid (w1.heap[w.heap.size]?=some (.cells #[.slice none 0 0,.slice none 0 0] 135 (0,0))):=hid ((hb1.block w.heap.size (by simp)).trans (ay w _));have yR:Hid (Below w.heap.size w w1):=hid ((zl (ah _ _)).trans (hb1.mono (by simp)));have HC:=hid (HB.out w1 B _ pv yR.out hV);clear hb1 hL hV)
 refine HC.out.mono ?_;rintro e w2 ⟨yu,yl,gN,xY,rfl,hPR,hb2⟩;have Z2:=(hb2.block w.heap.size (ak Z1.out)).trans Z1.out;have r0:w2.cell? (af w.heap.size 0)=some (.slice none 0 0):=A0 Z2;have r1:w2.cell? (af w.heap.size 1)=some (.slice none 0 0):=A0 Z2;have t0:w2.frozen? (af w.heap.size 0)=false:=A3 Z2;have t1:w2.frozen? (af w.heap.size 1)=false:=A3 Z2;have HZ2:=hid Z2;have HPR:=hid hPR;have yV:Hid (Below w.heap.size w w2):=hid (yR.out.trans (hb2.mono yR.out.size));have ah1:=hb2.size;have akO:=ak Z1.out;clear hPR hb2 Z2 HC Jd;go_wp2;have hrow:=A6 (j:=1) (A6 (j:=0) HZ2.out (.slice yu N.nT yl)) (ae gN N.nN xY);have Rw:A1 w2 ((w2.setCell (af w.heap.size 0) (.slice yu N.nT yl)).setCell (af w.heap.size 1) (ae gN N.nN xY)) [w.heap.size]:=((A1.refl w2 [w.heap.size]).setCell (by simp) _).setCell (by simp) _;have hsz:((w2.setCell (af w.heap.size 0) (.slice yu N.nT yl)).setCell (af w.heap.size 1) (ae gN N.nN xY)).heap.size=w2.heap.size:=by simp
 refine⟨rfl,_,K2 (p:=2) (t:=3) (ty:=135) rfl _ _ w.heap.size _ _ _ _ rfl hrow Tryz.underlying135 rfl yg,?_⟩;refine⟨yu,yl,gN,xY,rfl,λW'' hW=>?_,yV.out.trans (Rw.below yV.out.size (λq hq=>by have:=mS.1 hq;omega))⟩;rw[hsz]at hW ⊢;exact HPR.out W'' (λq Ev Kr=>(hW q (by omega) Kr).trans (Rw.block q Kr yM))
section
theorem NB {e sz:Nat}{xs:List Value} (h:w.ownsRow B e sz v n xs) (hW:∀q,B<=q->q<w.heap.size->W.heap[q]?=w.heap[q]?):W.ownsRow B e sz v n xs:=by
 obtain⟨h1,h2⟩:=h;refine⟨h1,?_⟩
 rcases h2 with h2 | ⟨g,cap,cur,hv,hg,hh,r⟩
 ·exact .inl h2
 ·exact .inr ⟨g,cap,cur,hv,hg,by rw[hW g hg (ak hh)];exact hh,r⟩
def BO (ps:List Pt):List Value:=ps.flatMap λp=>[.bool (AQ p),ab (AP p)]
abbrev Tk:=ByteArray × Nat × Nat
def MI (t:Tk) (v:Value):List Value:=[.string t.1,ab (t.2.1:Int),ab (t.2.2:Int),v]
def FO (T:List Tk):List Value:=T.flatMap λt=>MI t (.slice none 0 0)
def D5 (T:List Tk) (f:Nat->Value):List Value:=T.zipIdx.flatMap λx=>MI x.1 (f x.2)
def OO (M:List Nm) (pv:List Value):List Value:=(M.zip pv).flatMap λt=>[.string t.1.1,t.2]
def iO (w:World) (B:Nat) (v:Value) (ps:List Pt):Prop:=w.ownsRow B 235 2 v ps.length (BO ps)
structure GV (w:World) (B:Nat) (v:Value) (rs:List (List Pt)) (zm:List Value):Prop where
 row:w.ownsRow B 228 1 v rs.length zm
 each:∀(i:Nat) ps p,rs[i]?=some ps->zm[i]?=some p->iO w B p ps
structure Ag (w:World) (B gb n:Nat) (TC:List Value) (M:List Nm) (vT vN:Value) (pv:List Value):Prop where
 blk:w.heap[gb]?=some (.cells #[vT,vN] 135 (0,0))
 hb:B<=gb
 toks:w.ownsRow B 268 4 vT n TC
 names:w.ownsRow B 219 2 vN M.length (OO M pv)
 Cz:pv.length=M.length
 Ws:∀(i:Nat) nm p,M[i]?=some nm->pv[i]?=some p->∃zm,GV w B p nm.2 zm
section
variable {w w1:World}{B gb:Nat}{S:List Nat}
theorem GV.keeps  (h:GV w B v rs zm) (hk:A1 w w1 S) (h1:Pj w S 228) (h2:Pj w S 235):GV w1 B v rs zm:=
 ⟨A7 h.row hk (FB h.row h1),λi ps p hr hp=>A7 (h.each i ps p hr hp) hk (FB (h.each i ps p hr hp) h2)⟩
theorem GV.base {B':Nat} (h:GV w B v rs zm) (hB:B'<=B):GV w B' v rs zm:=
 ⟨KX h.row hB,λi ps p hr hp=>KX (h.each i ps p hr hp) hB⟩
theorem GV.setOther {u:Value}{cs:Array Value}{fr:Nat × Nat} (h:GV w B v rs zm) (hb:w.heap[gb]?=some (.cells cs t fr)) (h1:228≠t) (h2:235≠t):GV (w.setCell (af gb j) u) B v rs zm:=
 ⟨C2 h.row hb h1,λi ps p hr hp=>C2 (h.each i ps p hr hp) hb h2⟩
theorem Ag.cells  (h:Ag w B gb n TC M vT vN pv):w.cell? (af gb 0)=some vT/\w.cell? (af gb 1)=some vN/\w.frozen? (af gb 0)=false/\w.frozen? (af gb 1)=false:=
 ⟨A0 h.blk,A0 h.blk,A3 h.blk,A3 h.blk⟩
theorem Ag.below  (h:Ag w B gb n TC M vT vN pv) (hb:Below w.heap.size w w1):Ag w1 B gb n TC M vT vN pv:=
 ⟨(hb.block gb (ak h.blk)).trans h.blk,h.hb,A7 h.toks (A1.yX hb []) (by simp),A7 h.names (A1.yX hb []) (by simp),h.Cz,
  λi nm p hm hp=>by obtain⟨zm,hr⟩:=h.Ws i nm p hm hp;exact⟨zm,hr.keeps (A1.yX hb []) (GX _ _) (GX _ _)⟩⟩
theorem Ag.ah2 {T:List Tk} (h:Ag w B gb n (FO T) M vT vN pv) (hk:A1 w w1 vT.ownBlock.toList) {t:Tk}
  (hown:w1.ownsRow B 268 4 v' (n+1) (FO T++MI t (.slice none 0 0))):Ag (w1.setCell (af gb 0) v') B gb (n+1) (FO (T++ [t])) M v' vN pv:=by
 have hgb:gb∉vT.ownBlock.toList:=λhm=>A5 h.toks h.blk (by decide) (BE hm)
 have hb1:=(hk.block gb (ak h.blk) hgb).trans h.blk;refine⟨A6 hb1 v',h.hb,?_,?_,h.Cz,λi nm p hm hp=>?_⟩
 ·have e:FO (T++ [t])=FO T++MI t (.slice none 0 0):=by simp[FO]
  rw[e];exact C2 hown hb1 (by decide)
 ·exact J6 h.names hk (FB h.names (AJ h.toks (by decide))) (λg hg e=>A5 h.names h.blk (by decide) (e▸hg))
 ·obtain⟨zm,hr⟩:=h.Ws i nm p hm hp
  exact⟨zm,(hr.keeps hk (AJ h.toks (by decide)) (AJ h.toks (by decide))).setOther hb1 (by decide) (by decide)⟩
theorem Ag.ah3 {vR:Value} (h:Ag w B gb n TC M vT vN pv) (hk:A1 w w1 vN.ownBlock.toList) {nm:Nm} (hR:GV w B vR nm.2 zm)
  (hown:w1.ownsRow B 219 2 v' (M.length+1) (OO M pv++ [.string nm.1,vR])):Ag (w1.setCell (af gb 1) v') B gb n TC (M++ [nm]) vT v' (pv++ [vR]):=by
 have hgb:gb∉vN.ownBlock.toList:=λhm=>A5 h.names h.blk (by decide) (BE hm)
 have hb1:=(hk.block gb (ak h.blk) hgb).trans h.blk;have hl:=h.Cz;refine⟨A6 hb1 v',h.hb,?_,?_,by simp[hl],λi q p hm hp=>?_⟩
 ·exact J6 h.toks hk (FB h.toks (AJ h.names (by decide))) (λg hg e=>A5 h.toks h.blk (by decide) (e▸hg))
 ·have e:OO (M++ [nm]) (pv++ [vR])=OO M pv++ [.string nm.1,vR]:=by
   unfold OO;rw[List.zip_append hl.symm];simp
  rw[e,lA];exact C2 hown hb1 (by decide)
 ·have keep:∀{v:Value}{rs:List (List Pt)}{ps:List Value},GV w B v rs ps->GV (w1.setCell (af gb 1) v') B v rs ps:=λhr=>(hr.keeps hk (AJ h.names (by decide)) (AJ h.names (by decide))).setOther hb1 (by decide) (by decide)
  by_cases hi:i<M.length
  ·rw[aL hi]at hm
   rw[aL (by omega)]at hp;obtain⟨ps,hr⟩:=h.Ws i q p hm hp;exact⟨ps,keep hr⟩
  ·rw[zQ (by omega)]at hm
   rw[zQ (by omega)]at hp;obtain⟨h1,_⟩:=yS.1 hm;simp at h1;rw[show i - M.length=0 by omega]at hm;rw[show i - pv.length=0 by omega]at hp;simp at hm hp;subst hm;subst hp;exact⟨zm,keep hR⟩
end
theorem GV.push {w1:World}{p:Value}{ps:List Pt} (h:GV w B v rs zm) (hp:iO w B p ps) (hk:A1 w w1 v.ownBlock.toList) (hown:w1.ownsRow B 228 1 v' (rs.length+1) (zm++ [p])):GV w1 B v' (rs++ [ps]) (zm++ [p]):=by
 have hpl:zm.length=rs.length:=by have:=h.row.1;omega
 refine⟨by rw[lA];exact hown,λi q u hq hu=>?_⟩
 by_cases hi:i<rs.length
 ·rw[aL hi]at hq
  rw[aL (by omega)]at hu;exact A7 (h.each i q u hq hu) hk (FB (h.each i q u hq hu) (AJ h.row (by decide)))
 ·rw[zQ (by omega)]at hq
  rw[zQ (by omega)]at hu;obtain⟨h1,_⟩:=yS.1 hq;simp at h1;rw[show i - rs.length=0 by omega]at hq;rw[show i - zm.length=0 by omega]at hu;simp at hq hu;subst hq;subst hu;exact A7 hp hk (FB hp (AJ h.row (by decide)))
theorem Ag.again {gb:Nat} (h:Ag w B gb n TC M vT vN pv):Ag ((w.setCell (af gb 0) vT).setCell (af gb 1) vN) B gb n TC M vT vN pv:=by
 have hb0:=A6 (j:=0) h.blk vT;have hb1:=A6 (j:=1) hb0 vN;refine⟨hb1,h.hb,?_,?_,h.Cz,λi nm p hm hp=>?_⟩
 ·exact C2 (C2 h.toks h.blk (by decide)) hb0 (by decide)
 ·exact C2 (C2 h.names h.blk (by decide)) hb0 (by decide)
 ·obtain⟨zm,hr⟩:=h.Ws i nm p hm hp
  exact⟨zm,(hr.setOther h.blk (by decide) (by decide)).setOther hb0 (by decide) (by decide)⟩
theorem GV.view {n₀:Nat} (h:GV w B v rs zm) (h0:0<rs.length) (hn:w.heap.size<=n₀):RN w n₀ v rs:=by
 obtain⟨g,cap,rfl,_,hlt,hc⟩:=AX h.row h0;refine⟨g,cap,rfl,by omega,hc,λr ps hr=>?_⟩;have hi:=(yS.1 hr).1;have hpl:zm.length=rs.length:=by have:=h.row.1;omega
 obtain⟨p,hp⟩:∃p,zm[r]?=some p:=⟨_,gE (by omega)⟩;refine⟨p,by rw[h.row.cellAt r (by omega)];exact hp,?_⟩;have hP:w.ownsRow B 235 2 p ps.length (BO ps):=h.each r ps p hr hp
 rcases hP.2 with⟨h1,h2⟩ | ⟨g2,cap2,cur,h1,_,hh,hnc,_⟩
 ·exact⟨none,0,by rw[h2];exact h1,by omega,λh=>by omega⟩
 ·subst h1
  refine⟨_,cap2,rfl,hnc,λ_=>⟨g2,0,rfl,by have:=ak hh;omega,λi q hq=>?_⟩⟩;have hil:=(yS.1 hq).1;have h2:=λj hj=>S5 (λp:Pt=>[Value.bool (AQ p),ab (AP p)]) (λ_=>rfl) ps i q j hq hj
  rw[jl];refine⟨?_,?_⟩
  ·rw[hP.cellAt _ (by omega)];exact h2 0 (by omega)
  ·rw[hP.cellAt _ (by omega)];exact h2 1 (by omega)
def Ew (w:World) (b n:Nat) (S:Nat->Nat->Nat):Prop:=∀t,t<n->w.heap[b+t]?=some (.cells ((List.range n).map λu=>ab (S t u:Int)).toArray 3 (0,0))
def Fy (b n t:Nat):Value:=.slice (some (af (b+t) 0)) n n
theorem Ew.agree {b:Nat}{S:Nat->Nat->Nat} (h:Ew w b n S) (hB:B<=b) (hW:∀q,B<=q->q<w.heap.size->W.heap[q]?=w.heap[q]?):Ew W b n S:=
 λt ht=>(hW (b+t) (by omega) (ak (h t ht))).trans (h t ht)
theorem Ew.cell {b:Nat}{S:Nat->Nat->Nat} (h:Ew w b n S) {u:Nat} (ht:t<n) (hu:u<n):w.cell? (af (b+t) u)=some (ab (S t u:Int)):=by
 rw[A0 (h t ht)];simp[hu]
theorem JC (T:List Tk) (f:Nat->Value):(D5 T f).length=T.length*4:=by
 unfold D5;have:∀(L:List (Tk × Nat)),(L.flatMap λx=>MI x.1 (f x.2)).length=L.length*4:=by
  intro L
  induction L with
  |nil=>rfl
  |cons a L ih=>rw[gy,lA,ih,lC];simp[MI];omega
 rw[this];simp
theorem I7 {T:List Tk}{f:Nat->Value}{x:Tk} (hx:T[t]?=some x)  (hj:j<4):(D5 T f)[t*4+j]?=(MI x (f t))[j]?:=
 PZ (λx:Tk × Nat=>MI x.1 (f x.2)) (λ_=>rfl) T.zipIdx t (x,t) j (by rw[om,hx];simp) hj
theorem Ag.done {gb bs:Nat}{T:List Tk} (h:Ag w B gb T.length (D5 T (Fy bs T.length)) M vT vN pv) (hW:∀q,B<=q->q<w.heap.size->W.heap[q]?=w.heap[q]?) {N:NG} (hN:N.Ok) (Bt:N.nN<=20) (Aj:N.nT<=20) (Lr:N.rules.length<=60)
  (hS:Ew w bs T.length N.swp) (Nj:B<=bs)
  (hT:T.length=N.nT) (hM:M.length=N.nN) (hr:N.rules=PB M) (hput:∀t x,T[t]?=some x->x.2.1=N.put t/\x.2.2=N.drop t) (hrl:∀nm∈M,0<nm.2.length) {yu aN:Option Addr}{nT nN yl xY:Nat} (hvT:vT=.slice yu nT yl) (hvN:vN=.slice aN nN xY):
  nT=N.nT/\nN=N.nN/\∃gN,aN=some (af gN 0)/\Ba W w.heap.size N (T.map (·.1)) M yu yl gN xY:=by
 have hTW:=NB h.toks hW;have hNW:=NB h.names hW;have hpos:0<M.length:=by have:=hN.pos;omega
 obtain⟨gN,cN,hsh,_,Bf,hcl⟩:=AX h.names hpos;subst hvN;injection hsh with e1 e2 e3
 subst e1;subst e3;subst hvT;have zo:nT=T.length/\T.length<=yl/\(0<T.length->∃g,yu=some (af g 0)/\g<w.heap.size):=by
  rcases h.toks.2 with⟨h1,h2⟩ | ⟨g,cap,cur,h1,_,hh,hnc,_⟩
  ·injection h1 with a1 a2 a3
   exact⟨by omega,by omega,λh=>by omega⟩
  ·injection h1 with a1 a2 a3
   subst a3;exact⟨a2,hnc,λ_=>⟨g,a1,ak hh⟩⟩
 have Ef:=λt (ht:t<T.length)=>ak (hS t ht)
 refine⟨by omega,by omega,gN,rfl,⟨hN,Bt,Aj,Lr,by omega,by omega,by simp[hT],hM,Bf,hr,λt ht=>?_,λt ht=>?_,λn nm hn=>?_⟩⟩
 ·obtain⟨g,rfl,hg⟩:=zo.2.2 (by omega)
  obtain⟨x,hx⟩:∃x,T[t]?=some x:=⟨_,gE (by omega)⟩;have h4:=λj hj=>I7 (f:=Fy bs T.length) hx (j:=j) hj
  have e1:=zo.1;subst e1;refine⟨g,rfl,hg,?_,?_⟩
  ·rw[hTW.cellAt _ (by omega)]
   have:nth (T.map (·.1)) t=x.1:=by unfold nth;rw[zh,gM,hx];rfl
   rw[this];exact h4 0 (by omega)
  ·rw[hTW.cellAt _ (by omega),<-(hput t x hx).1];exact h4 1 (by omega)
 ·obtain⟨g,rfl,hg⟩:=zo.2.2 (by omega)
  obtain⟨x,hx⟩:∃x,T[t]?=some x:=⟨_,gE (by omega)⟩;have h4:=λj hj=>I7 (f:=Fy bs T.length) hx (j:=j) hj
  have e1:=zo.1;subst e1;have hSW:=hS.agree Nj hW;refine⟨g,bs+t,T.length,rfl,hg,?_,?_,Ef t (by omega),by omega,λu hu=>hSW.cell (by omega) (by omega)⟩
  ·rw[hTW.cellAt _ (by omega),<-(hput t x hx).2];exact h4 2 (by omega)
  ·rw[hTW.cellAt _ (by omega),<-hT];exact h4 3 (by omega)
 ·have hi:=(yS.1 hn).1
  have hpl:=h.Cz;obtain⟨p,hp⟩:∃p,pv[n]?=some p:=⟨_,gE (by omega)⟩;have hz:(M.zip pv)[n]?=some (nm,p):=by rw[List.getElem?_zip_eq_some];exact⟨hn,hp⟩
  have h2:=λj hj=>S5 (λt:Nm × Value=>[Value.string t.1.1,t.2]) (λ_=>rfl) (M.zip pv) n (nm,p) j hz hj
  subst e2;refine⟨?_,p,?_,?_⟩
  ·rw[hNW.cellAt _ (by omega)];exact h2 0 (by omega)
  ·rw[hNW.cellAt _ (by omega)];exact h2 1 (by omega)
  ·obtain⟨zm,hR⟩:=h.Ws n nm p hn hp
   have hRW:GV W B p nm.2 zm:=⟨NB hR.row hW,λi ps p hr hp=>NB (hR.each i ps p hr hp) hW⟩;obtain⟨g,cap,hv,hlt,hc,hcell⟩:=hRW.view (hrl nm (mG hn)) (yF _);obtain⟨g',cap',hv',_,hlt',_⟩:=AX hR.row (hrl nm (mG hn));rw[hv]at hv';injection hv' with k1 k2 k3
   injection k1 with k1
   injection k1 with k1
   refine⟨g,cap,hv,by omega,hc,λr ps hr=>?_⟩;obtain⟨q,hq,ad,cq,Ev,Kr,hq3⟩:=hcell r ps hr;refine⟨q,hq,ad,cq,Ev,Kr,λh0=>?_⟩;obtain⟨g2,off,j1,_,j3⟩:=hq3 h0;refine⟨g2,off,j1,?_,j3⟩;have akP:zm.length=nm.2.length:=by have:=hR.row.1;omega
   have hi2:=(yS.1 hr).1;obtain⟨q',Bj⟩:∃p,zm[r]?=some p:=⟨_,gE (by omega)⟩;have ah4:W.cell? (af g r)=some q':=by
    have h5:=hRW.row;rw[hv]at h5;rw[h5.cellAt r (by omega)];exact Bj
   rw[ah4]at hq;injection hq with hq
   subst hq;have hP:=hR.each r ps q' hr Bj;refine CJ hP ?_;rw[Ev,j1];rfl
end
def iF (x:Ln):Tk:=(nth x.2.2 1,(C4 (nth x.2.2 2).data.toList).toNat,(C4 (nth x.2.2 3).data.toList).toNat)
def Ap (P:List Ln):List Tk:=(B2 P).map iF
theorem oU (P:List Ln):(Ap P).map (·.1)=L9 P:=by
 unfold Ap L9;rw[pz];rfl
theorem vA:∀(t:Nat) x,(Ap P)[t]?=some x->x.2.1=(Ch P).put t/\x.2.2=(Ch P).drop t:=by
 intro t x h;unfold Ap at h;rw[gM]at h;cases hy:(B2 P)[t]? with
 |none=>rw[hy]at h;cases h
 |some y=>
  rw[hy]at h;injection h with h
  subst h;refine⟨?_,?_⟩
  ·show _=(((B2 P)[t]?.map λx=>C4 (nth x.2.2 2).data.toList).getD 0).toNat
   rw[hy];rfl
  ·show _=(((B2 P)[t]?.map λx=>C4 (nth x.2.2 3).data.toList).getD 0).toNat
   rw[hy];rfl
theorem tX (f:ByteArray->Int) (P:List Ln):∀nm∈Ao f P,0<nm.2.length:=by
 intro nm h;obtain⟨x,_,rfl⟩:=cj.1 h;show 0< ((A8 x.2.2).map _).length;rw[lM];unfold A8;simp
theorem iQ  (hx:P[k]?=some x):B2 (P.take (k+1))=B2 (P.take k)++if x.2.1=0 then [x]else []:=by
 obtain⟨hk,e⟩:=yS.1 hx;unfold B2;rw[gz hk,e,oz]
 by_cases h:x.2.1=0 <;> simp[h]
theorem kP  (hx:P[k]?=some x):AM (P.take (k+1))=AM (P.take k)++if x.2.1=2 then [x]else []:=by
 obtain⟨hk,e⟩:=yS.1 hx;unfold AM;rw[gz hk,e,oz]
 by_cases h:x.2.1=2 <;> simp[h]
theorem qP  (hx:P[k]?=some x):Ap (P.take (k+1))=Ap (P.take k)++if x.2.1=0 then [iF x]else []:=by
 unfold Ap;rw[iQ hx,ew];split <;> rfl
theorem sA (f:ByteArray->Int)  (hx:P[k]?=some x):Ao f (P.take (k+1))=Ao f (P.take k)++if x.2.1=2 then [TW f x]else []:=by
 unfold Ao;rw[kP hx,ew];split <;> rfl
theorem tJ (P:List Ln) (k:Nat):(Ap (P.take k)).length<=k:=by
 unfold Ap B2;rw[lM];have:=qj (λx:Ln=>x.2.1==0) (P.take k);rw[nk]at this;omega
theorem uJ (f:ByteArray->Int) (P:List Ln) (k:Nat):(Ao f (P.take k)).length<=k:=by
 unfold Ao AM;rw[lM];have:=qj (λx:Ln=>x.2.1==2) (P.take k);rw[nk]at this;omega
def Ih (f:ByteArray->Int) (r:List ByteArray):List Pt:=r.map λw=>Dr (f w)
def Gs (f:ByteArray->Int) (r:List ByteArray) (i:Nat):List Pt:=Ih f (r.take i)++List.replicate (r.length - i) (.tok 0)
theorem vI (f:ByteArray->Int) (r:List ByteArray)  (h:i<=r.length):(Gs f r i).length=r.length:=by
 unfold Gs Ih;simp;omega
theorem pW (f:ByteArray->Int) {u:ByteArray} (h:r[i]?=some u):(Gs f r i).set i (Dr (f u))=Gs f r (i+1):=by
 obtain⟨hi,e⟩:=yS.1 h;unfold Gs Ih;have hl:((r.take i).map λw=>Dr (f w)).length=i:=by simp;omega
 rw[uy _ _ (by omega),hl,kq];obtain⟨m,hm⟩:∃m,r.length - i=m+1:=⟨r.length - i - 1,by omega⟩;rw[hm,yz,xd,show r.length - (i+1)=m by omega,gz hi,e,ew];simp
theorem pO (f:ByteArray->Int) (r:List ByteArray):Gs f r r.length=Ih f r:=by unfold Gs;simp
theorem vB (f:ByteArray->Int) {RS:List (List ByteArray)} (h:RS[j]?=some r):(RS.take (j+1)).map (Ih f)=(RS.take j).map (Ih f)++ [Ih f r]:=by
 obtain⟨hj,e⟩:=yS.1 h;rw[gz hj,e,ew];rfl
theorem SW:∀(L:List Pt) (i:Nat) (p:Pt),i<L.length->BO (L.set i p)=((BO L).set (i*2) (.bool (AQ p))).set (i*2+1) (ab (AP p))
 | [],i,_,h=>by simp at h
 |q::L,0,p,_=>by simp[BO]
 |q::L,i+1,p,h=>by
  have h1:=SW L i p Kb;unfold BO at h1 ⊢;simp only[uu,gy];rw[h1];simp only[show(i+1)*2=i*2+1+1 from by omega,ig,eu,uu]
theorem o7 (c:Int):AQ (Dr c)=decide (c % 2=1):=by
 unfold Dr;split
 ·rename_i h;simp[AQ,h]
 ·rename_i h;simp[AQ,h]
theorem mV {c:Int} (h:0<=c):((AP (Dr c):Nat):Int)=c / 2:=by
 unfold Dr;split <;> simp[AP] <;> omega
theorem IR.pos {f:ByteArray->Int}{T M:List ByteArray} (h:IR f T M) (s:ByteArray):0<=f s:=by
 have h1:=h s;cases hM:ER M s with
 |some k=>rw[hM]at h1;have h2:f s=2*(k:Int)+1:=h1;omega
 |none=>
  rw[hM]at h1;cases hT:ER T s with
  |some k=>rw[hT]at h1;have h2:f s=2*(k:Int):=h1;omega
  |none=>rw[hT]at h1;have h2:f s=0:=h1;omega
theorem nH (w:World) (f:ByteArray->Int) (r:List ByteArray) (B:Nat) (hB:B<=w.heap.size) (hr:r.length<=8):
  (w.alloc (.cells (madeCells #[.bool false,ab 0] (r.length*2)) 235)).ownsRow B 235 2 (ae w.heap.size r.length r.length) r.length (BO (Gs f r 0)):=by
 have h1:=PL w (madeCells #[.bool false,ab 0] (r.length*2)) r.length 2 235 B hB zX (vu _ _);have h2:=NA 2 (by omega) (λp:Pt=>[Value.bool (AQ p),ab (AP p)]) (λ_=>rfl) (.tok 0) r.length;have h3:Gs f r 0=List.replicate r.length (.tok 0):=by unfold Gs Ih;simp
 unfold BO;rw[h3,<-h2];exact h1
theorem q8 {pb:Nat} (f:ByteArray->Int) {u:ByteArray} (hu:r[i]?=some u) (hf:0<=f u) (h:w.ownsRow B 235 2 (ae pb r.length r.length) r.length (BO (Gs f r i))):
  ((w.setCell (af pb (i*2)) (.bool (decide (f u % 2=1)))).setCell (af pb (i*2+1)) (ab (f u / 2))).ownsRow B 235 2 (ae pb r.length r.length) r.length (BO (Gs f r (i+1))):=by
 have hi:=(yS.1 hu).1;have h1:=((h.stored (i*2) (.bool (decide (f u % 2=1)))).1.stored (i*2+1) (ab (f u / 2))).1;rw[<-pW f hu,SW _ _ _ (by rw[vI f r (by omega)];exact hi),o7,mV hf];exact h1
theorem P8.atK {w':World}{g cap nb:Nat}{rs:List (List ByteArray)} (h:P8 w B (ae g n cap) rs zm) (hn:rs.length=n) (hb:A1 w w' [nb]) {cs:Array Value}{fr:Nat × Nat} (hnb:w.heap[nb]?=some (.cells cs t fr)) (h1:39≠t) (h2:9≠t)  (hk:k<n):
  ∃r p,rs[k]?=some r/\w'.cell? (af g k)=some p/\w'.ownsRow B 9 1 p r.length (r.map Value.string)/\(∀q,p.ownBlock=some q->q<w.heap.size):=by
 have hr:=h.row;rw[hn]at hr;have hpl:zm.length=n:=by have:=hr.1;omega
 have hp:zm[k]?=some (zm[k]'(by omega)):=gE (by omega);have Ce:rs[k]?=some (rs[k]'(by omega)):=gE (by omega);have he:=h.each k _ _ Ce hp;have hr':=A7 hr hb (λq hq hm=>by rw[mS.1 hm]at hq;exact A5 hr hnb h1 hq);refine⟨_,_,Ce,?_,A7 he hb (λq hq hm=>by rw[mS.1 hm]at hq;exact A5 he hnb h2 hq),λq hq=>CJ he hq⟩;rw[hr'.cellAt k (by omega),hp]
theorem A1.ah5 {w':World} (h:A1 w w' [k]) (hk:k<w.heap.size):Below k w w':=h.below (qb hk) (λq hq=>by rw[mS.1 hq];exact yF _)
theorem A1.afq {a b c:World}{S:List Nat} (h:A1 a b [n]) (k:A1 b c S) (hS:∀q,q∈S->a.heap.size<=q):A1 a c [n]:=
 ⟨k.os.trans h.os,k.tape.trans h.tape,k.output.trans h.output,y5 h.size k.size,λi hi hn=>(k.block i (lL hi h.size) (λhm=>by have:=hS i hm;omega)).trans (h.block i hi hn)⟩
def K0 (x:Ln):Nat:=(C4 (nth x.2.2 3).data.toList).toNat
def JT (f:ByteArray->Int) (x:Ln) (t u:Nat):Prop:=x.2.1=1/\f (nth x.2.2 1)=2*(t:Int)/\f (nth x.2.2 2)=2*(u:Int)
instance (f:ByteArray->Int) (x:Ln) (t u:Nat):Decidable (JT f x t u):=by unfold JT;infer_instance
theorem XU (f:ByteArray->Int) (x:Ln) (t u:Nat):∀{P:List Ln},(∀y∈P,y.2.1=1->1<=K0 y)->EV f (P++ [x]) t u=if EV f P t u=0/\JT f x t u then K0 x else EV f P t u
 | [],_=>by
  show(if JT f x t u then K0 x else 0)=if(0:Nat)=0/\JT f x t u then K0 x else 0
  by_cases h:JT f x t u
  ·rw[aq h,aq ⟨rfl,h⟩]
  ·rw[au h,au (λe=>h e.2)]
 |y::P,h=>by
  have ih:=XU f x t u (P:=P) (λz hz=>h z (fj _ hz));show(if JT f y t u then K0 y else EV f (P++ [x]) t u)=if(if JT f y t u then K0 y else EV f P t u)=0/\JT f x t u then K0 x else if JT f y t u then K0 y else EV f P t u
  by_cases hy:JT f y t u
  ·have h1:=h y (eo ..) hy.1
   rw[aq hy,aq hy,au (by omega)]
  ·rw[au hy,au hy,ih]
theorem oG (f:ByteArray->Int)  (hx:P[k]?=some x) (h:∀y∈P,y.2.1=1->1<=K0 y) (t u:Nat):EV f (P.take (k+1)) t u=if EV f (P.take k) t u=0/\JT f x t u then K0 x else EV f (P.take k) t u:=by
 obtain⟨hk,e⟩:=yS.1 hx;rw[gz hk,e];exact XU f x t u λy hy=>h y (vh hy)
theorem FW {P:Program}{fn:Func}{p:Tmp}{ty:TypeId} (h:fn.results= #[.cell p ty]) (tmps:Array Value) (w:World) (g:Nat) (t':TypeId) (cs:Array Value) (fr:Nat × Nat) (d:TypeDesc)
  (hp:tmps.getD p undef=ac g) (hg:w.heap[g]?=some (.cells cs t' fr)) (hu:P.underlying ty=some d) (hd:(match d with | .struct _ | .array _ _=>true |_=>false)=true) (hi:(P.info? ty).map (·.size)=some cs.size):
  (results fn tmps).run P w=.ok (.agg cs) w:=by
 have hp':tmps[p]?.getD undef=ac g:=by simpa using hp
 simp[results,h,hp',asAddr,xK w g t' ty cs fr d hg hu hd hi]
end Go.Proofs.YtjjggdcnpndgjaaGreatDoor
