import Derived.Test.YtjjggdcnpndgjabGreatDoorJ16
import Derived.Test.YtjjggdcnpndgjabGreatDoorShelf2
set_option linter.unusedSimpArgs false
set_option maxHeartbeats 1000000
set_option maxRecDepth 100000
namespace Go.Proofs.YtjjggdcnpndgjabGreatDoor
open Go.RowKit Go.Shelf
variable {B i j k n t:Nat}{M:List Nm}{P:List Ln}{TC pv pvs:List Value}{W w:World}{r:List ByteArray}{rs:List (List Pt)}{v v' vN vT:Value}{x:Ln}
theorem Y9 (s:ByteArray) (w:World) (hs:s.size<=4000):Calls Tryz.prog 99 #[.string s] w fun e w'=>e=.returned (.string s)/\Below w.heap.size w w':=by
 have CC:=Tryz.stringslite_Clone s w (by omega)
 go_enter Tryz.func99,Tryz.ntmps99
 go_wp2_with (go_at_call 124;refine CC.mono ?_;rintro e w2 ⟨rfl,hb2⟩)
 go_ret;exact⟨rfl,hb2⟩
theorem K0 {P:Program}{fn:Func}{p t:Tmp}{ty:TypeId} (h:fn.results= #[.cell p ty,.tmp t]) (tmps:Array Value) (w:World) (g:Nat) (t':TypeId) (cs:Array Value) (fr:Nat × Nat) (d:TypeDesc)
  (hp:tmps.getD p undef=ac g) (hg:w.heap[g]?=some (.cells cs t' fr)) (hu:P.underlying ty=some d) (hd:(match d with | .struct _ | .array _ _=>true |_=>false)=true) (hi:(P.info? ty).map (·.size)=some cs.size):
  (results fn tmps).run P w=.ok (.tuple #[.agg cs,tmps.getD t undef]) w:=by
 have hp':tmps[p]?.getD undef=ac g:=by simpa using hp
 simp[results,h,hp',asAddr,run_loadVar_row w g t' ty cs fr d hg hu hd hi,Result.andThen]
theorem lW {ls:List Ln} (h:LnV w B v ls pv):∃a n c,v=.slice a n c:=by
 rcases h.form with⟨h1,_⟩ | ⟨g,cap,h1,_⟩
 ·exact⟨_,_,_,h1⟩
 ·exact⟨_,_,_,h1⟩
theorem qQ (s:ByteArray) (w:World) (hG:DS w) (hs:s.size<=9223372036854775807) (hok:s.size<=4000->LC (AF (AG s 0).1)) (he:(E8 s).1=0) (N:NG) (tws:List ByteArray) (pg:List Nm)
  (hB:∀W B v pv,Below w.heap.size w W->LnV W B v (AF (AG s 0).1) pv->Calls Tryz.prog 60 #[v] W fun e w'=>∃adT capT gN capN,e=.returned (.agg #[.slice adT N.nT capT,ae gN N.nN capN])/\(∀W'',(∀q,W.heap.size<=q->q<w'.heap.size->W''.heap[q]?=w'.heap[q]?)->PGr W'' w'.heap.size N tws pg adT capT gN capN)/\Below W.heap.size W w'):
  Calls Tryz.prog 35 #[.string s] w fun e w'=>∃adT capT gN capN,e=.returned (.tuple #[.agg #[.slice adT N.nT capT,ae gN N.nN capN],ab 0])/\(∀W'',(∀q,w.heap.size<=q->q<w'.heap.size->W''.heap[q]?=w'.heap[q]?)->PGr W'' w'.heap.size N tws pg adT capT gN capN)/\Below w.heap.size w w':=by
 have CC:=dX s (w.alloc (.cells #[.slice none 0 0,.slice none 0 0] 69)) (hG.below ((Below.refl _ w).alloc (lR_ _) _) hG.size) hs hok;have HCC:=hid CC;have HE:Hid ((E8 s).1=0):=hid he;have HB:=hid hB;clear CC hG hok he hB
 go_enter Tryz.func35,Tryz.ntmps35
 go_wp2_with (go_at_call 59;refine HCC.out.mono ?_;rintro e w1 ⟨v,rfl,hL,hb1⟩;obtain⟨B,pv,_,hV⟩:=hL HE.out;obtain⟨av,nv,cv,hve⟩:=lW hV;subst hve;rw[HE.out];have Z1:Hid (w1.heap[w.heap.size]?=some (.cells #[.slice none 0 0,.slice none 0 0] 69 (0,0))):=hid ((hb1.block w.heap.size (by simp)).trans (World.alloc_heap_new w _));have HB1:Hid (Below w.heap.size w w1):=hid ((bal (Below.refl _ _)).trans (hb1.mono (by simp)));have HC:=hid (HB.out w1 B _ pv HB1.out hV);clear hb1 hL hV)
 refine HC.out.mono ?_;rintro e w2 ⟨adT,capT,gN,capN,rfl,hPR,hb2⟩;have Z2:=(hb2.block w.heap.size (lt_of_block Z1.out)).trans Z1.out;have r0:w2.cell? (af w.heap.size 0)=some (.slice none 0 0):=A0 Z2;have r1:w2.cell? (af w.heap.size 1)=some (.slice none 0 0):=A0 Z2;have t0:w2.frozen? (af w.heap.size 0)=false:=A3 Z2;have t1:w2.frozen? (af w.heap.size 1)=false:=A3 Z2;have HZ2:=hid Z2;have HPR:=hid hPR;have HB2:Hid (Below w.heap.size w w2):=hid (HB1.out.trans (hb2.mono HB1.out.size));have hz12:=hb2.size;have hz01:=lt_of_block Z1.out;clear hPR hb2 Z2 HC HCC;go_wp2;have hrow:=A5 (j:=1) (A5 (j:=0) HZ2.out (.slice adT N.nT capT)) (ae gN N.nN capN);have hkw':A1 w2 ((w2.setCell (af w.heap.size 0) (.slice adT N.nT capT)).setCell (af w.heap.size 1) (ae gN N.nN capN)) [w.heap.size]:=((A1.refl w2 [w.heap.size]).setCell (by simp) _).setCell (by simp) _;have hsz:((w2.setCell (af w.heap.size 0) (.slice adT N.nT capT)).setCell (af w.heap.size 1) (ae gN N.nN capN)).heap.size=w2.heap.size:=by simp
 refine⟨rfl,_,K0 (p:=2) (t:=3) (ty:=69) rfl _ _ w.heap.size _ _ _ _ rfl hrow Tryz.underlying69 rfl y1Z,?_⟩;refine⟨adT,capT,gN,capN,rfl,fun W'' hW=>?_,HB2.out.trans (hkw'.below HB2.out.size (fun q hq=>by have:=mS.1 hq;omega))⟩;rw[hsz]at hW ⊢;exact HPR.out W'' (fun q hq1 hq2=>(hW q (by omega) hq2).trans (hkw'.block q hq2 y2Z))
section
theorem NL {e sz:Nat}{xs:List Value} (h:w.ownsRow B e sz v n xs) (hW:∀q,B<=q->q<w.heap.size->W.heap[q]?=w.heap[q]?):W.ownsRow B e sz v n xs:=by
 obtain⟨h1,h2⟩:=h;refine⟨h1,?_⟩
 rcases h2 with h2 | ⟨g,cap,cur,hv,hg,hh,r⟩
 ·exact .inl h2
 ·exact .inr ⟨g,cap,cur,hv,hg,by rw[hW g hg (lt_of_block hh)];exact hh,r⟩
def BP (ps:List Pt):List Value:=ps.flatMap fun p=>[.bool (AQ p),ab (AP p)]
abbrev Tk:=ByteArray × Nat × Nat
def MB (t:Tk) (v:Value):List Value:=[.string t.1,ab (t.2.1:Int),ab (t.2.2:Int),v]
def FJ (T:List Tk):List Value:=T.flatMap fun t=>MB t (.slice none 0 0)
def D6 (T:List Tk) (f:Nat->Value):List Value:=T.zipIdx.flatMap fun x=>MB x.1 (f x.2)
def OI (M:List Nm) (pv:List Value):List Value:=(M.zip pv).flatMap fun t=>[.string t.1.1,t.2]
def jY (w:World) (B:Nat) (v:Value) (ps:List Pt):Prop:=w.ownsRow B 105 2 v ps.length (BP ps)
structure GP (w:World) (B:Nat) (v:Value) (rs:List (List Pt)) (pvs:List Value):Prop where
 row:w.ownsRow B 98 1 v rs.length pvs
 each:∀(i:Nat) ps p,rs[i]?=some ps->pvs[i]?=some p->jY w B p ps
structure BtV (w:World) (B gb n:Nat) (TC:List Value) (M:List Nm) (vT vN:Value) (pv:List Value):Prop where
 blk:w.heap[gb]?=some (.cells #[vT,vN] 69 (0,0))
 hb:B<=gb
 toks:w.ownsRow B 128 4 vT n TC
 names:w.ownsRow B 113 2 vN M.length (OI M pv)
 pvl:pv.length=M.length
 ruls:∀(i:Nat) nm p,M[i]?=some nm->pv[i]?=some p->∃pvs,GP w B p nm.2 pvs
section
variable {w w1:World}{B gb:Nat}{S:List Nat}
theorem GP.keeps  (h:GP w B v rs pvs) (hk:A1 w w1 S) (h1:Off w S 98) (h2:Off w S 105):GP w1 B v rs pvs:=
 ⟨A8 h.row hk (F7 h.row h1),fun i ps p hr hp=>A8 (h.each i ps p hr hp) hk (F7 (h.each i ps p hr hp) h2)⟩
theorem GP.base {B':Nat} (h:GP w B v rs pvs) (hB:B'<=B):GP w B' v rs pvs:=
 ⟨KX h.row hB,fun i ps p hr hp=>KX (h.each i ps p hr hp) hB⟩
theorem GP.setOther {u:Value}{cs:Array Value}{fr:Nat × Nat} (h:GP w B v rs pvs) (hb:w.heap[gb]?=some (.cells cs t fr)) (h1:98≠t) (h2:105≠t):GP (w.setCell (af gb j) u) B v rs pvs:=
 ⟨C2 h.row hb h1,fun i ps p hr hp=>C2 (h.each i ps p hr hp) hb h2⟩
theorem BtV.cells  (h:BtV w B gb n TC M vT vN pv):w.cell? (af gb 0)=some vT/\w.cell? (af gb 1)=some vN/\w.frozen? (af gb 0)=false/\w.frozen? (af gb 1)=false:=
 ⟨A0 h.blk,A0 h.blk,A3 h.blk,A3 h.blk⟩
theorem BtV.below  (h:BtV w B gb n TC M vT vN pv) (hb:Below w.heap.size w w1):BtV w1 B gb n TC M vT vN pv:=
 ⟨(hb.block gb (lt_of_block h.blk)).trans h.blk,h.hb,A8 h.toks (A1.of_below hb []) (by simp),A8 h.names (A1.of_below hb []) (by simp),h.pvl,
  fun i nm p hm hp=>by obtain⟨pvs,hr⟩:=h.ruls i nm p hm hp;exact⟨pvs,hr.keeps (A1.of_below hb []) (GU _ _) (GU _ _)⟩⟩
theorem BtV.addTok {T:List Tk} (h:BtV w B gb n (FJ T) M vT vN pv) (hk:A1 w w1 vT.ownBlock.toList) {t:Tk}
  (hown:w1.ownsRow B 128 4 v' (n+1) (FJ T++MB t (.slice none 0 0))):BtV (w1.setCell (af gb 0) v') B gb (n+1) (FJ (T++ [t])) M v' vN pv:=by
 have hgb:gb∉vT.ownBlock.toList:=fun hm=>A6 h.toks h.blk (by decide) (BE hm)
 have hb1:=(hk.block gb (lt_of_block h.blk) hgb).trans h.blk;refine⟨A5 hb1 v',h.hb,?_,?_,h.pvl,fun i nm p hm hp=>?_⟩
 ·have e:FJ (T++ [t])=FJ T++MB t (.slice none 0 0):=by simp[FJ]
  rw[e];exact C2 hown hb1 (by decide)
 ·exact J7 h.names hk (F7 h.names (AJ h.toks (by decide))) (fun g hg e=>A6 h.names h.blk (by decide) (e▸hg))
 ·obtain⟨pvs,hr⟩:=h.ruls i nm p hm hp
  exact⟨pvs,(hr.keeps hk (AJ h.toks (by decide)) (AJ h.toks (by decide))).setOther hb1 (by decide) (by decide)⟩
theorem BtV.addName {vR:Value} (h:BtV w B gb n TC M vT vN pv) (hk:A1 w w1 vN.ownBlock.toList) {nm:Nm} (hR:GP w B vR nm.2 pvs)
  (hown:w1.ownsRow B 113 2 v' (M.length+1) (OI M pv++ [.string nm.1,vR])):BtV (w1.setCell (af gb 1) v') B gb n TC (M++ [nm]) vT v' (pv++ [vR]):=by
 have hgb:gb∉vN.ownBlock.toList:=fun hm=>A6 h.names h.blk (by decide) (BE hm)
 have hb1:=(hk.block gb (lt_of_block h.blk) hgb).trans h.blk;have hl:=h.pvl;refine⟨A5 hb1 v',h.hb,?_,?_,by simp[hl],fun i q p hm hp=>?_⟩
 ·exact J7 h.toks hk (F7 h.toks (AJ h.names (by decide))) (fun g hg e=>A6 h.toks h.blk (by decide) (e▸hg))
 ·have e:OI (M++ [nm]) (pv++ [vR])=OI M pv++ [.string nm.1,vR]:=by
   unfold OI;rw[List.zip_append hl.symm];simp
  rw[e,lA];exact C2 hown hb1 (by decide)
 ·have keep:∀{v:Value}{rs:List (List Pt)}{ps:List Value},GP w B v rs ps->GP (w1.setCell (af gb 1) v') B v rs ps:=fun hr=>(hr.keeps hk (AJ h.names (by decide)) (AJ h.names (by decide))).setOther hb1 (by decide) (by decide)
  by_cases hi:i<M.length
  ·rw[aL hi]at hm
   rw[aL (by omega)]at hp;obtain⟨ps,hr⟩:=h.ruls i q p hm hp;exact⟨ps,keep hr⟩
  ·rw[aR_ (by omega)]at hm
   rw[aR_ (by omega)]at hp;obtain⟨h1,_⟩:=gS_.1 hm;simp at h1;rw[show i - M.length=0 by omega]at hm;rw[show i - pv.length=0 by omega]at hp;simp at hm hp;subst hm;subst hp;exact⟨pvs,keep hR⟩
end
theorem GP.push {w1:World}{p:Value}{ps:List Pt} (h:GP w B v rs pvs) (hp:jY w B p ps) (hk:A1 w w1 v.ownBlock.toList) (hown:w1.ownsRow B 98 1 v' (rs.length+1) (pvs++ [p])):GP w1 B v' (rs++ [ps]) (pvs++ [p]):=by
 have hpl:pvs.length=rs.length:=by have:=h.row.1;omega
 refine⟨by rw[lA];exact hown,fun i q u hq hu=>?_⟩
 by_cases hi:i<rs.length
 ·rw[aL hi]at hq
  rw[aL (by omega)]at hu;exact A8 (h.each i q u hq hu) hk (F7 (h.each i q u hq hu) (AJ h.row (by decide)))
 ·rw[aR_ (by omega)]at hq
  rw[aR_ (by omega)]at hu;obtain⟨h1,_⟩:=gS_.1 hq;simp at h1;rw[show i - rs.length=0 by omega]at hq;rw[show i - pvs.length=0 by omega]at hu;simp at hq hu;subst hq;subst hu;exact A8 hp hk (F7 hp (AJ h.row (by decide)))
theorem BtV.again {gb:Nat} (h:BtV w B gb n TC M vT vN pv):BtV ((w.setCell (af gb 0) vT).setCell (af gb 1) vN) B gb n TC M vT vN pv:=by
 have hb0:=A5 (j:=0) h.blk vT;have hb1:=A5 (j:=1) hb0 vN;refine⟨hb1,h.hb,?_,?_,h.pvl,fun i nm p hm hp=>?_⟩
 ·exact C2 (C2 h.toks h.blk (by decide)) hb0 (by decide)
 ·exact C2 (C2 h.names h.blk (by decide)) hb0 (by decide)
 ·obtain⟨pvs,hr⟩:=h.ruls i nm p hm hp
  exact⟨pvs,(hr.setOther h.blk (by decide) (by decide)).setOther hb0 (by decide) (by decide)⟩
theorem GP.view {n₀:Nat} (h:GP w B v rs pvs) (h0:0<rs.length) (hn:w.heap.size<=n₀):RD w n₀ v rs:=by
 obtain⟨g,cap,rfl,_,hlt,hc⟩:=AX h.row h0;refine⟨g,cap,rfl,by omega,hc,fun r ps hr=>?_⟩;have hi:=(gS_.1 hr).1;have hpl:pvs.length=rs.length:=by have:=h.row.1;omega
 obtain⟨p,hp⟩:∃p,pvs[r]?=some p:=⟨_,gE (by omega)⟩;refine⟨p,by rw[h.row.cellAt r (by omega)];exact hp,?_⟩;have hP:w.ownsRow B 105 2 p ps.length (BP ps):=h.each r ps p hr hp
 rcases hP.2 with⟨h1,h2⟩ | ⟨g2,cap2,cur,h1,_,hh,hnc,_⟩
 ·exact⟨none,0,by rw[h2];exact h1,by omega,fun h=>by omega⟩
 ·subst h1
  refine⟨_,cap2,rfl,hnc,fun _=>⟨g2,0,rfl,by have:=lt_of_block hh;omega,fun i q hq=>?_⟩⟩;have hil:=(gS_.1 hq).1;have h2:=fun j hj=>RZ (fun p:Pt=>[Value.bool (AQ p),ab (AP p)]) (fun _=>rfl) ps i q j hq hj
  rw[Nat.zero_add];refine⟨?_,?_⟩
  ·rw[hP.cellAt _ (by omega)];exact h2 0 (by omega)
  ·rw[hP.cellAt _ (by omega)];exact h2 1 (by omega)
def SwM (w:World) (b n:Nat) (S:Nat->Nat->Nat):Prop:=∀t,t<n->w.heap[b+t]?=some (.cells ((List.range n).map fun u=>ab (S t u:Int)).toArray 3 (0,0))
def swV (b n t:Nat):Value:=.slice (some (af (b+t) 0)) n n
theorem SwM.agree {b:Nat}{S:Nat->Nat->Nat} (h:SwM w b n S) (hB:B<=b) (hW:∀q,B<=q->q<w.heap.size->W.heap[q]?=w.heap[q]?):SwM W b n S:=
 fun t ht=>(hW (b+t) (by omega) (lt_of_block (h t ht))).trans (h t ht)
theorem SwM.cell {b:Nat}{S:Nat->Nat->Nat} (h:SwM w b n S) {u:Nat} (ht:t<n) (hu:u<n):w.cell? (af (b+t) u)=some (ab (S t u:Int)):=by
 rw[A0 (h t ht)];simp[hu]
theorem JH (T:List Tk) (f:Nat->Value):(D6 T f).length=T.length*4:=by
 unfold D6;have:∀(L:List (Tk × Nat)),(L.flatMap fun x=>MB x.1 (f x.2)).length=L.length*4:=by
  intro L
  induction L with
  |nil=>rfl
  |cons a L ih=>rw[List.flatMap_cons,lA,ih,lC];simp[MB];omega
 rw[this];simp
theorem I8 {T:List Tk}{f:Nat->Value}{x:Tk} (hx:T[t]?=some x)  (hj:j<4):(D6 T f)[t*4+j]?=(MB x (f t))[j]?:=
 P9 (fun x:Tk × Nat=>MB x.1 (f x.2)) (fun _=>rfl) T.zipIdx t (x,t) j (by rw[List.getElem?_zipIdx,hx];simp) hj
theorem BtV.done {gb bs:Nat}{T:List Tk} (h:BtV w B gb T.length (D6 T (swV bs T.length)) M vT vN pv) (hW:∀q,B<=q->q<w.heap.size->W.heap[q]?=w.heap[q]?) {N:NG} (hN:N.Ok) (leN:N.nN<=20) (leT:N.nT<=20) (leR:N.rules.length<=60)
  (hS:SwM w bs T.length N.swp) (hbs:B<=bs)
  (hT:T.length=N.nT) (hM:M.length=N.nN) (hr:N.rules=PM M) (hput:∀t x,T[t]?=some x->x.2.1=N.put t/\x.2.2=N.drop t) (hrl:∀nm∈M,0<nm.2.length) {adT aN:Option Addr}{nT nN capT capN:Nat} (hvT:vT=.slice adT nT capT) (hvN:vN=.slice aN nN capN):
  nT=N.nT/\nN=N.nN/\∃gN,aN=some (af gN 0)/\PGr W w.heap.size N (T.map (·.1)) M adT capT gN capN:=by
 have hTW:=NL h.toks hW;have hNW:=NL h.names hW;have hpos:0<M.length:=by have:=hN.pos;omega
 obtain⟨gN,cN,hsh,_,hgl,hcl⟩:=AX h.names hpos;subst hvN;injection hsh with e1 e2 e3
 subst e1;subst e3;subst hvT;have hnT:nT=T.length/\T.length<=capT/\(0<T.length->∃g,adT=some (af g 0)/\g<w.heap.size):=by
  rcases h.toks.2 with⟨h1,h2⟩ | ⟨g,cap,cur,h1,_,hh,hnc,_⟩
  ·injection h1 with a1 a2 a3
   exact⟨by omega,by omega,fun h=>by omega⟩
  ·injection h1 with a1 a2 a3
   subst a3;exact⟨a2,hnc,fun _=>⟨g,a1,lt_of_block hh⟩⟩
 have hsl:=fun t (ht:t<T.length)=>lt_of_block (hS t ht)
 refine⟨by omega,by omega,gN,rfl,⟨hN,leN,leT,leR,by omega,by omega,by simp[hT],hM,hgl,hr,fun t ht=>?_,fun t ht=>?_,fun n nm hn=>?_⟩⟩
 ·obtain⟨g,rfl,hg⟩:=hnT.2.2 (by omega)
  obtain⟨x,hx⟩:∃x,T[t]?=some x:=⟨_,gE (by omega)⟩;have h4:=fun j hj=>I8 (f:=swV bs T.length) hx (j:=j) hj
  have e1:=hnT.1;subst e1;refine⟨g,rfl,hg,?_,?_⟩
  ·rw[hTW.cellAt _ (by omega)]
   have:nth (T.map (·.1)) t=x.1:=by unfold nth;rw[gD_,gM,hx];rfl
   rw[this];exact h4 0 (by omega)
  ·rw[hTW.cellAt _ (by omega),<-(hput t x hx).1];exact h4 1 (by omega)
 ·obtain⟨g,rfl,hg⟩:=hnT.2.2 (by omega)
  obtain⟨x,hx⟩:∃x,T[t]?=some x:=⟨_,gE (by omega)⟩;have h4:=fun j hj=>I8 (f:=swV bs T.length) hx (j:=j) hj
  have e1:=hnT.1;subst e1;have hSW:=hS.agree hbs hW;refine⟨g,bs+t,T.length,rfl,hg,?_,?_,hsl t (by omega),by omega,fun u hu=>hSW.cell (by omega) (by omega)⟩
  ·rw[hTW.cellAt _ (by omega),<-(hput t x hx).2];exact h4 2 (by omega)
  ·rw[hTW.cellAt _ (by omega),<-hT];exact h4 3 (by omega)
 ·have hi:=(gS_.1 hn).1
  have hpl:=h.pvl;obtain⟨p,hp⟩:∃p,pv[n]?=some p:=⟨_,gE (by omega)⟩;have hz:(M.zip pv)[n]?=some (nm,p):=by rw[List.getElem?_zip_eq_some];exact⟨hn,hp⟩
  have h2:=fun j hj=>RZ (fun t:Nm × Value=>[Value.string t.1.1,t.2]) (fun _=>rfl) (M.zip pv) n (nm,p) j hz hj
  subst e2;refine⟨?_,p,?_,?_⟩
  ·rw[hNW.cellAt _ (by omega)];exact h2 0 (by omega)
  ·rw[hNW.cellAt _ (by omega)];exact h2 1 (by omega)
  ·obtain⟨pvs,hR⟩:=h.ruls n nm p hn hp
   have hRW:GP W B p nm.2 pvs:=⟨NL hR.row hW,fun i ps p hr hp=>NL (hR.each i ps p hr hp) hW⟩;obtain⟨g,cap,hv,hlt,hc,hcell⟩:=hRW.view (hrl nm (mG hn)) (lR_ _);obtain⟨g',cap',hv',_,hlt',_⟩:=AX hR.row (hrl nm (mG hn));rw[hv]at hv';injection hv' with k1 k2 k3
   injection k1 with k1
   injection k1 with k1
   refine⟨g,cap,hv,by omega,hc,fun r ps hr=>?_⟩;obtain⟨q,hq,ad,cq,hq1,hq2,hq3⟩:=hcell r ps hr;refine⟨q,hq,ad,cq,hq1,hq2,fun h0=>?_⟩;obtain⟨g2,off,j1,_,j3⟩:=hq3 h0;refine⟨g2,off,j1,?_,j3⟩;have hpl2:pvs.length=nm.2.length:=by have:=hR.row.1;omega
   have hi2:=(gS_.1 hr).1;obtain⟨q',hq'⟩:∃p,pvs[r]?=some p:=⟨_,gE (by omega)⟩;have hcell2:W.cell? (af g r)=some q':=by
    have h5:=hRW.row;rw[hv]at h5;rw[h5.cellAt r (by omega)];exact hq'
   rw[hcell2]at hq;injection hq with hq
   subst hq;have hP:=hR.each r ps q' hr hq';refine CK hP ?_;rw[hq1,j1];rfl
end
def iF (x:Ln):Tk:=(nth x.2.2 1,(CV (nth x.2.2 2).data.toList).toNat,(CV (nth x.2.2 3).data.toList).toNat)
def tkL (P:List Ln):List Tk:=(B4 P).map iF
theorem lH (P:List Ln):(tkL P).map (·.1)=L6 P:=by
 unfold tkL L6;rw[List.map_map];rfl
theorem uT:∀(t:Nat) x,(tkL P)[t]?=some x->x.2.1=(ngL P).put t/\x.2.2=(ngL P).drop t:=by
 intro t x h;unfold tkL at h;rw[gM]at h;cases hy:(B4 P)[t]? with
 |none=>rw[hy]at h;cases h
 |some y=>
  rw[hy]at h;injection h with h
  subst h;refine⟨?_,?_⟩
  ·show _=(((B4 P)[t]?.map fun x=>CV (nth x.2.2 2).data.toList).getD 0).toNat
   rw[hy];rfl
  ·show _=(((B4 P)[t]?.map fun x=>CV (nth x.2.2 3).data.toList).getD 0).toNat
   rw[hy];rfl
theorem sU (f:ByteArray->Int) (P:List Ln):∀nm∈pgL f P,0<nm.2.length:=by
 intro nm h;obtain⟨x,_,rfl⟩:=List.mem_map.1 h;show 0< ((A9 x.2.2).map _).length;rw[lM];unfold A9;simp
theorem jL  (hx:P[k]?=some x):B4 (P.take (k+1))=B4 (P.take k)++if x.2.1=0 then [x]else []:=by
 obtain⟨hk,e⟩:=gS_.1 hx;unfold B4;rw[List.take_succ_eq_append_getElem hk,e,List.filter_append]
 by_cases h:x.2.1=0 <;> simp[h]
theorem jJ  (hx:P[k]?=some x):AM (P.take (k+1))=AM (P.take k)++if x.2.1=2 then [x]else []:=by
 obtain⟨hk,e⟩:=gS_.1 hx;unfold AM;rw[List.take_succ_eq_append_getElem hk,e,List.filter_append]
 by_cases h:x.2.1=2 <;> simp[h]
theorem p8  (hx:P[k]?=some x):tkL (P.take (k+1))=tkL (P.take k)++if x.2.1=0 then [iF x]else []:=by
 unfold tkL;rw[jL hx,List.map_append];split <;> rfl
theorem oX (f:ByteArray->Int)  (hx:P[k]?=some x):pgL f (P.take (k+1))=pgL f (P.take k)++if x.2.1=2 then [T4 f x]else []:=by
 unfold pgL;rw[jJ hx,List.map_append];split <;> rfl
theorem uJ (P:List Ln) (k:Nat):(tkL (P.take k)).length<=k:=by
 unfold tkL B4;rw[lM];have:=List.length_filter_le (fun x:Ln=>x.2.1==0) (P.take k);rw[List.length_take]at this;omega
theorem uO (f:ByteArray->Int) (P:List Ln) (k:Nat):(pgL f (P.take k)).length<=k:=by
 unfold pgL AM;rw[lM];have:=List.length_filter_le (fun x:Ln=>x.2.1==2) (P.take k);rw[List.length_take]at this;omega
def ptR (f:ByteArray->Int) (r:List ByteArray):List Pt:=r.map fun w=>ptC (f w)
def ptZ (f:ByteArray->Int) (r:List ByteArray) (i:Nat):List Pt:=ptR f (r.take i)++List.replicate (r.length - i) (.tok 0)
theorem tQ (f:ByteArray->Int) (r:List ByteArray)  (h:i<=r.length):(ptZ f r i).length=r.length:=by
 unfold ptZ ptR;simp;omega
theorem rA (f:ByteArray->Int) {u:ByteArray} (h:r[i]?=some u):(ptZ f r i).set i (ptC (f u))=ptZ f r (i+1):=by
 obtain⟨hi,e⟩:=gS_.1 h;unfold ptZ ptR;have hl:((r.take i).map fun w=>ptC (f w)).length=i:=by simp;omega
 rw[List.set_append_right _ _ (by omega),hl,Nat.sub_self];obtain⟨m,hm⟩:∃m,r.length - i=m+1:=⟨r.length - i - 1,by omega⟩;rw[hm,List.replicate_succ,List.set_cons_zero,show r.length - (i+1)=m by omega,List.take_succ_eq_append_getElem hi,e,List.map_append];simp
theorem pQ (f:ByteArray->Int) (r:List ByteArray):ptZ f r r.length=ptR f r:=by unfold ptZ;simp
theorem uH (f:ByteArray->Int) {RS:List (List ByteArray)} (h:RS[j]?=some r):(RS.take (j+1)).map (ptR f)=(RS.take j).map (ptR f)++ [ptR f r]:=by
 obtain⟨hj,e⟩:=gS_.1 h;rw[List.take_succ_eq_append_getElem hj,e,List.map_append];rfl
theorem SP:∀(L:List Pt) (i:Nat) (p:Pt),i<L.length->BP (L.set i p)=((BP L).set (i*2) (.bool (AQ p))).set (i*2+1) (ab (AP p))
 | [],i,_,h=>by simp at h
 |q::L,0,p,_=>by simp[BP]
 |q::L,i+1,p,h=>by
  have h1:=SP L i p y20Z;unfold BP at h1 ⊢;simp only[List.set_cons_succ,List.flatMap_cons];rw[h1];simp only[show(i+1)*2=i*2+1+1 from by omega,List.cons_append,List.nil_append,List.set_cons_succ]
theorem nF (c:Int):AQ (ptC c)=decide (c % 2=1):=by
 unfold ptC;split
 ·rename_i h;simp[AQ,h]
 ·rename_i h;simp[AQ,h]
theorem nZ {c:Int} (h:0<=c):((AP (ptC c):Nat):Int)=c / 2:=by
 unfold ptC;split <;> simp[AP] <;> omega
theorem IR.pos {f:ByteArray->Int}{T M:List ByteArray} (h:IR f T M) (s:ByteArray):0<=f s:=by
 have h1:=h s;cases hM:EN M s with
 |some k=>rw[hM]at h1;have h2:f s=2*(k:Int)+1:=h1;omega
 |none=>
  rw[hM]at h1;cases hT:EN T s with
  |some k=>rw[hT]at h1;have h2:f s=2*(k:Int):=h1;omega
  |none=>rw[hT]at h1;have h2:f s=0:=h1;omega
theorem kL (w:World) (f:ByteArray->Int) (r:List ByteArray) (B:Nat) (hB:B<=w.heap.size) (hr:r.length<=8):
  (w.alloc (.cells (madeCells #[.bool false,ab 0] (r.length*2)) 105)).ownsRow B 105 2 (ae w.heap.size r.length r.length) r.length (BP (ptZ f r 0)):=by
 have h1:=PG w (madeCells #[.bool false,ab 0] (r.length*2)) r.length 2 105 B hB y3Z (size_madeCells _ _);have h2:=NF 2 (by omega) (fun p:Pt=>[Value.bool (AQ p),ab (AP p)]) (fun _=>rfl) (.tok 0) r.length;have h3:ptZ f r 0=List.replicate r.length (.tok 0):=by unfold ptZ ptR;simp
 unfold BP;rw[h3,<-h2];exact h1
theorem pG {pb:Nat} (f:ByteArray->Int) {u:ByteArray} (hu:r[i]?=some u) (hf:0<=f u) (h:w.ownsRow B 105 2 (ae pb r.length r.length) r.length (BP (ptZ f r i))):
  ((w.setCell (af pb (i*2)) (.bool (decide (f u % 2=1)))).setCell (af pb (i*2+1)) (ab (f u / 2))).ownsRow B 105 2 (ae pb r.length r.length) r.length (BP (ptZ f r (i+1))):=by
 have hi:=(gS_.1 hu).1;have h1:=((h.stored (i*2) (.bool (decide (f u % 2=1)))).1.stored (i*2+1) (ab (f u / 2))).1;rw[<-rA f hu,SP _ _ _ (by rw[tQ f r (by omega)];exact hi),nF,nZ hf];exact h1
theorem Q5.atK {w':World}{g cap nb:Nat}{rs:List (List ByteArray)} (h:Q5 w B (ae g n cap) rs pvs) (hn:rs.length=n) (hb:A1 w w' [nb]) {cs:Array Value}{fr:Nat × Nat} (hnb:w.heap[nb]?=some (.cells cs t fr)) (h1:30≠t) (h2:9≠t)  (hk:k<n):
  ∃r p,rs[k]?=some r/\w'.cell? (af g k)=some p/\w'.ownsRow B 9 1 p r.length (r.map Value.string)/\(∀q,p.ownBlock=some q->q<w.heap.size):=by
 have hr:=h.row;rw[hn]at hr;have hpl:pvs.length=n:=by have:=hr.1;omega
 have hp:pvs[k]?=some (pvs[k]'(by omega)):=gE (by omega);have hrk:rs[k]?=some (rs[k]'(by omega)):=gE (by omega);have he:=h.each k _ _ hrk hp;have hr':=A8 hr hb (fun q hq hm=>by rw[mS.1 hm]at hq;exact A6 hr hnb h1 hq);refine⟨_,_,hrk,?_,A8 he hb (fun q hq hm=>by rw[mS.1 hm]at hq;exact A6 he hnb h2 hq),fun q hq=>CK he hq⟩;rw[hr'.cellAt k (by omega),hp]
theorem A1.keepsBelow {w':World} (h:A1 w w' [k]) (hk:k<w.heap.size):Below k w w':=h.below (Nat.le_of_lt hk) (fun q hq=>by rw[mS.1 hq];exact lR_ _)
theorem A1.transOwn {a b c:World}{S:List Nat} (h:A1 a b [n]) (k:A1 b c S) (hS:∀q,q∈S->a.heap.size<=q):A1 a c [n]:=
 ⟨k.os.trans h.os,k.tape.trans h.tape,k.output.trans h.output,lT_ h.size k.size,fun i hi hn=>(k.block i (lL hi h.size) (fun hm=>by have:=hS i hm;omega)).trans (h.block i hi hn)⟩
def K2 (x:Ln):Nat:=(CV (nth x.2.2 3).data.toList).toNat
def JS (f:ByteArray->Int) (x:Ln) (t u:Nat):Prop:=x.2.1=1/\f (nth x.2.2 1)=2*(t:Int)/\f (nth x.2.2 2)=2*(u:Int)
instance (f:ByteArray->Int) (x:Ln) (t u:Nat):Decidable (JS f x t u):=by unfold JS;infer_instance
theorem XH (f:ByteArray->Int) (x:Ln) (t u:Nat):∀{P:List Ln},(∀y∈P,y.2.1=1->1<=K2 y)->EO f (P++ [x]) t u=if EO f P t u=0/\JS f x t u then K2 x else EO f P t u
 | [],_=>by
  show(if JS f x t u then K2 x else 0)=if(0:Nat)=0/\JS f x t u then K2 x else 0
  by_cases h:JS f x t u
  ·rw[if_pos h,if_pos ⟨rfl,h⟩]
  ·rw[if_neg h,if_neg (fun e=>h e.2)]
 |y::P,h=>by
  have ih:=XH f x t u (P:=P) (fun z hz=>h z (List.mem_cons_of_mem _ hz));show(if JS f y t u then K2 y else EO f (P++ [x]) t u)=if(if JS f y t u then K2 y else EO f P t u)=0/\JS f x t u then K2 x else if JS f y t u then K2 y else EO f P t u
  by_cases hy:JS f y t u
  ·have h1:=h y (List.mem_cons_self ..) hy.1
   rw[if_pos hy,if_pos hy,if_neg (by omega)]
  ·rw[if_neg hy,if_neg hy,ih]
theorem kZ (f:ByteArray->Int)  (hx:P[k]?=some x) (h:∀y∈P,y.2.1=1->1<=K2 y) (t u:Nat):EO f (P.take (k+1)) t u=if EO f (P.take k) t u=0/\JS f x t u then K2 x else EO f (P.take k) t u:=by
 obtain⟨hk,e⟩:=gS_.1 hx;rw[List.take_succ_eq_append_getElem hk,e];exact XH f x t u fun y hy=>h y (List.mem_of_mem_take hy)
theorem FV {P:Program}{fn:Func}{p:Tmp}{ty:TypeId} (h:fn.results= #[.cell p ty]) (tmps:Array Value) (w:World) (g:Nat) (t':TypeId) (cs:Array Value) (fr:Nat × Nat) (d:TypeDesc)
  (hp:tmps.getD p undef=ac g) (hg:w.heap[g]?=some (.cells cs t' fr)) (hu:P.underlying ty=some d) (hd:(match d with | .struct _ | .array _ _=>true |_=>false)=true) (hi:(P.info? ty).map (·.size)=some cs.size):
  (results fn tmps).run P w=.ok (.agg cs) w:=by
 have hp':tmps[p]?.getD undef=ac g:=by simpa using hp
 simp[results,h,hp',asAddr,run_loadVar_row w g t' ty cs fr d hg hu hd hi]
end Go.Proofs.YtjjggdcnpndgjabGreatDoor
