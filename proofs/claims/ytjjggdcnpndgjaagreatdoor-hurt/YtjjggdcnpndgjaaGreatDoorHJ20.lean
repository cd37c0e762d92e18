import Derived.Test.YtjjggdcnpndgjaaGreatDoorHJ19
import Derived.ChangeMaps5
import Derived.ChangeSlices
import Derived.Carry
import Derived.SizedLaws
import Derived.Lay
import Derived.SevenTiedAt
import Derived.Stop.Joined
import Derived.JoinedCond
import Derived.Deep.DeepHandedRow
import Derived.Test.YtjjggdcnpndgjaaGreatDoorRows
import Derived.ProofKit
import Derived.LaidMore
import Derived.OpenShut
import Derived.Shelf.Vars
import Derived.Lib.LaidTab
import Derived.Laws.MakeOwn
set_option linter.unusedSimpArgs false
set_option maxRecDepth 100000
namespace Go.Proofs.YtjjggdcnpndgjaaGreatDoor
abbrev td:=@Option.some.inj
abbrev vo:=@List.mem_append_left
abbrev vw:=@List.zipIdx_cons
abbrev xO:=@List.flatMap_assoc
abbrev yA:=@List.filter_flatMap
abbrev yI:=@List.zip_cons_cons
abbrev yJ:=@List.length_zipIdx
open Go.RowKit
variable {i:Nat}{l:List Value}{m:Mk}{p:List MemPlace}{v:Value}{w:World}
section
open Go Go.ChangeShapes Go.WideShapes Go.ChangeAt Go.RowKit
open Go.ChangeMaps (shut_string)
theorem laid:laidOutB Tryz.prog=true:=by kernel_rfl
theorem oK {H:Type}{enc:TypeId × Value->H}{W:World}{d:DataW H} (hv:∃a len cap,v=.slice a len cap) (hs:∀e s,d=.slice e s->(e.length+s.length)*Tryz.prog.bytesOf 3<=reachBytes) (h:DataW.Trod enc Tryz.prog W 0 (λ_=>true) true 45 v d p):KB W v:=by
 obtain⟨a0,len,cap,rfl⟩:=hv;obtain⟨fuel,hf⟩:=h;have hc:Tryz.prog.cellsOf 3=1:=by kernel_rfl
 have hb:Tryz.prog.bytesOf 3=8:=by kernel_rfl
 rcases open_ints Tryz.underlying45 Tryz.underlying3 hc hf with⟨hcs,_⟩ | ⟨a,len',cap',zs,hcs,_,hl,_,hz,hx,hcell,hw⟩
 ·simp[Value.cells]at hcs
  obtain⟨rfl,rfl,rfl⟩:=hcs;exact⟨none,0,0,rfl,yF _,by omega,λh=>by omega⟩
 ·simp[Value.cells]at hcs
  obtain⟨rfl,rfl,rfl⟩:=hcs;simp only[Prod.mk.injEq]at hx;obtain⟨rfl,_⟩:=hx;have hr:=hs _ _ rfl;have h47:=reachBytes_lt;simp only[xz]at hz;rw[hb]at hr;simp only[lits,lM,nk,ku,hz]at hr;refine⟨some a,len,cap,rfl,hl,by omega,λh0=>?_⟩;obtain⟨b,off,spot⟩:=a;have hspot:spot=none:=by simpa[Addr.add] using World.cell?_spot (hcell 0 (by omega))
  subst hspot;refine⟨b,off,rfl,?_,λj hj=>⟨zs.getD j 0,?_,?_⟩⟩
  ·exact bq W _ (hcell 0 (by omega))
  ·have h:=hcell j (by omega);rw[add_plain]at h;exact h
  ·have hm:zs.getD j 0∈zs:=by
    have hj':j<zs.length:=by omega
    simp[List.getD,gE hj']
   have:=hw _ hm;simp[Lit.wf,IntKind.min,IntKind.max,show IntKind.i64.signed=true from rfl,show IntKind.i64.bits=64 from rfl]at this;unfold Ja;exact this
theorem own:ownKnob Tryz.prog.godebug=none:=by kernel_rfl
end
section
open Go Go.RowKit
set_option maxRecDepth 100000
theorem N2 {P:Program}{w:World}:∀{l:List (String × DataW Unit)}{ps:List MemPlace},DataW.LaidVars P w l ps->∀(n:String) (d:DataW Unit),(n,d)∈l->
  ∃g t cs fuel p,P.globalNamed n=some g/\(P.globals[g]?).map (·.type)=some t/\w.var? P n=some cs/\DataW.trod (λ_=>()) P w 0 (λ_=>true) false fuel t cs.toList=some (d,p)
 | [],_,_,n,d,hm=>by cases hm
 | (m,e)::r,_,⟨g,t,cs,fuel,p,q,h1,h2,h3,h4,h5,_⟩,n,d,hm=>by
  rcases bh.1 hm with h |h
  ·cases h;exact⟨g,t,cs,fuel,p,h1,h2,h3,h4⟩
  ·exact N2 h5 n d h
theorem MU {P:Program}{n:String}{g:Nat}{cs:Array Value} (hg:P.globalNamed n=some g) (h:w.var? P n=some cs):∃t fr,w.heap[g]?=some (.cells cs t fr):=by
 simp only[World.var?,hg,Option.bind_some]at h;split at h
 ·rename_i cs' t fr hh
  cases h;exact⟨t,fr,hh⟩
 ·cases h
section
variable {W:World}{sp:Nat->Bool}{held:Bool}
theorem dJ {m:Nat}{a b c:Int} (hl:l.length=3) (h:DataW.trod (λ_=>()) Tryz.prog W 0 sp held m 337 l=some (.agg [.lit (.int .i64 a),.lit (.int .i64 b),.lit (.int .i64 c)],p)):
  l=[ab a,ab b,ab c]:=by
 obtain⟨xs,n,_,hx,_,hxl,hall⟩:=DataW.trod_array Tryz.underlying337 h;have ck:Tryz.prog.cellsOf 336=1:=by kernel_rfl
 match l,hl,xs,hxl with
 | [v0,v1,v2],_,[x0,x1,x2],_=>
  have h0:=hall 0 (by decide);have h1:=hall 1 (by decide);have h2:=hall 2 (by decide);rw[ck]at h0 h1 h2;obtain⟨z0,e0,f0,_⟩:=DataW.trod_int Tryz.underlying336 h0;obtain⟨z1,e1,f1,_⟩:=DataW.trod_int Tryz.underlying336 h1;obtain⟨z2,e2,f2,_⟩:=DataW.trod_int Tryz.underlying336 h2;simp at e0 e1 e2;subst e0 e1 e2 f0 f1 f2;have:=(Prod.mk.inj hx).1;simp at this;obtain⟨rfl,rfl,rfl⟩:=this;rfl
theorem NX {m:Nat}{s:List UInt8}{a b c:Int} (h:DataW.trod (λ_=>()) Tryz.prog W 0 sp held m 339 l=some (.agg [.lit (.string s),.agg [.lit (.int .i64 a),.lit (.int .i64 b),.lit (.int .i64 c)]],p)):
  l=[.string ⟨s.toArray⟩,ab a,ab b,ab c]:=by
 obtain⟨xs,n,_,hx,hl,hxl,hall⟩:=DataW.trod_struct Tryz.underlying339 h;have cS:Tryz.prog.cellsOf 339=4:=by kernel_rfl
 have cs:Tryz.prog.cellsOf 9=1:=by kernel_rfl
 have cb:Tryz.prog.cellsOf 337=3:=by kernel_rfl
 rw[cS]at hl
 match l,hl,xs,hxl with
 | [v0,v1,v2,v3],_,[x0,x1],_=>
  have h0:DataW.trod _ Tryz.prog W 0 sp held n 9 (([v0,v1,v2,v3].drop 0).take (Tryz.prog.cellsOf 9))=_:=hall 0 _ rfl;have h1:DataW.trod _ Tryz.prog W 0 sp held n 337 (([v0,v1,v2,v3].drop 1).take (Tryz.prog.cellsOf 337))=_:=hall 1 _ rfl;rw[cs]at h0;rw[cb]at h1;have hx':=(Prod.mk.inj hx).1;simp only[jv,ur,DataW.agg.injEq,List.cons.injEq,and_true]at hx';obtain⟨s',e0,f0,_⟩:=DataW.trod_string Tryz.underlying9 h0;obtain⟨y1,q1⟩:=x1;obtain rfl:y1=_:=hx'.2.symm;have e1:=dJ (by simp) h1;simp at e0 e1;obtain⟨rfl,rfl,rfl⟩:=e1;subst e0 f0;have:=hx'.1;simp at this;subst this;rfl
theorem aU {m:Nat} (h:DataW.trod (λ_=>()) Tryz.prog W 0 sp held m 340 l=some (Rows.laid_darn_source_shapes,p)):
  l=[.string ⟨#[116,111,107,101,110]⟩,ab 1,ab 3,ab 3,.string ⟨#[115,119,97,112]⟩,ab 1,ab 1,ab 3,.string ⟨#[114,117,108,101]⟩,ab 2,ab 4,ab 5]:=by
 obtain⟨xs,n,_,hx,hl,hxl,hall⟩:=DataW.trod_array Tryz.underlying340 h;have cS:Tryz.prog.cellsOf 339=4:=by kernel_rfl
 have cA:Tryz.prog.cellsOf 340=12:=by kernel_rfl
 rw[cA]at hl
 match l,hl,xs,hxl with
 | [v0,v1,v2,v3,v4,v5,v6,v7,v8,v9,v10,v11],_,[x0,x1,x2],_=>
  have h0:=hall 0 (by decide);have h1:=hall 1 (by decide);have h2:=hall 2 (by decide);rw[cS]at h0 h1 h2;have hx':=(Prod.mk.inj hx).1;unfold Rows.laid_darn_source_shapes at hx';simp only[jv,ur,DataW.agg.injEq,List.cons.injEq,and_true]at hx';obtain⟨y0,q0⟩:=x0;obtain⟨y1,q1⟩:=x1;obtain⟨y2,q2⟩:=x2;obtain rfl:y0=_:=hx'.1.symm;obtain rfl:y1=_:=hx'.2.1.symm;obtain rfl:y2=_:=hx'.2.2.symm;have e0:=NX h0;have e1:=NX h1;have e2:=NX h2;simp at e0 e1 e2;obtain⟨rfl,rfl,rfl,rfl⟩:=e0;obtain⟨rfl,rfl,rfl,rfl⟩:=e1;obtain⟨rfl,rfl,rfl,rfl⟩:=e2;rfl
end
theorem uZ:Tryz.prog.globalNamed "darn/source.shapes" =some 0:=by kernel_rfl
theorem uB:(Tryz.prog.globals[0]?).map (·.type)=some 340:=by kernel_rfl
theorem vY:Tryz.prog.globalNamed "strconv.ErrRange" =some 4:=by kernel_rfl
theorem wT:(Tryz.prog.globals[4]?).map (·.type)=some 358:=by kernel_rfl
theorem x4:Tryz.prog.globalNamed "math/bits.deBruijn64tab" =some 8:=by kernel_rfl
theorem wE:Tryz.prog.globalNamed "math/bits.deBruijn32tab" =some 1:=by kernel_rfl
theorem wV:(Tryz.prog.globals[1]?).map (·.type)=some 343:=by kernel_rfl
theorem x5:Tryz.prog.globals.size=9:=by kernel_rfl
theorem fV {W:World} (hL:laidMetH Tryz.prog Rows.tellsRow.laid W) (hsh:W.ShapedOpen Tryz.prog):DT W/\TabAt 1 Lib.deBruijn32tab W:=by
 rw[MakeChecks.laidMetH_plain _ _ _ yg]at hL;obtain⟨ps,hv,_⟩:=hL;have aio:∃t fr,W.heap[0]?=some (.cells #[.string ⟨#[116,111,107,101,110]⟩,ab 1,ab 3,ab 3,.string ⟨#[115,119,97,112]⟩,ab 1,ab 1,ab 3,.string ⟨#[114,117,108,101]⟩,ab 2,ab 4,ab 5] t fr):=by
  obtain⟨g,t,cs,fuel,p,h1,h2,h3,h4⟩:=N2 hv "darn/source.shapes" Rows.laid_darn_source_shapes abS;obtain rfl:=td (uZ.symm.trans h1);obtain rfl:=td (uB.symm.trans h2);obtain⟨t,fr,hb⟩:=MU h1 h3;have e:=aU h4;obtain⟨l⟩:=cs;simp only at e;subst e;exact⟨t,fr,hb⟩
 have aip:∃te pe,W.cell? (af 4 0)=some (.iface te pe):=by
  obtain⟨g,t,cs,fuel,p,h1,h2,h3,h4⟩:=N2 hv "strconv.ErrRange" Rows.laid_strconv_ErrRange abS;obtain rfl:=td (vY.symm.trans h1);obtain rfl:=td (wT.symm.trans h2);obtain⟨_,u,v,e,_,_⟩:=iface_of_trod Tryz.underlying358 h4;obtain⟨l⟩:=cs;simp only at e;subst e;exact⟨u,v,World.var?_cell h1 h3 0⟩
 have ab5:TabAt 1 Lib.deBruijn32tab W:=by
  obtain⟨g,t,cs,fuel,p,h1,h2,h3,h4⟩:=N2 hv "math/bits.deBruijn32tab" Rows.laid_math_bits_deBruijn32tab abS;obtain rfl:=td (wE.symm.trans h1);obtain rfl:=td (wV.symm.trans h2);obtain⟨t,fr,hb⟩:=MU h1 h3;have e:=Lib.cells_of_tab (zs:=Lib.deBruijn32tab.map fun(n:Nat)=>(n:Int)) Tryz.underlying343 Tryz.underlying5 yg yg (show _=some (Lib.tabData .u8 (Lib.deBruijn32tab.map fun(n:Nat)=>(n:Int)),p) from h4);intro j hj;rw[A0 hb];have e2:cs[j]?=cs.toList[j]?:=by simp
  rw[e2,e,pz,gM,zh,gE hj];rfl
 refine⟨⟨?_,?_,aip,aio⟩,ab5⟩
 ·obtain⟨g,t,cs,fuel,p,h1,h2,h3,h4⟩:=N2 hv "math/bits.deBruijn64tab" Rows.laid_math_bits_deBruijn64tab abS
  obtain rfl:=td (x4.symm.trans h1);obtain⟨t,fr,hb⟩:=MU h1 h3;have:=(mh.1 hb).1;omega
 ·exact cell_of_shapedOpen_int (zero:= #[ab 0]) (t:=3) hsh (by rw[x5];decide) yg rfl yg yg Tryz.underlying3
end
theorem O5 {α β:Type}{f:α->List β}{g:α->β}:∀{l:List α},(∀a∈l,f a=[g a])->l.flatMap f=l.map g
 | [],_=>rfl
 |a::l,h=>by rw[gy,h a (by simp),O5 (λb hb=>h b (by simp[hb]))];rfl
theorem rC:ByteArray.empty.toList.isEmpty=true:=by decide+kernel
def J4 (m:Mk):List (List ByteArray):=(F7 m).map λws=>ws.map ba
def JW (m:Mk) (i:Nat):List ByteArray:=(KI i (m.yP.getD i 0) (m.zk.getD i 0)).map ba
def PV (m:Mk) (i:Nat):List (List ByteArray):=(List.range m.yP.length).flatMap λj=>if 0<D1 m i j then [(IC i j (D1 m i j)).map ba]else []
def PJ (x:List (List Pt) × Nat):List ByteArray:=(E4 x.2 x.1).map ba
theorem QE (m:Mk):J4 m=((List.range m.yP.length).flatMap λi=>JW m i::PV m i)++m.rules.zipIdx.map PJ:=by
 unfold J4 F7;rw[ew,rq,pz]
 congr 1
 congr 1
 funext i
 unfold I4;rw[jv,rq]
 congr 1
 unfold PV
 congr 1
 funext j
 split <;> rfl
theorem X3:∀(L:List (List ByteArray)) (o:List Nat),(∀ws∈L,¬ws.length=1)->AF (o.zip L)=(o.zip L).map λx=>(x.1,AW x.2,x.2)
 | [],o,_=>by simp[AF]
 |ws::L,[],_=>by simp[AF]
 |ws::L,a::o,h=>by
  rw[yI,ME (by exact h ws (by simp)),X3 L o (λx hx=>h x Le)];rfl
theorem XA {β:Type} (g:Nat->List ByteArray->β):∀(L:List (List ByteArray)) (o:List Nat),o.length=L.length->((o.zip L).map λx=>(x.1,AW x.2,x.2)).map (λx:Ln=>g x.2.1 x.2.2)=L.map λws=>g (AW ws) ws
 | [],o,h=>by simp
 |ws::L,[],h=>by simp at h
 |ws::L,a::o,h=>by
  rw[yI,jv,jv,jv,XA g L o Kb]
theorem VE {β:Type} (k:Nat) (g:List ByteArray->β):∀(L:List (List ByteArray)) (o:List Nat),o.length=L.length->(((o.zip L).map λx=>(x.1,AW x.2,x.2)).filter λx:Ln=>x.2.1==k).map (λx:Ln=>g x.2.2)=(L.filter λws=>AW ws==k).map g
 | [],o,h=>by simp
 |ws::L,[],h=>by simp at h
 |ws::L,a::o,h=>by
  have ih:=VE k g L o Kb;rw[yI,jv,xW,xW]
  by_cases hk:AW ws==k
  ·rw[aq hk,aq hk,jv,jv,ih]
  ·rw[au hk,au hk,ih]
theorem bN:∀(ls:List (List UInt8)) (a:Nat),(RJ ls a).length=ls.length
 | [],_=>rfl
 |l::r,a=>by unfold RJ;rw[lC,lC,bN r]
def pM (m:Mk):List Ln:=AF (AG (DB m) 0).1
theorem kM  (h:m.Good):pM m=((RJ ((F7 m).map BP) 0).zip (J4 m)).map λx=>(x.1,AW x.2,x.2):=by
 unfold pM;rw[XB h];exact X3 _ _ (λws hw=>by
  obtain⟨x,hx,rfl⟩:=cj.1 hw;exact(gA h hx).2)
theorem Y5 (m:Mk):(RJ ((F7 m).map BP) 0).length=(J4 m).length:=by
 rw[bN];unfold J4;simp
theorem aD {β:Type} (h:m.Good) (g:Nat->List ByteArray->β):(pM m).map (λx=>g x.2.1 x.2.2)=(J4 m).map λws=>g (AW ws) ws:=by
 rw[kM h];exact XA g _ _ (Y5 m)
theorem XM {β:Type} (h:m.Good) (k:Nat) (g:List ByteArray->β):((pM m).filter λx=>x.2.1==k).map (λx=>g x.2.2)=((J4 m).filter λws=>AW ws==k).map g:=by
 rw[kM h];exact VE k g _ _ (Y5 m)
theorem LQ  (h:m.Good)  (hi:i<m.yP.length):AW (JW m i)=0:=by
 have:=h.t6;exact(TB (by omega) (JM h.p1 hi) (JM h.d1 abU)).2
theorem NV  (h:m.Good)  (hi:i<m.yP.length):∀ws∈PV m i,AW ws=1/\∃j c,j<m.yP.length/\i≠j/\ws=[ba [115,119,97,112],AA i,AA j,E8 c]:=by
 intro ws hw;unfold PV at hw;rw[ow]at hw;obtain⟨j,hj,hw⟩:=hw;have hj:=ir.1 hj;have:=h.t6;split at hw
 ·rename_i h0
  obtain rfl:=mS.1 hw;rw[IH];exact⟨(PO (by omega) (by omega) ⟨h0,K5 h i j⟩).2,j,_,hj,λe=>by subst e;rw[UD h]at h0;omega,rfl⟩
 ·cases hw
theorem NW  (h:m.Good) {x:List (List Pt) × Nat} (hx:x∈m.rules.zipIdx):AW (PJ x)=2:=(PA h (jx.1 hx)).2
theorem UQ {α:Type}{p:α->Bool}{l:List α} (h:∀a∈l,p a=true):l.filter p=l:=List.filter_eq_self.2 h
theorem MK {α:Type}{p:α->Bool}{l:List α} (h:∀a∈l,p a=false):l.filter p=[]:=by
 rw[xT];intro a ha;rw[h a ha];simp
theorem pC  (h:m.Good):((J4 m).filter λws=>AW ws==0)=(List.range m.yP.length).map (JW m):=by
 rw[QE,oz,yA];have e2:((m.rules.zipIdx.map PJ).filter λws=>AW ws==0)=[]:=MK λws hw=>by
  obtain⟨x,hx,rfl⟩:=cj.1 hw;rw[NW h hx];rfl
 rw[e2,iq];have e1:∀i∈List.range m.yP.length,((JW m i::PV m i).filter λws=>AW ws==0)=[JW m i]:=λi hi=>by
  have hi:=ir.1 hi;rw[qp (by rw[LQ h hi];rfl),MK (λws hw=>by rw[(NV h hi ws hw).1];rfl)]
 exact O5 e1
theorem lY  (h:m.Good):((J4 m).filter λws=>AW ws==2)=m.rules.zipIdx.map PJ:=by
 rw[QE,oz,yA];have e1:((List.range m.yP.length).flatMap λi=>(JW m i::PV m i).filter λws=>AW ws==2)=[]:=by
  rw[List.flatMap_eq_nil_iff];intro i hi;have hi:=ir.1 hi;exact MK λws hw=>by
   rcases bh.1 hw with rfl |hw
   ·rw[LQ h hi];rfl
   ·rw[(NV h hi ws hw).1];rfl
 rw[e1,eu];exact UQ λws hw=>by
  obtain⟨x,hx,rfl⟩:=cj.1 hw;rw[NW h hx];rfl
theorem LU {β:Type} (h:m.Good) (g:List ByteArray->β):(B2 (pM m)).map (λx=>g x.2.2)=(List.range m.yP.length).map λi=>g (JW m i):=by
 unfold B2;rw[XM h 0 g,pC h,pz];rfl
theorem LV {β:Type} (h:m.Good) (g:List ByteArray->β):(AM (pM m)).map (λx=>g x.2.2)=m.rules.zipIdx.map λx=>g (PJ x):=by
 unfold AM;rw[XM h 2 g,lY h,pz];rfl
theorem O0  (h:m.Good):AH (pM m)=(List.range m.yP.length).map AA++(List.range m.rules.length).map BL:=by
 have hne:∀{i:Nat},i<6->(AA i).toList.isEmpty=false:=λhi=>S8 (OB _ hi)
 have hnn:∀{i:Nat},i<4->(BL i).toList.isEmpty=false:=λhi=>S8 (TG _ hi)
 have Ji:=h.t6;have Ia:=h.n4;unfold AH;rw[aD h BC,QE,ew,oz,rq,yA,pz]
 congr 1
 ·have e1:∀i∈List.range m.yP.length,(((JW m i::PV m i).map λws=>BC (AW ws) ws).filter λs=> !s.toList.isEmpty)=[AA i]:=λi hi=>by
   have hi:=ir.1 hi;rw[jv,LQ h hi];have e:BC 0 (JW m i)=AA i:=rfl;rw[e,qp (by rw[hne (by omega)];rfl)]
   congr 1
   refine MK λs hs=>?_
   obtain⟨ws,hw,rfl⟩:=cj.1 hs;rw[(NV h hi ws hw).1];show(!ByteArray.empty.toList.isEmpty)=false;rw[rC];rfl
  exact O5 e1
 ·have e2:(m.rules.zipIdx.map ((λws=>BC (AW ws) ws) ∘ PJ))=(List.range m.rules.length).map BL:=by
   apply nu;intro i;rw[gM,gM]
   by_cases hi:i<m.rules.length
   ·rw[om,gE hi,ng hi]
    simp only[ko,Function.comp_apply,jl]
    congr 1
    rw[NW h (jx.2 (gE hi))];rfl
   ·rw[dy yM,dy yM];rfl
  rw[e2];exact UQ λs hs=>by
   obtain⟨i,hi,rfl⟩:=cj.1 hs;rw[hnn (by have:=ir.1 hi;omega)];rfl
theorem P5:∀(P:List Ln) (ws:List ByteArray),(ws++AH P).Pairwise (λa b=>(a.toList==b.toList)=false)->CK P ws=none
 | [],_,_=>rfl
 |x::P,ws,h=>by
  rw[SH]at h;rw[CK];cases he:(BC x.2.1 x.2.2).toList.isEmpty with
  |true=>
   rw[he,aq rfl,eu]at h;rw[aq rfl];exact P5 P ws h
  |false=>
   rw[he,au (by decide)]at h;have hc:¬0<cnt ws (BC x.2.1 x.2.2):=by
    rw[OH,ot];rintro⟨a,ha,hab⟩;have:=(List.pairwise_append.1 h).2.2 a ha (BC x.2.1 x.2.2) (by simp);rw[hab]at this;cases this
   rw[au (by decide),au hc];exact P5 P _ (by rw[aA];exact h)
theorem RV:∀(P:List Ln) (t n r:Nat),t+(B2 P).length<=20->n+(AM P).length<=20->r+((AM P).flatMap λx=>A8 x.2.2).length<=60->(∀x∈AM P,DW (A8 x.2.2)<=8)->BU P t n r=none
 | [],_,_,_,_,_,_,_=>rfl
 |x::P,t,n,r,h1,h2,h3,h4=>by
  rw[BU]
  by_cases h0:x.2.1=0
  ·have Kg:¬x.2.1=2:=by omega
   have e1:B2 (x::P)=x::B2 P:=by unfold B2;rw[qp Rf]
   have e2:AM (x::P)=AM P:=by unfold AM;rw[qq Rf]
   rw[e1,lC]at h1;rw[e2]at h2 h3 h4;simp only[aq h0,au Kg];rw[au (by omega)];exact RV P _ _ _ (by omega) h2 h3 h4
  ·have e1:B2 (x::P)=B2 P:=by unfold B2;rw[qq Rf]
   rw[e1]at h1
   by_cases Kg:x.2.1=2
   ·have e2:AM (x::P)=x::AM P:=by unfold AM;rw[qp (by simp[Kg])]
    rw[e2]at h2 h3 h4;rw[lC]at h2;rw[gy,lA]at h3;have h5:=h4 x (by simp);simp only[au h0,aq Kg];rw[au (by omega)];exact RV P _ _ _ h1 (by omega) (by omega) (λy hy=>h4 y (by simp[hy]))
   ·have e2:AM (x::P)=AM P:=by unfold AM;rw[qq (by simp[Kg])]
    rw[e2]at h2 h3 h4;simp only[au h0,au Kg];rw[au (by omega)];exact RV P _ _ _ h1 h2 h3 h4
theorem mC:∀{P:List Ln}{ws:List ByteArray},(∀x∈P,EW ws x=false)->F3 ws P=none
 | [],_,_=>rfl
 |x::P,ws,h=>by
  rw[F3,h x (by simp),au (by decide)];exact mC λy hy=>h y (by simp[hy])
theorem uA {rs:List (List ByteArray)}{b:Nat} (h:∀r∈rs,r.length<=b):DW rs<=b:=by
 have key:∀(rs:List (List ByteArray)) (m:Nat),m<=b->(∀r∈rs,r.length<=b)->rs.foldl (λm r=>max m r.length) m<=b:=by
  intro rs
  induction rs with
  |nil=>intro m hm _;exact hm
  |cons a rs ih=>
   intro m hm hr;rw[ld];have:=hr a (by simp);exact ih _ (by omega) (λx hx=>hr x Le)
 exact key rs 0 (by omega) h
theorem JQ {α β:Type}{f:α->List β}{b:Nat}:∀{l:List α},(∀a∈l,(f a).length<=b)->(l.flatMap f).length<=l.length*b
 | [],_=>by simp
 |a::l,h=>by
  rw[gy,lA,lC,uw];have h1:=h a (by simp);have h2:=JQ (l:=l) (λx hx=>h x Le);omega
theorem Y0  (h:m.Good) {x:Ln} (hx:x∈AM (pM m)):∃(n:Nat) (rs:List (List Pt)),m.rules[n]?=some rs/\x.2.2=(E4 n rs).map ba:=by
 have h1:=LV h (λws=>ws);have h2:x.2.2∈(AM (pM m)).map (λx=>x.2.2):=cj.2 ⟨x,hx,rfl⟩;rw[h1]at h2;obtain⟨⟨rs,n⟩,hy,e⟩:=cj.1 h2;exact⟨n,rs,jx.1 hy,e.symm⟩
theorem oN  (h:m.Good):(B2 (pM m)).length=m.yP.length:=by
 have:=congrArg List.length (LU h (λws=>ws));simpa using this
theorem QP  (h:m.Good):(AM (pM m)).length=m.rules.length:=by
 have:=congrArg List.length (LV h (λws=>ws));simpa using this
theorem gU  (h:m.Good):(AH (pM m)).Pairwise (λa b=>(a.toList==b.toList)=false):=by
 have Ji:=h.t6;have Ia:=h.n4;rw[O0 h,List.pairwise_append];refine⟨?_,?_,?_⟩
 ·rw[List.pairwise_map]
  refine List.Pairwise.imp_of_mem (R:=λa b=>a<b) ?_ List.pairwise_lt_range;intro a b ha hb hlt;have ha:=ir.1 ha;have hb:=ir.1 hb;rw[RD a (by omega) b (by omega),fq (by omega)]
 ·rw[List.pairwise_map]
  refine List.Pairwise.imp_of_mem (R:=λa b=>a<b) ?_ List.pairwise_lt_range;intro a b ha hb hlt;have ha:=ir.1 ha;have hb:=ir.1 hb;rw[kW a (by omega) b (by omega),fq (by omega)]
 ·intro a ha b hb
  obtain⟨i,hi,rfl⟩:=cj.1 ha;obtain⟨j,hj,rfl⟩:=cj.1 hb;have hi:=ir.1 hi;have hj:=ir.1 hj;exact WH i (by omega) j (by omega)
theorem RE  (h:m.Good)  (hi:i<m.yP.length):(cnt (AH (pM m)) (AA i)==0)=false:=by
 have:0<cnt (AH (pM m)) (AA i):=by
  rw[OH,ot];exact⟨AA i,by rw[O0 h];exact vo _ (cj.2 ⟨i,ir.2 hi,rfl⟩),by simp⟩
 rw[jz];omega
theorem oL  (h:m.Good)  (hi:i<m.rules.length):(cnt (AH (pM m)) (BL i)==0)=false:=by
 have:0<cnt (AH (pM m)) (BL i):=by
  rw[OH,ot];exact⟨BL i,by rw[O0 h];exact ux _ (cj.2 ⟨i,ir.2 hi,rfl⟩),by simp⟩
 rw[jz];omega
theorem vJ  (h:m.Good) {x:Ln} (hx:x∈pM m):∃ws∈F7 m,x.2.1=AW (ws.map ba)/\x.2.2=ws.map ba:=by
 rw[kM h]at hx;obtain⟨⟨a,l⟩,hy,rfl⟩:=cj.1 hx;have:=(List.of_mem_zip hy).2;obtain⟨ws,hw,rfl⟩:=cj.1 this;exact⟨ws,hw,rfl,rfl⟩
theorem vK  (h:m.Good):∀x∈pM m,EW (AH (pM m)) x=false:=by
 intro x hx;have Ji:=h.t6;obtain⟨ws,hw,e1,e2⟩:=vJ h hx;unfold EW;rw[e1,e2]
 rcases M1 h hw with⟨i,hi,rfl⟩ | ⟨i,j,hi,hj,hne,h0,rfl⟩ | ⟨n,rs,hn,rfl⟩
 ·rw[UI,(TB (by omega) (JM h.p1 hi) (JM h.d1 abU)).2]
  rfl
 ·rw[IH,(PO (by omega) (by omega) ⟨h0,K5 h i j⟩).2]
  have e:GP 1 [ba [115,119,97,112],AA i,AA j,E8 (D1 m i j)]=[AA i,AA j]:=rfl;have e3:((nth [ba [115,119,97,112],AA i,AA j,E8 (D1 m i j)] 1).toList==(nth [ba [115,119,97,112],AA i,AA j,E8 (D1 m i j)] 2).toList)=false:=by
   show((AA i).toList==(AA j).toList)=false;rw[RD i (by omega) j (by omega),fq hne]
  rw[e,e3];simp only[List.any_cons,List.any_nil,RE h hi,RE h hj];rfl
 ·rw[(PA h hn).2]
  have e:GP 2 ((E4 n rs).map ba)=(rs.map λr=>r.map EQ).flatten:=by
   unfold GP;rw[au (by decide),aq rfl,MG h hn]
  rw[e];have e4:((2:Nat)==1)=false:=rfl;rw[e4,Bool.false_and,yO,um];intro u hu;rw[List.mem_flatten]at hu;obtain⟨q,hq,huq⟩:=hu;obtain⟨r,hr,rfl⟩:=cj.1 hq;obtain⟨p,hp,rfl⟩:=cj.1 huq;have Ci:=h.part rs (h.rl hn).2 r hr p hp;cases p with
  |tok t=>show ¬(cnt _ (AA t)==0)=true;rw[RE h Ci];decide
  |yB k=>show ¬(cnt _ (BL k)==0)=true;rw[oL h Ci];decide
theorem d6:∀(L:List (List (List UInt8))) (b:Nat),(∀r∈L,r.length<=b)->(G8 L).length<=L.length*(b+1)
 | [],b,_=>by simp[G8]
 | [r],b,h=>by have:=h r (by simp);simp only[G8,ey];omega
 |r::q::t,b,h=>by
  have h1:=h r (by simp);have h2:=d6 (q::t) b (λx hx=>h x Le);unfold G8;rw[lA,lC,lC (a:=r),uw];omega
theorem YC:∀(ws:List (List UInt8)) (b:Nat),(∀w∈ws,w.length<=b)->(BP ws).length<=ws.length*(b+1)
 | [],b,_=>by simp[BP]
 | [w],b,h=>by have:=h w (by simp);simp only[BP,ey];omega
 |w::v::r,b,h=>by
  have h1:=h w (by simp);have h2:=YC (v::r) b (λx hx=>h x Le);unfold BP;rw[lA,lC,lC (a:=w),uw];omega
theorem mH (ws:List (List UInt8)) (h:∀w∈ws,w.length=1):(BP ws).length<=ws.length*2:=YC ws 1 (λw hw=>Nat.le_of_eq (h w hw))
theorem dY  (h:m.Good) {n:Nat}{rs:List (List Pt)} (hn:m.rules[n]?=some rs):(BP (E4 n rs)).length<=90:=by
 have hmem:=(h.rl hn).2;have hc:=(h.c1 rs hmem).2;have Ji:=h.t6;have hb:=d6 (rs.map λr=>r.map wB) 5 (λr hr=>by
  obtain⟨q,hq,rfl⟩:=cj.1 hr;obtain⟨k,hk,rfl⟩:=jr.1 hq;have:=(h.head rs hmem k _ (gE hk)).2;simpa using this)
 have hb2:(G8 (rs.map λr=>r.map wB)).length<=36:=by
  rw[lM]at hb;have:rs.length*(5+1)<=6*6:=Nat.mul_le_mul (by omega) (by omega);omega
 have h1:∀w∈wB (.yB n):: [61]::G8 (rs.map λr=>r.map wB),w.length=1:=by
  intro w hw
  rcases bh.1 hw with rfl |hw
  ·rfl
  ·rcases bh.1 hw with rfl |hw
   ·rfl
   ·rcases P6 hw with rfl | ⟨r,hr,hwr⟩
    ·rfl
    ·obtain⟨q,_,rfl⟩:=cj.1 hr
     obtain⟨p,_,rfl⟩:=cj.1 hwr;cases p <;> rfl
 have h2:=mH _ h1;have e:BP (E4 n rs)=[114,117,108,101]++32::BP (wB (.yB n):: [61]::G8 (rs.map λr=>r.map wB)):=rfl;rw[e,lA,lC];simp only[lC]at h2 ⊢;simp only[iw];omega
theorem UY  (h:m.Good):(DB m).size<=4000:=by
 have Ji:=h.t6;have Ia:=h.n4;have e:(DB m).size=(LR ((F7 m).map BP)).length:=by simp[DB,ba,ByteArray.size]
 rw[e];unfold LR F7;rw[ew,mg,lA];have h1:(((List.range m.yP.length).flatMap (I4 m)).map BP).flatMap (λl=>l++ [10])=(List.range m.yP.length).flatMap λi=>((I4 m i).map BP).flatMap λl=>l++ [10]:=by
  rw[rq,xO]
 have h2:((List.range m.yP.length).flatMap λi=>((I4 m i).map BP).flatMap λl=>l++ [10]).length<=(List.range m.yP.length).length*84:=JQ λi hi=>by
  unfold I4;rw[jv,gy,lA,rq,xO];have h3:((List.range m.yP.length).flatMap λj=>((if 0<D1 m i j then [IC i j (D1 m i j)]else []).map BP).flatMap λl=>l++ [10]).length<=(List.range m.yP.length).length*11:=JQ λj hj=>by
   split
   ·simp[IC,BP,wB]
   ·simp
  have h4:(BP (KI i (m.yP.getD i 0) (m.zk.getD i 0))++ [10]).length=12:=by simp[KI,BP,wB]
  rw[List.length_range]at h3;have:m.yP.length*11<=66:=by omega
  omega
 have h5:((m.rules.zipIdx.map λx=>E4 x.2 x.1).map BP).flatMap (λl=>l++ [10])=m.rules.zipIdx.flatMap λx=>BP (E4 x.2 x.1)++ [10]:=by
  rw[pz,rj];rfl
 have h6:(m.rules.zipIdx.flatMap λx=>BP (E4 x.2 x.1)++ [10]).length<=m.rules.zipIdx.length*91:=JQ λx hx=>by
  have:=dY h (jx.1 hx);rw[lA,ey];omega
 rw[h1,h5];rw[List.length_range]at h2;rw[yJ]at h6;have:m.yP.length*84<=504:=by omega
 have:m.rules.length*91<=364:=by omega
 omega
theorem Y7  (h:m.Good):(GR (DB m)).1=0:=by
 have hp:EA (DB m)=(0,0):=by
  have hs:=UY h;unfold EA;rw[au (by omega),au (by rw[XB h];simp)];show(match CK (pM m) []with
   |some a=>(3,(a:Int))
   |none=>match BU (pM m) 0 0 0 with
    |some a=>(4,(a:Int))
    |none=>if(pM m).any (λx=>x.2.1==2)then(match F3 (AH (pM m)) (pM m)with
      |some a=>(5,(a:Int))
      |none=>(0,0))
     else(4,((DB m).size:Int)):Int × Int)=(0,0)
  rw[P5 (pM m) [] (gU h),RV (pM m) 0 0 0 (by rw[oN h];have:=h.t6;omega) (by rw[QP h];have:=h.n4;omega) ?_ ?_,mC (vK h)]
  ·have:(pM m).any (λx=>x.2.1==2)=true:=by
    rw[ot];have hl:=QP h;have h1:=h.n1;obtain⟨x,hx⟩:=List.exists_mem_of_length_pos (show 0< (AM (pM m)).length by omega);exact⟨x,(mo.1 hx).1,(mo.1 hx).2⟩
   simp[this]
  ·have h1:((AM (pM m)).flatMap λx=>A8 x.2.2).length<=(AM (pM m)).length*6:=JQ λx hx=>by
    obtain⟨n,rs,hn,e⟩:=Y0 h hx;rw[e,MG h hn,lM];have:=(h.c1 rs (h.rl hn).2).2;have:=h.t6;omega
   rw[QP h]at h1;have:=h.n4;have:m.rules.length*6<=24:=by omega
   omega
  ·intro x hx
   obtain⟨n,rs,hn,e⟩:=Y0 h hx;rw[e,MG h hn];refine uA λr hr=>?_
   obtain⟨q,hq,rfl⟩:=cj.1 hr;obtain⟨k,hk,rfl⟩:=jr.1 hq;have:=(h.head rs (h.rl hn).2 k _ (gE hk)).2;rw[lM];omega
 have:=QZ (DB m);rw[hp]at this;injection this with h1 h2
 exact h1.symm
theorem OW  (h:m.Good):Ct (pM m) (GR (DB m)).2.2:=UV _ (Y7 h)
theorem M7 {P:Program} (w:World) {ops:Array Oper}{rest:List Oper}{o:Oper}{a:Act}{Q:Exit->Act->World->Prop}
  (hg:o.guard=none) (l c:Operand) (t:TypeId) (hop:o.op=Op.makeSlice t l c)
  (e:TypeId) (i:TypeInfo) (z:Value) (h1:P.underlying t=some (.slice e)) (h2:P.info? e=some i) (h3:i.zero=some z)
  (L C:Int) (n:Nat) (hl:a.eval l=ab L) (hc:a.eval c=ab C) (hL:L=(n:Int)) (hC:C=(n:Int)) (b2:(i.bytes:Int)*(n:Int)<=281474976710656) (b3:(n:Int)<=9223372036854775807)
  (hK:wpList P ops Q rest (a.put o.dst (ae w.heap.size n n)) (w.alloc (.cells (madeCells z.cells (n*i.size)) e))):
  wpList P ops Q (o::rest) a w:=by
 refine wpList_plain hg λK hK'=>?_
 have hrun:=run_make (P:=P) w t e i z h1 h2 h3 .i64 .i64 n n (by omega) (Int.le_refl _) b2 b3;simp only[sr]at hrun;subst hL;subst hC;unfold Oper.wp;simp[execOp,hop,hl,hc,hrun,Result.andThen];exact hK' _ _ hK
theorem DO.keeps {w':World}{B:Nat}{l:List ByteArray}{S:List Nat} (h:DO w B v l) (hk:A1 w w' S) (hn:∀g,v.ownBlock=some g->g∉S):DO w' B v l:=A7 h hk hn
theorem DO.base {B B':Nat}{l:List ByteArray} (h:DO w B v l) (hB:B'<=B):DO w B' v l:=by
 obtain⟨h1,h2⟩:=h;refine⟨h1,?_⟩
 rcases h2 with h2 | ⟨g,cap,cur,hv,hg,r⟩
 ·exact .inl h2
 ·exact .inr ⟨g,cap,cur,hv,y5 hB hg,r⟩
theorem T4 {g:Nat->ByteArray}{k:Nat} (hi:i<k) (h:∀j,j<k->((g j).toList==(g i).toList)=decide (j=i)):ER ((List.range k).map g) (g i)=some i:=by
 unfold ER;rw[oo];refine⟨by simpa using hi,?_,?_⟩
 ·simp only[List.getElem_map,List.getElem_range]
  rw[h i hi];simp
 ·intro j hj
  simp only[List.getElem_map,List.getElem_range];rw[h j (by omega),fq (by omega)]
  decide
theorem eV {g:Nat->ByteArray}{k:Nat}{s:ByteArray} (h:∀j,j<k->((g j).toList==s.toList)=false):ER ((List.range k).map g) s=none:=by
 unfold ER;rw[xJ];intro x hx;obtain⟨j,hj,rfl⟩:=cj.1 hx;exact h j (ir.1 hj)
def grM (m:Mk):Gr:=(GR (DB m)).2.2
theorem oB (m:Mk):(m.rules.zipIdx.map λx=>BL x.2)=(List.range m.rules.length).map BL:=by
 apply nu;intro i;rw[gM,gM]
 by_cases hi:i<m.rules.length
 ·rw[om,gE hi,ng hi]
  simp
 ·rw[dy yM,dy yM];rfl
theorem UL  (h:m.Good):(grM m).names=(List.range m.rules.length).map BL:=by
 have e:=(OW h).g.names;have e2:=LV h (λws=>nth ws 1);rw[e2]at e;exact e.trans (oB m)
theorem QR  (h:m.Good):L9 (pM m)=(List.range m.yP.length).map AA:=by
 unfold L9;rw[LU h (λws=>nth ws 1)];rfl
theorem aI  (h:m.Good):Bzx (grM m).toks=(List.range m.yP.length).map AA:=(OW h).yL.trans (QR h)
theorem pK  (h:m.Good) {p:Pt} (hp:EL m.yP.length m.rules.length p):Dr (D4 (pM m) (EQ p))=p:=by
 have Ji:=h.t6;have Ia:=h.n4;have hc:=(OW h).g.code (EQ p);have en:(GR (DB m)).2.2.names=(List.range m.rules.length).map BL:=UL h;have et:Bzx (GR (DB m)).2.2.toks=(List.range m.yP.length).map AA:=aI h;rw[en,et]at hc;rw[hc];cases p with
 |tok t=>
  have hp:t<m.yP.length:=hp;have e1:ER ((List.range m.rules.length).map BL) (EQ (.tok t))=none:=eV λj hj=>by
   have:=WH t (by omega) j (by omega);show((BL j).toList==(AA t).toList)=false;rw[jz]at this ⊢;exact λe=>this e.symm
  have e2:ER ((List.range m.yP.length).map AA) (EQ (.tok t))=some t:=T4 hp λj hj=>RD j (by omega) t (by omega)
  rw[e1,e2];exact fE t
 |yB k=>
  have hp:k<m.rules.length:=hp;have e1:ER ((List.range m.rules.length).map BL) (EQ (.yB k))=some k:=T4 hp λj hj=>kW j (by omega) k (by omega)
  rw[e1];exact gF k
theorem TM  (h:m.Good):Ao (D4 (pM m)) (pM m)=m.rules.zipIdx.map λx=>(BL x.2,x.1):=by
 unfold Ao;have e:=LV h (λws=>((nth ws 1,(A8 ws).map λr=>r.map λw=>Dr (D4 (pM m) w)):Nm));have e0:(AM (pM m)).map (TW (D4 (pM m)))=(AM (pM m)).map (λx=>((nth x.2.2 1,(A8 x.2.2).map λr=>r.map λw=>Dr (D4 (pM m) w)):Nm)):=rfl;rw[e0,e];refine lz λx hx=>?_
 obtain⟨rs,n⟩:=x;have hn:=jx.1 hx;have hw:PJ (rs,n)=(E4 n rs).map ba:=rfl;rw[hw,MG h hn];show(BL n,_)=(BL n,rs)
 congr 1
 rw[pz];have hid:∀r∈rs,((λr:List ByteArray=>r.map λw=>Dr (D4 (pM m) w)) ∘ λr:List Pt=>r.map EQ) r=r:=by
  intro r hr;show(r.map EQ).map (λw=>Dr (D4 (pM m) w))=r;rw[pz];have:∀p∈r,((λw=>Dr (D4 (pM m) w)) ∘ EQ) p=p:=λp hp=>pK h (h.part rs (h.rl hn).2 r hr p hp)
  rw[lz this,List.map_id']
 rw[lz hid,List.map_id']
theorem SF {α β:Type} (g:Nat->β):∀(l:List α) (k:Nat),((l.zipIdx k).map λx=>(g x.2,x.1)).zipIdx k=(l.zipIdx k).map λx=>((g x.2,x.1),x.2)
 | [],_=>rfl
 |a::l,k=>by
  rw[vw,jv,vw,jv,SF g l (k+1)]
theorem Q4  (h:m.Good) {t:Nat} (hp:t<m.yP.length):D4 (pM m) (AA t)=2*(t:Int):=by
 have Ji:=h.t6;have Ia:=h.n4;have hc:=(OW h).g.code (AA t);have en:(GR (DB m)).2.2.names=(List.range m.rules.length).map BL:=UL h;have et:Bzx (GR (DB m)).2.2.toks=(List.range m.yP.length).map AA:=aI h;rw[en,et]at hc;have e1:ER ((List.range m.rules.length).map BL) (AA t)=none:=eV λj hj=>by
  have:=WH t (by omega) j (by omega);rw[jz]at this ⊢;exact λe=>this e.symm
 have e2:ER ((List.range m.yP.length).map AA) (AA t)=some t:=T4 hp λj hj=>RD j (by omega) t (by omega)
 rw[e1,e2]at hc;exact hc
theorem rX  (h:m.Good) {t u:Nat} (h0:D1 m t u≠0):t<m.yP.length/\u<m.yP.length:=by
 unfold D1 at h0;simp only[zh]at h0;cases hi:m.swaps[t]? with
 |none=>rw[hi]at h0;simp at h0
 |some r=>
  rw[hi]at h0;simp only[jm]at h0;have h1:=(yS.1 hi).1;have h2:=h.Wd r (mG hi);cases hj:r[u]? with
  |none=>rw[hj]at h0;simp at h0
  |some x=>
   have h3:=(yS.1 hj).1;rw[h.sl]at h1;omega
theorem qA  (h:m.Good) (t u:Nat):EV (D4 (pM m)) (pM m) t u=D1 m t u:=by
 have Ji:=h.t6;refine fO (λx hx h1 h2 h3=>?_) (λh0=>?_)
 ·have hm:(x.2.1,x.2.2)∈(pM m).map (λx=>(x.2.1,x.2.2)):=cj.2 ⟨x,hx,rfl⟩
  rw[aD h (λa b=>(a,b))]at hm;obtain⟨ws,Je,e⟩:=cj.1 hm;unfold J4 at Je;obtain⟨ls,hl,rfl⟩:=cj.1 Je;injection e with e1 e2
  rw[h1]at e1;rw[<-e2]at h2 h3 ⊢
  rcases M1 h hl with⟨i,hi,rfl⟩ | ⟨i,j,hi,hj,hne,h0,rfl⟩ | ⟨n,rs,hn,rfl⟩
  ·have:=LQ h hi
   unfold JW at this;rw[this]at e1;cases e1
  ·rw[IH]at h2 h3 ⊢
   have h2:D4 (pM m) (AA i)=2*(t:Int):=h2;have h3:D4 (pM m) (AA j)=2*(u:Int):=h3;rw[Q4 h hi]at h2;rw[Q4 h hj]at h3;obtain rfl:i=t:=by omega
   obtain rfl:j=u:=by omega
   have hc:=K5 h i j;show(C4 (E8 (D1 m i j)).data.toList).toNat=_;rw[WL _ (by omega)];rfl
  ·have:=(PA h hn).2
   rw[this]at e1;cases e1
 ·obtain⟨ht,hu⟩:=rX h h0
  have hl:IC t u (D1 m t u)∈F7 m:=by
   unfold F7;refine vo _ (ow.2 ⟨t,ir.2 ht,?_⟩);unfold I4;refine fj _ (ow.2 ⟨u,ir.2 hu,?_⟩);rw[aq (by omega)];exact mS.2 rfl
  have hm:(1,(IC t u (D1 m t u)).map ba)∈(J4 m).map λws=>(AW ws,ws):=by
   refine cj.2 ⟨_,cj.2 ⟨_,hl,rfl⟩,?_⟩;rw[IH,(PO (by omega) (by omega) ⟨by omega,K5 h t u⟩).2]
  rw[<-aD h (λa b=>(a,b))]at hm;obtain⟨x,hx,e⟩:=cj.1 hm;injection e with e1 e2
  refine⟨x,hx,e1,?_,?_⟩
  ·rw[e2,IH];exact Q4 h ht
  ·rw[e2,IH];exact Q4 h hu
theorem rO  (h:m.Good):Ch (pM m)=zg m:=by
 have Ji:=h.t6;have e1:(L9 (pM m)).length=m.yP.length:=by rw[QR h];simp
 have e2:(Ao (D4 (pM m)) (pM m)).length=m.rules.length:=by rw[TM h];simp
 have e3:(λt=>(((B2 (pM m))[t]?.map λx=>C4 (nth x.2.2 2).data.toList).getD 0).toNat)=λt=>m.yP.getD t 0:=by
  funext t
  have e:=congrArg (λl=>l[t]?) (LU h (λws=>C4 (nth ws 2).data.toList));simp only[gM]at e;rw[e]
  by_cases ht:t<m.yP.length
  ·rw[ng ht,ko,jm]
   have hv:=h.Rl ht;have:nth (JW m t) 2=E8 (m.yP.getD t 0):=rfl;rw[this,WL _ (by omega)];rfl
  ·rw[dy yM,zh,dy (by omega)]
   rfl
 have e4:PB (Ao (D4 (pM m)) (pM m))=(zg m).rules:=by
  rw[TM h];unfold PB;rw[SF BL m.rules 0,rj];rfl
 have e5:(λt=>(((B2 (pM m))[t]?.map λx=>C4 (nth x.2.2 3).data.toList).getD 0).toNat)=λt=>m.zk.getD t 0:=by
  funext t
  have e:=congrArg (λl=>l[t]?) (LU h (λws=>C4 (nth ws 3).data.toList));simp only[gM]at e;rw[e]
  by_cases ht:t<m.yP.length
  ·rw[ng ht,ko,jm]
   have hv:=h.aak ht;have:nth (JW m t) 3=E8 (m.zk.getD t 0):=rfl;rw[this,WL _ (by omega)];rfl
  ·rw[dy yM,zh,dy (by rw[h.dl];omega)]
   rfl
 have e6:EV (D4 (pM m)) (pM m)=D1 m:=by funext t u;exact qA h t u
 unfold Ch;rw[e1,e2,e3,e4,e5,e6];rfl
end Go.Proofs.YtjjggdcnpndgjaaGreatDoor
