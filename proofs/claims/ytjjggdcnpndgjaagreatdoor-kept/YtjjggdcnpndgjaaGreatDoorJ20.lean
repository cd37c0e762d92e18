import Derived.Test.YtjjggdcnpndgjaaGreatDoorJ19
import Derived.ChangeMaps5
import Derived.ChangeSlices
import Derived.Carry
import Derived.SizedLaws
import Derived.Lay
import Derived.SevenTiedAt
import Derived.Stop.Joined
import Derived.JoinedCond
import Derived.Deep.DeepHandedRow
import Derived.Test.YtjjggdcnpndgjaaGreatDoorRows
import Derived.ProofKit
import Derived.LaidMore
import Derived.OpenShut
import Derived.Shelf.Vars
import Derived.Lib.LaidTab
import Derived.Laws.MakeOwn
set_option linter.unusedSimpArgs false
set_option maxRecDepth 100000
namespace Go.Proofs.YtjjggdcnpndgjaaGreatDoor
open Go.RowKit
variable {B i:Nat}{l:List Value}{m:Mk}{p:List MemPlace}{v:Value}{w:World}
section
open Go Go.ChangeShapes Go.WideShapes Go.ChangeAt Go.RowKit
open Go.ChangeMaps (shut_string)
theorem laid:laidOutB Tryz.prog=true:=by kernel_rfl
theorem kX {H:Type}{enc:TypeId × Value->H}{W:World}{d:DataW H} (hv:∃a len cap,v=.slice a len cap) (hs:∀e s,d=.slice e s->(e.length+s.length)*Tryz.prog.bytesOf 3<=reachBytes) (h:DataW.Trod enc Tryz.prog W 0 (fun _=>true) true 45 v d p):KG W v:=by
 obtain⟨a0,len,cap,rfl⟩:=hv;obtain⟨fuel,hf⟩:=h;have hc:Tryz.prog.cellsOf 3=1:=by kernel_rfl
 have hb:Tryz.prog.bytesOf 3=8:=by kernel_rfl
 rcases open_ints Tryz.underlying45 Tryz.underlying3 hc hf with⟨hcs,_⟩ | ⟨a,len',cap',zs,hcs,_,hl,_,hz,hx,hcell,hw⟩
 ·simp[Value.cells]at hcs
  obtain⟨rfl,rfl,rfl⟩:=hcs;exact⟨none,0,0,rfl,lR_ _,by omega,fun h=>by omega⟩
 ·simp[Value.cells]at hcs
  obtain⟨rfl,rfl,rfl⟩:=hcs;simp only[Prod.mk.injEq]at hx;obtain⟨rfl,_⟩:=hx;have hr:=hs _ _ rfl;have h47:=reachBytes_lt;simp only[if_true]at hz;rw[hb]at hr;simp only[lits,lM,List.length_take,List.length_drop,hz]at hr;refine⟨some a,len,cap,rfl,hl,by omega,fun h0=>?_⟩;obtain⟨b,off,spot⟩:=a;have hspot:spot=none:=by simpa[Addr.add] using World.cell?_spot (hcell 0 (by omega))
  subst hspot;refine⟨b,off,rfl,?_,fun j hj=>⟨zs.getD j 0,?_,?_⟩⟩
  ·exact World.block_lt_of_cell? W _ (hcell 0 (by omega))
  ·have h:=hcell j (by omega);rw[add_plain]at h;exact h
  ·have hm:zs.getD j 0∈zs:=by
    have hj':j<zs.length:=by omega
    simp[List.getD,gE hj']
   have:=hw _ hm;simp[Lit.wf,IntKind.min,IntKind.max,show IntKind.i64.signed=true from rfl,show IntKind.i64.bits=64 from rfl]at this;unfold I64;exact this
theorem own:ownKnob Tryz.prog.godebug=none:=by kernel_rfl
end
section
open Go Go.RowKit
set_option maxRecDepth 100000
theorem NC {P:Program}{w:World}:∀{l:List (String × DataW Unit)}{ps:List MemPlace},DataW.LaidVars P w l ps->∀(n:String) (d:DataW Unit),(n,d)∈l->
  ∃g t cs fuel p,P.globalNamed n=some g/\(P.globals[g]?).map (·.type)=some t/\w.var? P n=some cs/\DataW.trod (fun _=>()) P w 0 (fun _=>true) false fuel t cs.toList=some (d,p)
 | [],_,_,n,d,hm=>by cases hm
 | (m,e)::r,_,⟨g,t,cs,fuel,p,q,h1,h2,h3,h4,h5,_⟩,n,d,hm=>by
  rcases List.mem_cons.1 hm with h |h
  ·cases h;exact⟨g,t,cs,fuel,p,h1,h2,h3,h4⟩
  ·exact NC h5 n d h
theorem NA {P:Program}{n:String}{g:Nat}{cs:Array Value} (hg:P.globalNamed n=some g) (h:w.var? P n=some cs):∃t fr,w.heap[g]?=some (.cells cs t fr):=by
 simp only[World.var?,hg,Option.bind_some]at h;split at h
 ·rename_i cs' t fr hh
  cases h;exact⟨t,fr,hh⟩
 ·cases h
section
variable {W:World}{sp:Nat->Bool}{held:Bool}
theorem dO {m:Nat}{a b c:Int} (hl:l.length=3) (h:DataW.trod (fun _=>()) Tryz.prog W 0 sp held m 337 l=some (.agg [.lit (.int .i64 a),.lit (.int .i64 b),.lit (.int .i64 c)],p)):
  l=[ab a,ab b,ab c]:=by
 obtain⟨xs,n,_,hx,_,hxl,hall⟩:=DataW.trod_array Tryz.underlying337 h;have ck:Tryz.prog.cellsOf 336=1:=by kernel_rfl
 match l,hl,xs,hxl with
 | [v0,v1,v2],_,[x0,x1,x2],_=>
  have h0:=hall 0 (by decide);have h1:=hall 1 (by decide);have h2:=hall 2 (by decide);rw[ck]at h0 h1 h2;obtain⟨z0,e0,f0,_⟩:=DataW.trod_int Tryz.underlying336 h0;obtain⟨z1,e1,f1,_⟩:=DataW.trod_int Tryz.underlying336 h1;obtain⟨z2,e2,f2,_⟩:=DataW.trod_int Tryz.underlying336 h2;simp at e0 e1 e2;subst e0 e1 e2 f0 f1 f2;have:=(Prod.mk.inj hx).1;simp at this;obtain⟨rfl,rfl,rfl⟩:=this;rfl
theorem OA {m:Nat}{s:List UInt8}{a b c:Int} (h:DataW.trod (fun _=>()) Tryz.prog W 0 sp held m 339 l=some (.agg [.lit (.string s),.agg [.lit (.int .i64 a),.lit (.int .i64 b),.lit (.int .i64 c)]],p)):
  l=[.string ⟨s.toArray⟩,ab a,ab b,ab c]:=by
 obtain⟨xs,n,_,hx,hl,hxl,hall⟩:=DataW.trod_struct Tryz.underlying339 h;have cS:Tryz.prog.cellsOf 339=4:=by kernel_rfl
 have cs:Tryz.prog.cellsOf 9=1:=by kernel_rfl
 have cb:Tryz.prog.cellsOf 337=3:=by kernel_rfl
 rw[cS]at hl
 match l,hl,xs,hxl with
 | [v0,v1,v2,v3],_,[x0,x1],_=>
  have h0:DataW.trod _ Tryz.prog W 0 sp held n 9 (([v0,v1,v2,v3].drop 0).take (Tryz.prog.cellsOf 9))=_:=hall 0 _ rfl;have h1:DataW.trod _ Tryz.prog W 0 sp held n 337 (([v0,v1,v2,v3].drop 1).take (Tryz.prog.cellsOf 337))=_:=hall 1 _ rfl;rw[cs]at h0;rw[cb]at h1;have hx':=(Prod.mk.inj hx).1;simp only[List.map_cons,List.map_nil,DataW.agg.injEq,List.cons.injEq,and_true]at hx';obtain⟨s',e0,f0,_⟩:=DataW.trod_string Tryz.underlying9 h0;obtain⟨y1,q1⟩:=x1;obtain rfl:y1=_:=hx'.2.symm;have e1:=dO (by simp) h1;simp at e0 e1;obtain⟨rfl,rfl,rfl⟩:=e1;subst e0 f0;have:=hx'.1;simp at this;subst this;rfl
theorem bJ {m:Nat} (h:DataW.trod (fun _=>()) Tryz.prog W 0 sp held m 340 l=some (Rows.laid_darn_source_shapes,p)):
  l=[.string ⟨#[116,111,107,101,110]⟩,ab 1,ab 3,ab 3,.string ⟨#[115,119,97,112]⟩,ab 1,ab 1,ab 3,.string ⟨#[114,117,108,101]⟩,ab 2,ab 4,ab 5]:=by
 obtain⟨xs,n,_,hx,hl,hxl,hall⟩:=DataW.trod_array Tryz.underlying340 h;have cS:Tryz.prog.cellsOf 339=4:=by kernel_rfl
 have cA:Tryz.prog.cellsOf 340=12:=by kernel_rfl
 rw[cA]at hl
 match l,hl,xs,hxl with
 | [v0,v1,v2,v3,v4,v5,v6,v7,v8,v9,v10,v11],_,[x0,x1,x2],_=>
  have h0:=hall 0 (by decide);have h1:=hall 1 (by decide);have h2:=hall 2 (by decide);rw[cS]at h0 h1 h2;have hx':=(Prod.mk.inj hx).1;unfold Rows.laid_darn_source_shapes at hx';simp only[List.map_cons,List.map_nil,DataW.agg.injEq,List.cons.injEq,and_true]at hx';obtain⟨y0,q0⟩:=x0;obtain⟨y1,q1⟩:=x1;obtain⟨y2,q2⟩:=x2;obtain rfl:y0=_:=hx'.1.symm;obtain rfl:y1=_:=hx'.2.1.symm;obtain rfl:y2=_:=hx'.2.2.symm;have e0:=OA h0;have e1:=OA h1;have e2:=OA h2;simp at e0 e1 e2;obtain⟨rfl,rfl,rfl,rfl⟩:=e0;obtain⟨rfl,rfl,rfl,rfl⟩:=e1;obtain⟨rfl,rfl,rfl,rfl⟩:=e2;rfl
end
theorem sY:Tryz.prog.globalNamed "darn/source.shapes" =some 0:=by kernel_rfl
theorem sZ:(Tryz.prog.globals[0]?).map (·.type)=some 340:=by kernel_rfl
theorem vU:Tryz.prog.globalNamed "strconv.ErrRange" =some 4:=by kernel_rfl
theorem uY:(Tryz.prog.globals[4]?).map (·.type)=some 358:=by kernel_rfl
theorem wY:Tryz.prog.globalNamed "math/bits.deBruijn64tab" =some 8:=by kernel_rfl
theorem vY:Tryz.prog.globalNamed "math/bits.deBruijn32tab" =some 1:=by kernel_rfl
theorem wL:(Tryz.prog.globals[1]?).map (·.type)=some 343:=by kernel_rfl
theorem wS:Tryz.prog.globals.size=9:=by kernel_rfl
theorem gL {W:World} (hL:laidMetH Tryz.prog Rows.tellsRow.laid W) (hsh:W.ShapedOpen Tryz.prog):DM W/\TabAt 1 Lib.deBruijn32tab W:=by
 rw[MakeChecks.laidMetH_plain _ _ _ y1Z]at hL;obtain⟨ps,hv,_⟩:=hL;have hshapes:∃t fr,W.heap[0]?=some (.cells #[.string ⟨#[116,111,107,101,110]⟩,ab 1,ab 3,ab 3,.string ⟨#[115,119,97,112]⟩,ab 1,ab 1,ab 3,.string ⟨#[114,117,108,101]⟩,ab 2,ab 4,ab 5] t fr):=by
  obtain⟨g,t,cs,fuel,p,h1,h2,h3,h4⟩:=NC hv "darn/source.shapes" Rows.laid_darn_source_shapes y65Z;obtain rfl:=Option.some.inj (sY.symm.trans h1);obtain rfl:=Option.some.inj (sZ.symm.trans h2);obtain⟨t,fr,hb⟩:=NA h1 h3;have e:=bJ h4;obtain⟨l⟩:=cs;simp only at e;subst e;exact⟨t,fr,hb⟩
 have hrng:∃te pe,W.cell? (af 4 0)=some (.iface te pe):=by
  obtain⟨g,t,cs,fuel,p,h1,h2,h3,h4⟩:=NC hv "strconv.ErrRange" Rows.laid_strconv_ErrRange y65Z;obtain rfl:=Option.some.inj (vU.symm.trans h1);obtain rfl:=Option.some.inj (uY.symm.trans h2);obtain⟨_,u,v,e,_,_⟩:=iface_of_trod Tryz.underlying358 h4;obtain⟨l⟩:=cs;simp only at e;subst e;exact⟨u,v,World.var?_cell h1 h3 0⟩
 have htab:TabAt 1 Lib.deBruijn32tab W:=by
  obtain⟨g,t,cs,fuel,p,h1,h2,h3,h4⟩:=NC hv "math/bits.deBruijn32tab" Rows.laid_math_bits_deBruijn32tab y65Z;obtain rfl:=Option.some.inj (vY.symm.trans h1);obtain rfl:=Option.some.inj (wL.symm.trans h2);obtain⟨t,fr,hb⟩:=NA h1 h3;have e:=Lib.cells_of_tab (zs:=Lib.deBruijn32tab.map fun(n:Nat)=>(n:Int)) Tryz.underlying343 Tryz.underlying5 y1Z y1Z (show _=some (Lib.tabData .u8 (Lib.deBruijn32tab.map fun(n:Nat)=>(n:Int)),p) from h4);intro j hj;rw[A0 hb];have e2:cs[j]?=cs.toList[j]?:=by simp
  rw[e2,e,List.map_map,gM,gD_,gE hj];rfl
 refine⟨⟨?_,?_,hrng,hshapes⟩,htab⟩
 ·obtain⟨g,t,cs,fuel,p,h1,h2,h3,h4⟩:=NC hv "math/bits.deBruijn64tab" Rows.laid_math_bits_deBruijn64tab y65Z
  obtain rfl:=Option.some.inj (wY.symm.trans h1);obtain⟨t,fr,hb⟩:=NA h1 h3;have:=(Array.getElem?_eq_some_iff.1 hb).1;omega
 ·exact cell_of_shapedOpen_int (zero:= #[ab 0]) (t:=3) hsh (by rw[wS];decide) y1Z rfl y1Z y1Z Tryz.underlying3
end
theorem O6 {α β:Type}{f:α->List β}{g:α->β}:∀{l:List α},(∀a∈l,f a=[g a])->l.flatMap f=l.map g
 | [],_=>rfl
 |a::l,h=>by rw[List.flatMap_cons,h a (by simp),O6 (fun b hb=>h b (by simp[hb]))];rfl
theorem rI:ByteArray.empty.toList.isEmpty=true:=by decide+kernel
def JI (m:Mk):List (List ByteArray):=(FC m).map fun ws=>ws.map ba
def K1 (m:Mk) (i:Nat):List ByteArray:=(KK i (m.puts.getD i 0) (m.drops.getD i 0)).map ba
def PQ (m:Mk) (i:Nat):List (List ByteArray):=(List.range m.puts.length).flatMap fun j=>if 0<D7 m i j then [(IF i j (D7 m i j)).map ba]else []
def PX (x:List (List Pt) × Nat):List ByteArray:=(E6 x.2 x.1).map ba
theorem RP (m:Mk):JI m=((List.range m.puts.length).flatMap fun i=>K1 m i::PQ m i)++m.rules.zipIdx.map PX:=by
 unfold JI FC;rw[List.map_append,List.map_flatMap,List.map_map]
 congr 1
 congr 1
 funext i
 unfold IB;rw[List.map_cons,List.map_flatMap]
 congr 1
 unfold PQ
 congr 1
 funext j
 split <;> rfl
theorem YP:∀(L:List (List ByteArray)) (o:List Nat),(∀ws∈L,¬ws.length=1)->AE (o.zip L)=(o.zip L).map fun x=>(x.1,AV x.2,x.2)
 | [],o,_=>by simp[AE]
 |ws::L,[],_=>by simp[AE]
 |ws::L,a::o,h=>by
  rw[List.zip_cons_cons,MH (by exact h ws (by simp)),YP L o (fun x hx=>h x y29Z)];rfl
theorem XC {β:Type} (g:Nat->List ByteArray->β):∀(L:List (List ByteArray)) (o:List Nat),o.length=L.length->((o.zip L).map fun x=>(x.1,AV x.2,x.2)).map (fun x:Ln=>g x.2.1 x.2.2)=L.map fun ws=>g (AV ws) ws
 | [],o,h=>by simp
 |ws::L,[],h=>by simp at h
 |ws::L,a::o,h=>by
  rw[List.zip_cons_cons,List.map_cons,List.map_cons,List.map_cons,XC g L o y20Z]
theorem VO {β:Type} (k:Nat) (g:List ByteArray->β):∀(L:List (List ByteArray)) (o:List Nat),o.length=L.length->(((o.zip L).map fun x=>(x.1,AV x.2,x.2)).filter fun x:Ln=>x.2.1==k).map (fun x:Ln=>g x.2.2)=(L.filter fun ws=>AV ws==k).map g
 | [],o,h=>by simp
 |ws::L,[],h=>by simp at h
 |ws::L,a::o,h=>by
  have ih:=VO k g L o y20Z;rw[List.zip_cons_cons,List.map_cons,List.filter_cons,List.filter_cons]
  by_cases hk:AV ws==k
  ·rw[if_pos hk,if_pos hk,List.map_cons,List.map_cons,ih]
  ·rw[if_neg hk,if_neg hk,ih]
theorem bC:∀(ls:List (List UInt8)) (a:Nat),(RG ls a).length=ls.length
 | [],_=>rfl
 |l::r,a=>by unfold RG;rw[lC,lC,bC r]
def pM (m:Mk):List Ln:=AE (AF (BO m) 0).1
theorem jC  (h:m.Good):pM m=((RG ((FC m).map BR) 0).zip (JI m)).map fun x=>(x.1,AV x.2,x.2):=by
 unfold pM;rw[RR h];exact YP _ _ (fun ws hw=>by
  obtain⟨x,hx,rfl⟩:=List.mem_map.1 hw;exact(fA h hx).2)
theorem XT (m:Mk):(RG ((FC m).map BR) 0).length=(JI m).length:=by
 rw[bC];unfold JI;simp
theorem aF {β:Type} (h:m.Good) (g:Nat->List ByteArray->β):(pM m).map (fun x=>g x.2.1 x.2.2)=(JI m).map fun ws=>g (AV ws) ws:=by
 rw[jC h];exact XC g _ _ (XT m)
theorem Y3 {β:Type} (h:m.Good) (k:Nat) (g:List ByteArray->β):((pM m).filter fun x=>x.2.1==k).map (fun x=>g x.2.2)=((JI m).filter fun ws=>AV ws==k).map g:=by
 rw[jC h];exact VO k g _ _ (XT m)
theorem M0  (h:m.Good)  (hi:i<m.puts.length):AV (K1 m i)=0:=by
 have:=h.t6;exact(TZ (by omega) (JQ h.p1 hi) (JQ h.d1 y74Z)).2
theorem O5  (h:m.Good)  (hi:i<m.puts.length):∀ws∈PQ m i,AV ws=1/\∃j c,j<m.puts.length/\i≠j/\ws=[ba [115,119,97,112],AJ i,AJ j,ED c]:=by
 intro ws hw;unfold PQ at hw;rw[List.mem_flatMap]at hw;obtain⟨j,hj,hw⟩:=hw;have hj:=List.mem_range.1 hj;have:=h.t6;split at hw
 ·rename_i h0
  obtain rfl:=mS.1 hw;rw[IP];exact⟨(PG (by omega) (by omega) ⟨h0,KA h i j⟩).2,j,_,hj,fun e=>by subst e;rw[V9 h]at h0;omega,rfl⟩
 ·cases hw
theorem O1  (h:m.Good) {x:List (List Pt) × Nat} (hx:x∈m.rules.zipIdx):AV (PX x)=2:=(PA h (List.mem_zipIdx_iff_getElem?.1 hx)).2
theorem VG {α:Type}{p:α->Bool}{l:List α} (h:∀a∈l,p a=true):l.filter p=l:=List.filter_eq_self.2 h
theorem MM {α:Type}{p:α->Bool}{l:List α} (h:∀a∈l,p a=false):l.filter p=[]:=by
 rw[List.filter_eq_nil_iff];intro a ha;rw[h a ha];simp
theorem mE  (h:m.Good):((JI m).filter fun ws=>AV ws==0)=(List.range m.puts.length).map (K1 m):=by
 rw[RP,List.filter_append,List.filter_flatMap];have e2:((m.rules.zipIdx.map PX).filter fun ws=>AV ws==0)=[]:=MM fun ws hw=>by
  obtain⟨x,hx,rfl⟩:=List.mem_map.1 hw;rw[O1 h hx];rfl
 rw[e2,List.append_nil];have e1:∀i∈List.range m.puts.length,((K1 m i::PQ m i).filter fun ws=>AV ws==0)=[K1 m i]:=fun i hi=>by
  have hi:=List.mem_range.1 hi;rw[List.filter_cons_of_pos (by rw[M0 h hi];rfl),MM (fun ws hw=>by rw[(O5 h hi ws hw).1];rfl)]
 exact O6 e1
theorem l8  (h:m.Good):((JI m).filter fun ws=>AV ws==2)=m.rules.zipIdx.map PX:=by
 rw[RP,List.filter_append,List.filter_flatMap];have e1:((List.range m.puts.length).flatMap fun i=>(K1 m i::PQ m i).filter fun ws=>AV ws==2)=[]:=by
  rw[List.flatMap_eq_nil_iff];intro i hi;have hi:=List.mem_range.1 hi;exact MM fun ws hw=>by
   rcases List.mem_cons.1 hw with rfl |hw
   ·rw[M0 h hi];rfl
   ·rw[(O5 h hi ws hw).1];rfl
 rw[e1,List.nil_append];exact VG fun ws hw=>by
  obtain⟨x,hx,rfl⟩:=List.mem_map.1 hw;rw[O1 h hx];rfl
theorem LS {β:Type} (h:m.Good) (g:List ByteArray->β):(BA (pM m)).map (fun x=>g x.2.2)=(List.range m.puts.length).map fun i=>g (K1 m i):=by
 unfold BA;rw[Y3 h 0 g,mE h,List.map_map];rfl
theorem LZ {β:Type} (h:m.Good) (g:List ByteArray->β):(AL (pM m)).map (fun x=>g x.2.2)=m.rules.zipIdx.map fun x=>g (PX x):=by
 unfold AL;rw[Y3 h 2 g,l8 h,List.map_map];rfl
theorem O2  (h:m.Good):AG (pM m)=(List.range m.puts.length).map AJ++(List.range m.rules.length).map BL:=by
 have hne:∀{i:Nat},i<6->(AJ i).toList.isEmpty=false:=fun hi=>SA (P0 _ hi)
 have hnn:∀{i:Nat},i<4->(BL i).toList.isEmpty=false:=fun hi=>SA (TH _ hi)
 have ht6:=h.t6;have hn4:=h.n4;unfold AG;rw[aF h BF,RP,List.map_append,List.filter_append,List.map_flatMap,List.filter_flatMap,List.map_map]
 congr 1
 ·have e1:∀i∈List.range m.puts.length,(((K1 m i::PQ m i).map fun ws=>BF (AV ws) ws).filter fun s=> !s.toList.isEmpty)=[AJ i]:=fun i hi=>by
   have hi:=List.mem_range.1 hi;rw[List.map_cons,M0 h hi];have e:BF 0 (K1 m i)=AJ i:=rfl;rw[e,List.filter_cons_of_pos (by rw[hne (by omega)];rfl)]
   congr 1
   refine MM fun s hs=>?_
   obtain⟨ws,hw,rfl⟩:=List.mem_map.1 hs;rw[(O5 h hi ws hw).1];show(!ByteArray.empty.toList.isEmpty)=false;rw[rI];rfl
  exact O6 e1
 ·have e2:(m.rules.zipIdx.map ((fun ws=>BF (AV ws) ws) ∘ PX))=(List.range m.rules.length).map BL:=by
   apply List.ext_getElem?;intro i;rw[gM,gM]
   by_cases hi:i<m.rules.length
   ·rw[List.getElem?_zipIdx,gE hi,List.getElem?_range hi]
    simp only[Option.map_some,Function.comp_apply,Nat.zero_add]
    congr 1
    rw[O1 h (List.mem_zipIdx_iff_getElem?.2 (gE hi))];rfl
   ·rw[List.getElem?_eq_none y2Z,List.getElem?_eq_none y2Z];rfl
  rw[e2];exact VG fun s hs=>by
   obtain⟨i,hi,rfl⟩:=List.mem_map.1 hs;rw[hnn (by have:=List.mem_range.1 hi;omega)];rfl
theorem MG:∀(P:List Ln) (ws:List ByteArray),(ws++AG P).Pairwise (fun a b=>(a.toList==b.toList)=false)->CJ P ws=none
 | [],_,_=>rfl
 |x::P,ws,h=>by
  rw[SE]at h;rw[CJ];cases he:(BF x.2.1 x.2.2).toList.isEmpty with
  |true=>
   rw[he,if_pos rfl,List.nil_append]at h;rw[if_pos rfl];exact MG P ws h
  |false=>
   rw[he,if_neg (by decide)]at h;have hc:¬0<cnt ws (BF x.2.1 x.2.2):=by
    rw[OV,List.any_eq_true];rintro⟨a,ha,hab⟩;have:=(List.pairwise_append.1 h).2.2 a ha (BF x.2.1 x.2.2) (by simp);rw[hab]at this;cases this
   rw[if_neg (by decide),if_neg hc];exact MG P _ (by rw[aA];exact h)
theorem OO:∀(P:List Ln) (t n r:Nat),t+(BA P).length<=20->n+(AL P).length<=20->r+((AL P).flatMap fun x=>A8 x.2.2).length<=60->(∀x∈AL P,E2 (A8 x.2.2)<=8)->BU P t n r=none
 | [],_,_,_,_,_,_,_=>rfl
 |x::P,t,n,r,h1,h2,h3,h4=>by
  rw[BU]
  by_cases h0:x.2.1=0
  ·have h02:¬x.2.1=2:=by omega
   have e1:BA (x::P)=x::BA P:=by unfold BA;rw[List.filter_cons_of_pos y54Z]
   have e2:AL (x::P)=AL P:=by unfold AL;rw[List.filter_cons_of_neg y54Z]
   rw[e1,lC]at h1;rw[e2]at h2 h3 h4;simp only[if_pos h0,if_neg h02];rw[if_neg (by omega)];exact OO P _ _ _ (by omega) h2 h3 h4
  ·have e1:BA (x::P)=BA P:=by unfold BA;rw[List.filter_cons_of_neg y54Z]
   rw[e1]at h1
   by_cases h02:x.2.1=2
   ·have e2:AL (x::P)=x::AL P:=by unfold AL;rw[List.filter_cons_of_pos (by simp[h02])]
    rw[e2]at h2 h3 h4;rw[lC]at h2;rw[List.flatMap_cons,lA]at h3;have h5:=h4 x (by simp);simp only[if_neg h0,if_pos h02];rw[if_neg (by omega)];exact OO P _ _ _ h1 (by omega) (by omega) (fun y hy=>h4 y (by simp[hy]))
   ·have e2:AL (x::P)=AL P:=by unfold AL;rw[List.filter_cons_of_neg (by simp[h02])]
    rw[e2]at h2 h3 h4;simp only[if_neg h0,if_neg h02];rw[if_neg (by omega)];exact OO P _ _ _ h1 h2 h3 h4
theorem ZM:∀{P:List Ln}{ws:List ByteArray},(∀x∈P,F5 ws x=false)->EY ws P=none
 | [],_,_=>rfl
 |x::P,ws,h=>by
  rw[EY,h x (by simp),if_neg (by decide)];exact ZM fun y hy=>h y (by simp[hy])
theorem gI {rs:List (List ByteArray)}{b:Nat} (h:∀r∈rs,r.length<=b):E2 rs<=b:=by
 have key:∀(rs:List (List ByteArray)) (m:Nat),m<=b->(∀r∈rs,r.length<=b)->rs.foldl (fun m r=>max m r.length) m<=b:=by
  intro rs
  induction rs with
  |nil=>intro m hm _;exact hm
  |cons a rs ih=>
   intro m hm hr;rw[List.foldl_cons];have:=hr a (by simp);exact ih _ (by omega) (fun x hx=>hr x y29Z)
 exact key rs 0 (by omega) h
theorem J0 {α β:Type}{f:α->List β}{b:Nat}:∀{l:List α},(∀a∈l,(f a).length<=b)->(l.flatMap f).length<=l.length*b
 | [],_=>by simp
 |a::l,h=>by
  rw[List.flatMap_cons,lA,lC,Nat.succ_mul];have h1:=h a (by simp);have h2:=J0 (l:=l) (fun x hx=>h x y29Z);omega
theorem NF  (h:m.Good) {x:Ln} (hx:x∈AL (pM m)):∃(n:Nat) (rs:List (List Pt)),m.rules[n]?=some rs/\x.2.2=(E6 n rs).map ba:=by
 have h1:=LZ h (fun ws=>ws);have h2:x.2.2∈(AL (pM m)).map (fun x=>x.2.2):=List.mem_map.2 ⟨x,hx,rfl⟩;rw[h1]at h2;obtain⟨⟨rs,n⟩,hy,e⟩:=List.mem_map.1 h2;exact⟨n,rs,List.mem_zipIdx_iff_getElem?.1 hy,e.symm⟩
theorem YQ  (h:m.Good):(BA (pM m)).length=m.puts.length:=by
 have:=congrArg List.length (LS h (fun ws=>ws));simpa using this
theorem KP  (h:m.Good):(AL (pM m)).length=m.rules.length:=by
 have:=congrArg List.length (LZ h (fun ws=>ws));simpa using this
theorem VU  (h:m.Good):(AG (pM m)).Pairwise (fun a b=>(a.toList==b.toList)=false):=by
 have ht6:=h.t6;have hn4:=h.n4;rw[O2 h,List.pairwise_append];refine⟨?_,?_,?_⟩
 ·rw[List.pairwise_map]
  refine List.Pairwise.imp_of_mem (R:=fun a b=>a<b) ?_ List.pairwise_lt_range;intro a b ha hb hlt;have ha:=List.mem_range.1 ha;have hb:=List.mem_range.1 hb;rw[RE a (by omega) b (by omega),decide_eq_false (by omega)]
 ·rw[List.pairwise_map]
  refine List.Pairwise.imp_of_mem (R:=fun a b=>a<b) ?_ List.pairwise_lt_range;intro a b ha hb hlt;have ha:=List.mem_range.1 ha;have hb:=List.mem_range.1 hb;rw[mP a (by omega) b (by omega),decide_eq_false (by omega)]
 ·intro a ha b hb
  obtain⟨i,hi,rfl⟩:=List.mem_map.1 ha;obtain⟨j,hj,rfl⟩:=List.mem_map.1 hb;have hi:=List.mem_range.1 hi;have hj:=List.mem_range.1 hj;exact VW i (by omega) j (by omega)
theorem QN  (h:m.Good)  (hi:i<m.puts.length):(cnt (AG (pM m)) (AJ i)==0)=false:=by
 have:0<cnt (AG (pM m)) (AJ i):=by
  rw[OV,List.any_eq_true];exact⟨AJ i,by rw[O2 h];exact List.mem_append_left _ (List.mem_map.2 ⟨i,List.mem_range.2 hi,rfl⟩),by simp⟩
 rw[beq_eq_false_iff_ne];omega
theorem nF  (h:m.Good)  (hi:i<m.rules.length):(cnt (AG (pM m)) (BL i)==0)=false:=by
 have:0<cnt (AG (pM m)) (BL i):=by
  rw[OV,List.any_eq_true];exact⟨BL i,by rw[O2 h];exact List.mem_append_right _ (List.mem_map.2 ⟨i,List.mem_range.2 hi,rfl⟩),by simp⟩
 rw[beq_eq_false_iff_ne];omega
theorem vG  (h:m.Good) {x:Ln} (hx:x∈pM m):∃ws∈FC m,x.2.1=AV (ws.map ba)/\x.2.2=ws.map ba:=by
 rw[jC h]at hx;obtain⟨⟨a,l⟩,hy,rfl⟩:=List.mem_map.1 hx;have:=(List.of_mem_zip hy).2;obtain⟨ws,hw,rfl⟩:=List.mem_map.1 this;exact⟨ws,hw,rfl,rfl⟩
theorem mX  (h:m.Good):∀x∈pM m,F5 (AG (pM m)) x=false:=by
 intro x hx;have ht6:=h.t6;obtain⟨ws,hw,e1,e2⟩:=vG h hx;unfold F5;rw[e1,e2]
 rcases M5 h hw with⟨i,hi,rfl⟩ | ⟨i,j,hi,hj,hne,h0,rfl⟩ | ⟨n,rs,hn,rfl⟩
 ·rw[UA,(TZ (by omega) (JQ h.p1 hi) (JQ h.d1 y74Z)).2]
  rfl
 ·rw[IP,(PG (by omega) (by omega) ⟨h0,KA h i j⟩).2]
  have e:GU 1 [ba [115,119,97,112],AJ i,AJ j,ED (D7 m i j)]=[AJ i,AJ j]:=rfl;have e3:((nth [ba [115,119,97,112],AJ i,AJ j,ED (D7 m i j)] 1).toList==(nth [ba [115,119,97,112],AJ i,AJ j,ED (D7 m i j)] 2).toList)=false:=by
   show((AJ i).toList==(AJ j).toList)=false;rw[RE i (by omega) j (by omega),decide_eq_false hne]
  rw[e,e3];simp only[List.any_cons,List.any_nil,QN h hi,QN h hj];rfl
 ·rw[(PA h hn).2]
  have e:GU 2 ((E6 n rs).map ba)=(rs.map fun r=>r.map ER).flatten:=by
   unfold GU;rw[if_neg (by decide),if_pos rfl,JM h hn]
  rw[e];have e4:((2:Nat)==1)=false:=rfl;rw[e4,Bool.false_and,Bool.false_or,List.any_eq_false];intro u hu;rw[List.mem_flatten]at hu;obtain⟨q,hq,huq⟩:=hu;obtain⟨r,hr,rfl⟩:=List.mem_map.1 hq;obtain⟨p,hp,rfl⟩:=List.mem_map.1 huq;have hpo:=h.part rs (h.rl hn).2 r hr p hp;cases p with
  |tok t=>show ¬(cnt _ (AJ t)==0)=true;rw[QN h hpo];decide
  |nam k=>show ¬(cnt _ (BL k)==0)=true;rw[nF h hpo];decide
theorem aJ:∀(L:List (List (List UInt8))) (b:Nat),(∀r∈L,r.length<=b)->(GA L).length<=L.length*(b+1)
 | [],b,_=>by simp[GA]
 | [r],b,h=>by have:=h r (by simp);simp only[GA,List.length_singleton];omega
 |r::q::t,b,h=>by
  have h1:=h r (by simp);have h2:=aJ (q::t) b (fun x hx=>h x y29Z);unfold GA;rw[lA,lC,lC (a:=r),Nat.succ_mul];omega
theorem YL:∀(ws:List (List UInt8)) (b:Nat),(∀w∈ws,w.length<=b)->(BR ws).length<=ws.length*(b+1)
 | [],b,_=>by simp[BR]
 | [w],b,h=>by have:=h w (by simp);simp only[BR,List.length_singleton];omega
 |w::v::r,b,h=>by
  have h1:=h w (by simp);have h2:=YL (v::r) b (fun x hx=>h x y29Z);unfold BR;rw[lA,lC,lC (a:=w),Nat.succ_mul];omega
theorem p9 (ws:List (List UInt8)) (h:∀w∈ws,w.length=1):(BR ws).length<=ws.length*2:=YL ws 1 (fun w hw=>Nat.le_of_eq (h w hw))
theorem eA  (h:m.Good) {n:Nat}{rs:List (List Pt)} (hn:m.rules[n]?=some rs):(BR (E6 n rs)).length<=90:=by
 have hmem:=(h.rl hn).2;have hc:=(h.c1 rs hmem).2;have ht6:=h.t6;have hb:=aJ (rs.map fun r=>r.map wB) 5 (fun r hr=>by
  obtain⟨q,hq,rfl⟩:=List.mem_map.1 hr;obtain⟨k,hk,rfl⟩:=List.mem_iff_getElem.1 hq;have:=(h.head rs hmem k _ (gE hk)).2;simpa using this)
 have hb2:(GA (rs.map fun r=>r.map wB)).length<=36:=by
  rw[lM]at hb;have:rs.length*(5+1)<=6*6:=Nat.mul_le_mul (by omega) (by omega);omega
 have h1:∀w∈wB (.nam n):: [61]::GA (rs.map fun r=>r.map wB),w.length=1:=by
  intro w hw
  rcases List.mem_cons.1 hw with rfl |hw
  ·rfl
  ·rcases List.mem_cons.1 hw with rfl |hw
   ·rfl
   ·rcases PE hw with rfl | ⟨r,hr,hwr⟩
    ·rfl
    ·obtain⟨q,_,rfl⟩:=List.mem_map.1 hr
     obtain⟨p,_,rfl⟩:=List.mem_map.1 hwr;cases p <;> rfl
 have h2:=p9 _ h1;have e:BR (E6 n rs)=[114,117,108,101]++32::BR (wB (.nam n):: [61]::GA (rs.map fun r=>r.map wB)):=rfl;rw[e,lA,lC];simp only[lC]at h2 ⊢;simp only[List.length_nil];omega
theorem MI  (h:m.Good):(BO m).size<=4000:=by
 have ht6:=h.t6;have hn4:=h.n4;have e:(BO m).size=(LV ((FC m).map BR)).length:=by simp[BO,ba,ByteArray.size]
 rw[e];unfold LV FC;rw[List.map_append,List.flatMap_append,lA];have h1:(((List.range m.puts.length).flatMap (IB m)).map BR).flatMap (fun l=>l++ [10])=(List.range m.puts.length).flatMap fun i=>((IB m i).map BR).flatMap fun l=>l++ [10]:=by
  rw[List.map_flatMap,List.flatMap_assoc]
 have h2:((List.range m.puts.length).flatMap fun i=>((IB m i).map BR).flatMap fun l=>l++ [10]).length<=(List.range m.puts.length).length*84:=J0 fun i hi=>by
  unfold IB;rw[List.map_cons,List.flatMap_cons,lA,List.map_flatMap,List.flatMap_assoc];have h3:((List.range m.puts.length).flatMap fun j=>((if 0<D7 m i j then [IF i j (D7 m i j)]else []).map BR).flatMap fun l=>l++ [10]).length<=(List.range m.puts.length).length*11:=J0 fun j hj=>by
   split
   ·simp[IF,BR,wB]
   ·simp
  have h4:(BR (KK i (m.puts.getD i 0) (m.drops.getD i 0))++ [10]).length=12:=by simp[KK,BR,wB]
  rw[List.length_range]at h3;have:m.puts.length*11<=66:=by omega
  omega
 have h5:((m.rules.zipIdx.map fun x=>E6 x.2 x.1).map BR).flatMap (fun l=>l++ [10])=m.rules.zipIdx.flatMap fun x=>BR (E6 x.2 x.1)++ [10]:=by
  rw[List.map_map,List.flatMap_map];rfl
 have h6:(m.rules.zipIdx.flatMap fun x=>BR (E6 x.2 x.1)++ [10]).length<=m.rules.zipIdx.length*91:=J0 fun x hx=>by
  have:=eA h (List.mem_zipIdx_iff_getElem?.1 hx);rw[lA,List.length_singleton];omega
 rw[h1,h5];rw[List.length_range]at h2;rw[List.length_zipIdx]at h6;have:m.puts.length*84<=504:=by omega
 have:m.rules.length*91<=364:=by omega
 omega
theorem XD  (h:m.Good):(GP (BO m)).1=0:=by
 have hp:DT (BO m)=(0,0):=by
  have hs:=MI h;unfold DT;rw[if_neg (by omega),if_neg (by rw[RR h];simp)];show(match CJ (pM m) []with
   |some a=>(3,(a:Int))
   |none=>match BU (pM m) 0 0 0 with
    |some a=>(4,(a:Int))
    |none=>if(pM m).any (fun x=>x.2.1==2)then(match EY (AG (pM m)) (pM m)with
      |some a=>(5,(a:Int))
      |none=>(0,0))
     else(4,((BO m).size:Int)):Int × Int)=(0,0)
  rw[MG (pM m) [] (VU h),OO (pM m) 0 0 0 (by rw[YQ h];have:=h.t6;omega) (by rw[KP h];have:=h.n4;omega) ?_ ?_,ZM (mX h)]
  ·have:(pM m).any (fun x=>x.2.1==2)=true:=by
    rw[List.any_eq_true];have hl:=KP h;have h1:=h.n1;obtain⟨x,hx⟩:=List.exists_mem_of_length_pos (show 0< (AL (pM m)).length by omega);exact⟨x,(List.mem_filter.1 hx).1,(List.mem_filter.1 hx).2⟩
   simp[this]
  ·have h1:((AL (pM m)).flatMap fun x=>A8 x.2.2).length<=(AL (pM m)).length*6:=J0 fun x hx=>by
    obtain⟨n,rs,hn,e⟩:=NF h hx;rw[e,JM h hn,lM];have:=(h.c1 rs (h.rl hn).2).2;have:=h.t6;omega
   rw[KP h]at h1;have:=h.n4;have:m.rules.length*6<=24:=by omega
   omega
  ·intro x hx
   obtain⟨n,rs,hn,e⟩:=NF h hx;rw[e,JM h hn];refine gI fun r hr=>?_
   obtain⟨q,hq,rfl⟩:=List.mem_map.1 hr;obtain⟨k,hk,rfl⟩:=List.mem_iff_getElem.1 hq;have:=(h.head rs (h.rl hn).2 k _ (gE hk)).2;rw[lM];omega
 have:=R9 (BO m);rw[hp]at this;injection this with h1 h2
 exact h1.symm
theorem PR  (h:m.Good):GOk (pM m) (GP (BO m)).2.2:=UZ _ (XD h)
theorem MD {P:Program} (w:World) {ops:Array Oper}{rest:List Oper}{o:Oper}{a:Act}{Q:Exit->Act->World->Prop}
  (hg:o.guard=none) (l c:Operand) (t:TypeId) (hop:o.op=Op.makeSlice t l c)
  (e:TypeId) (i:TypeInfo) (z:Value) (h1:P.underlying t=some (.slice e)) (h2:P.info? e=some i) (h3:i.zero=some z)
  (L C:Int) (n:Nat) (hl:a.eval l=ab L) (hc:a.eval c=ab C) (hL:L=(n:Int)) (hC:C=(n:Int)) (b2:(i.bytes:Int)*(n:Int)<=281474976710656) (b3:(n:Int)<=9223372036854775807)
  (hK:wpList P ops Q rest (a.put o.dst (ae w.heap.size n n)) (w.alloc (.cells (madeCells z.cells (n*i.size)) e))):
  wpList P ops Q (o::rest) a w:=by
 refine wpList_plain hg fun K hK'=>?_
 have hrun:=run_make (P:=P) w t e i z h1 h2 h3 .i64 .i64 n n (by omega) (Int.le_refl _) b2 b3;simp only[Int.toNat_natCast]at hrun;subst hL;subst hC;unfold Oper.wp;simp[execOp,hop,hl,hc,hrun,Result.andThen];exact hK' _ _ hK
theorem DI.keeps {w':World}{l:List ByteArray}{S:List Nat} (h:DI w B v l) (hk:A1 w w' S) (hn:∀g,v.ownBlock=some g->g∉S):DI w' B v l:=A7 h hk hn
theorem DI.below {w':World}{l:List ByteArray} (h:DI w B v l) (hb:Below w.heap.size w w'):DI w' B v l:=A7 h (A1.of_below hb []) (by simp)
theorem DI.base {B':Nat}{l:List ByteArray} (h:DI w B v l) (hB:B'<=B):DI w B' v l:=by
 obtain⟨h1,h2⟩:=h;refine⟨h1,?_⟩
 rcases h2 with h2 | ⟨g,cap,cur,hv,hg,r⟩
 ·exact .inl h2
 ·exact .inr ⟨g,cap,cur,hv,lT_ hB hg,r⟩
theorem TG {g:Nat->ByteArray}{k:Nat} (hi:i<k) (h:∀j,j<k->((g j).toList==(g i).toList)=decide (j=i)):EV ((List.range k).map g) (g i)=some i:=by
 unfold EV;rw[List.findIdx?_eq_some_iff_getElem];refine⟨by simpa using hi,?_,?_⟩
 ·simp only[List.getElem_map,List.getElem_range]
  rw[h i hi];simp
 ·intro j hj
  simp only[List.getElem_map,List.getElem_range];rw[h j (by omega),decide_eq_false (by omega)]
  decide
theorem fM {g:Nat->ByteArray}{k:Nat}{s:ByteArray} (h:∀j,j<k->((g j).toList==s.toList)=false):EV ((List.range k).map g) s=none:=by
 unfold EV;rw[List.findIdx?_eq_none_iff];intro x hx;obtain⟨j,hj,rfl⟩:=List.mem_map.1 hx;exact h j (List.mem_range.1 hj)
def grM (m:Mk):Gr:=(GP (BO m)).2.2
theorem lW (m:Mk):(m.rules.zipIdx.map fun x=>BL x.2)=(List.range m.rules.length).map BL:=by
 apply List.ext_getElem?;intro i;rw[gM,gM]
 by_cases hi:i<m.rules.length
 ·rw[List.getElem?_zipIdx,gE hi,List.getElem?_range hi]
  simp
 ·rw[List.getElem?_eq_none y2Z,List.getElem?_eq_none y2Z];rfl
theorem VJ  (h:m.Good):(grM m).names=(List.range m.rules.length).map BL:=by
 have e:=(PR h).g.names;have e2:=LZ h (fun ws=>nth ws 1);rw[e2]at e;exact e.trans (lW m)
theorem QX  (h:m.Good):LE (pM m)=(List.range m.puts.length).map AJ:=by
 unfold LE;rw[LS h (fun ws=>nth ws 1)];rfl
theorem cM  (h:m.Good):FT (grM m).toks=(List.range m.puts.length).map AJ:=(PR h).tws.trans (QX h)
theorem nA  (h:m.Good) {p:Pt} (hp:EL m.puts.length m.rules.length p):ptC (D5 (pM m) (ER p))=p:=by
 have ht6:=h.t6;have hn4:=h.n4;have hc:=(PR h).g.code (ER p);have en:(GP (BO m)).2.2.names=(List.range m.rules.length).map BL:=VJ h;have et:FT (GP (BO m)).2.2.toks=(List.range m.puts.length).map AJ:=cM h;rw[en,et]at hc;rw[hc];cases p with
 |tok t=>
  have hp:t<m.puts.length:=hp;have e1:EV ((List.range m.rules.length).map BL) (ER (.tok t))=none:=fM fun j hj=>by
   have:=VW t (by omega) j (by omega);show((BL j).toList==(AJ t).toList)=false;rw[beq_eq_false_iff_ne]at this ⊢;exact fun e=>this e.symm
  have e2:EV ((List.range m.puts.length).map AJ) (ER (.tok t))=some t:=TG hp fun j hj=>RE j (by omega) t (by omega)
  rw[e1,e2];exact eY t
 |nam k=>
  have hp:k<m.rules.length:=hp;have e1:EV ((List.range m.rules.length).map BL) (ER (.nam k))=some k:=TG hp fun j hj=>mP j (by omega) k (by omega)
  rw[e1];exact gA k
theorem TB  (h:m.Good):pgL (D5 (pM m)) (pM m)=m.rules.zipIdx.map fun x=>(BL x.2,x.1):=by
 unfold pgL;have e:=LZ h (fun ws=>((nth ws 1,(A8 ws).map fun r=>r.map fun w=>ptC (D5 (pM m) w)):Nm));have e0:(AL (pM m)).map (U5 (D5 (pM m)))=(AL (pM m)).map (fun x=>((nth x.2.2 1,(A8 x.2.2).map fun r=>r.map fun w=>ptC (D5 (pM m) w)):Nm)):=rfl;rw[e0,e];refine List.map_congr_left fun x hx=>?_
 obtain⟨rs,n⟩:=x;have hn:=List.mem_zipIdx_iff_getElem?.1 hx;have hw:PX (rs,n)=(E6 n rs).map ba:=rfl;rw[hw,JM h hn];show(BL n,_)=(BL n,rs)
 congr 1
 rw[List.map_map];have hid:∀r∈rs,((fun r:List ByteArray=>r.map fun w=>ptC (D5 (pM m) w)) ∘ fun r:List Pt=>r.map ER) r=r:=by
  intro r hr;show(r.map ER).map (fun w=>ptC (D5 (pM m) w))=r;rw[List.map_map];have:∀p∈r,((fun w=>ptC (D5 (pM m) w)) ∘ ER) p=p:=fun p hp=>nA h (h.part rs (h.rl hn).2 r hr p hp)
  rw[List.map_congr_left this,List.map_id']
 rw[List.map_congr_left hid,List.map_id']
theorem T6 {α β:Type} (g:Nat->β):∀(l:List α) (k:Nat),((l.zipIdx k).map fun x=>(g x.2,x.1)).zipIdx k=(l.zipIdx k).map fun x=>((g x.2,x.1),x.2)
 | [],_=>rfl
 |a::l,k=>by
  rw[List.zipIdx_cons,List.map_cons,List.zipIdx_cons,List.map_cons,T6 g l (k+1)]
theorem Q4  (h:m.Good) {t:Nat} (hp:t<m.puts.length):D5 (pM m) (AJ t)=2*(t:Int):=by
 have ht6:=h.t6;have hn4:=h.n4;have hc:=(PR h).g.code (AJ t);have en:(GP (BO m)).2.2.names=(List.range m.rules.length).map BL:=VJ h;have et:FT (GP (BO m)).2.2.toks=(List.range m.puts.length).map AJ:=cM h;rw[en,et]at hc;have e1:EV ((List.range m.rules.length).map BL) (AJ t)=none:=fM fun j hj=>by
  have:=VW t (by omega) j (by omega);rw[beq_eq_false_iff_ne]at this ⊢;exact fun e=>this e.symm
 have e2:EV ((List.range m.puts.length).map AJ) (AJ t)=some t:=TG hp fun j hj=>RE j (by omega) t (by omega)
 rw[e1,e2]at hc;exact hc
theorem pP  (h:m.Good) {t u:Nat} (h0:D7 m t u≠0):t<m.puts.length/\u<m.puts.length:=by
 unfold D7 at h0;simp only[gD_]at h0;cases hi:m.swaps[t]? with
 |none=>rw[hi]at h0;simp at h0
 |some r=>
  rw[hi]at h0;simp only[Option.getD_some]at h0;have h1:=(gS_.1 hi).1;have h2:=h.srow r (mG hi);cases hj:r[u]? with
  |none=>rw[hj]at h0;simp at h0
  |some x=>
   have h3:=(gS_.1 hj).1;rw[h.sl]at h1;omega
theorem pS  (h:m.Good) (t u:Nat):EW (D5 (pM m)) (pM m) t u=D7 m t u:=by
 have ht6:=h.t6;refine gK (fun x hx h1 h2 h3=>?_) (fun h0=>?_)
 ·have hm:(x.2.1,x.2.2)∈(pM m).map (fun x=>(x.2.1,x.2.2)):=List.mem_map.2 ⟨x,hx,rfl⟩
  rw[aF h (fun a b=>(a,b))]at hm;obtain⟨ws,hws,e⟩:=List.mem_map.1 hm;unfold JI at hws;obtain⟨ls,hl,rfl⟩:=List.mem_map.1 hws;injection e with e1 e2
  rw[h1]at e1;rw[<-e2]at h2 h3 ⊢
  rcases M5 h hl with⟨i,hi,rfl⟩ | ⟨i,j,hi,hj,hne,h0,rfl⟩ | ⟨n,rs,hn,rfl⟩
  ·have:=M0 h hi
   unfold K1 at this;rw[this]at e1;cases e1
  ·rw[IP]at h2 h3 ⊢
   have h2:D5 (pM m) (AJ i)=2*(t:Int):=h2;have h3:D5 (pM m) (AJ j)=2*(u:Int):=h3;rw[Q4 h hi]at h2;rw[Q4 h hj]at h3;obtain rfl:i=t:=by omega
   obtain rfl:j=u:=by omega
   have hc:=KA h i j;show(CZ (ED (D7 m i j)).data.toList).toNat=_;rw[WR _ (by omega)];rfl
  ·have:=(PA h hn).2
   rw[this]at e1;cases e1
 ·obtain⟨ht,hu⟩:=pP h h0
  have hl:IF t u (D7 m t u)∈FC m:=by
   unfold FC;refine List.mem_append_left _ (List.mem_flatMap.2 ⟨t,List.mem_range.2 ht,?_⟩);unfold IB;refine List.mem_cons_of_mem _ (List.mem_flatMap.2 ⟨u,List.mem_range.2 hu,?_⟩);rw[if_pos (by omega)];exact mS.2 rfl
  have hm:(1,(IF t u (D7 m t u)).map ba)∈(JI m).map fun ws=>(AV ws,ws):=by
   refine List.mem_map.2 ⟨_,List.mem_map.2 ⟨_,hl,rfl⟩,?_⟩;rw[IP,(PG (by omega) (by omega) ⟨by omega,KA h t u⟩).2]
  rw[<-aF h (fun a b=>(a,b))]at hm;obtain⟨x,hx,e⟩:=List.mem_map.1 hm;injection e with e1 e2
  refine⟨x,hx,e1,?_,?_⟩
  ·rw[e2,IP];exact Q4 h ht
  ·rw[e2,IP];exact Q4 h hu
theorem pE  (h:m.Good):ngL (pM m)=ngM m:=by
 have ht6:=h.t6;have e1:(LE (pM m)).length=m.puts.length:=by rw[QX h];simp
 have e2:(pgL (D5 (pM m)) (pM m)).length=m.rules.length:=by rw[TB h];simp
 have e3:(fun t=>(((BA (pM m))[t]?.map fun x=>CZ (nth x.2.2 2).data.toList).getD 0).toNat)=fun t=>m.puts.getD t 0:=by
  funext t
  have e:=congrArg (fun l=>l[t]?) (LS h (fun ws=>CZ (nth ws 2).data.toList));simp only[gM]at e;rw[e]
  by_cases ht:t<m.puts.length
  ·rw[List.getElem?_range ht,Option.map_some,Option.getD_some]
   have hv:=h.put_at ht;have:nth (K1 m t) 2=ED (m.puts.getD t 0):=rfl;rw[this,WR _ (by omega)];rfl
  ·rw[List.getElem?_eq_none y2Z,gD_,List.getElem?_eq_none (by omega)]
   rfl
 have e4:P1 (pgL (D5 (pM m)) (pM m))=(ngM m).rules:=by
  rw[TB h];unfold P1;rw[T6 BL m.rules 0,List.flatMap_map];rfl
 have e5:(fun t=>(((BA (pM m))[t]?.map fun x=>CZ (nth x.2.2 3).data.toList).getD 0).toNat)=fun t=>m.drops.getD t 0:=by
  funext t
  have e:=congrArg (fun l=>l[t]?) (LS h (fun ws=>CZ (nth ws 3).data.toList));simp only[gM]at e;rw[e]
  by_cases ht:t<m.puts.length
  ·rw[List.getElem?_range ht,Option.map_some,Option.getD_some]
   have hv:=h.drop_at ht;have:nth (K1 m t) 3=ED (m.drops.getD t 0):=rfl;rw[this,WR _ (by omega)];rfl
  ·rw[List.getElem?_eq_none y2Z,gD_,List.getElem?_eq_none (by rw[h.dl];omega)]
   rfl
 have e6:EW (D5 (pM m)) (pM m)=D7 m:=by funext t u;exact pS h t u
 unfold ngL;rw[e1,e2,e3,e4,e5,e6];rfl
end Go.Proofs.YtjjggdcnpndgjaaGreatDoor
