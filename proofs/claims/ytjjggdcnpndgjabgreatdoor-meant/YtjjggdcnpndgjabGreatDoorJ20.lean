import Derived.Test.YtjjggdcnpndgjabGreatDoorJ19
import Derived.ChangeMaps5
import Derived.ChangeSlices
import Derived.Carry
import Derived.SizedLaws
import Derived.Lay
import Derived.SevenTiedAt
import Derived.Stop.Joined
import Derived.JoinedCond
import Derived.Deep.DeepHandedRow
import Derived.Test.YtjjggdcnpndgjabGreatDoorRows
import Derived.ProofKit
import Derived.LaidMore
import Derived.OpenShut
import Derived.Shelf.Vars
import Derived.Lib.LaidTab
import Derived.Laws.MakeOwn
set_option linter.unusedSimpArgs false
set_option maxRecDepth 100000
namespace Go.Proofs.YtjjggdcnpndgjabGreatDoor
open Go.RowKit
variable {i:Nat}{l:List Value}{m:Mk}{p:List MemPlace}
section
open Go Go.ChangeShapes Go.WideShapes Go.ChangeAt Go.RowKit
open Go.ChangeMaps (shut_string)
theorem laid:laidOutB Tryz.prog=true:=by kernel_rfl
theorem oM {H:Type}{enc:TypeId × Value->H}{W:World}{v:Value}{d:DataW H} (hv:∃a len cap,v=.slice a len cap) (hs:∀e s,d=.slice e s->(e.length+s.length)*Tryz.prog.bytesOf 3<=reachBytes) (h:DataW.Trod enc Tryz.prog W 0 (fun _=>true) true 22 v d p):KT W v:=by
 obtain⟨a0,len,cap,rfl⟩:=hv;obtain⟨fuel,hf⟩:=h;have hc:Tryz.prog.cellsOf 3=1:=by kernel_rfl
 have hb:Tryz.prog.bytesOf 3=8:=by kernel_rfl
 rcases open_ints Tryz.underlying22 Tryz.underlying3 hc hf with⟨hcs,_⟩ | ⟨a,len',cap',zs,hcs,_,hl,_,hz,hx,hcell,hw⟩
 ·simp[Value.cells]at hcs
  obtain⟨rfl,rfl,rfl⟩:=hcs;exact⟨none,0,0,rfl,lR_ _,by omega,fun h=>by omega⟩
 ·simp[Value.cells]at hcs
  obtain⟨rfl,rfl,rfl⟩:=hcs;simp only[Prod.mk.injEq]at hx;obtain⟨rfl,_⟩:=hx;have hr:=hs _ _ rfl;have h47:=reachBytes_lt;simp only[if_true]at hz;rw[hb]at hr;simp only[lits,lM,List.length_take,List.length_drop,hz]at hr;refine⟨some a,len,cap,rfl,hl,by omega,fun h0=>?_⟩;obtain⟨b,off,spot⟩:=a;have hspot:spot=none:=by simpa[Addr.add] using World.cell?_spot (hcell 0 (by omega))
  subst hspot;refine⟨b,off,rfl,?_,fun j hj=>⟨zs.getD j 0,?_,?_⟩⟩
  ·exact World.block_lt_of_cell? W _ (hcell 0 (by omega))
  ·have h:=hcell j (by omega);rw[add_plain]at h;exact h
  ·have hm:zs.getD j 0∈zs:=by
    have hj':j<zs.length:=by omega
    simp[List.getD,gE hj']
   have:=hw _ hm;simp[Lit.wf,IntKind.min,IntKind.max,show IntKind.i64.signed=true from rfl,show IntKind.i64.bits=64 from rfl]at this;unfold I64;exact this
theorem own:ownKnob Tryz.prog.godebug=none:=by kernel_rfl
end
section
open Go Go.RowKit
set_option maxRecDepth 100000
theorem MY {P:Program}{w:World}:∀{l:List (String × DataW Unit)}{ps:List MemPlace},DataW.LaidVars P w l ps->∀(n:String) (d:DataW Unit),(n,d)∈l->
  ∃g t cs fuel p,P.globalNamed n=some g/\(P.globals[g]?).map (·.type)=some t/\w.var? P n=some cs/\DataW.trod (fun _=>()) P w 0 (fun _=>true) false fuel t cs.toList=some (d,p)
 | [],_,_,n,d,hm=>by cases hm
 | (m,e)::r,_,⟨g,t,cs,fuel,p,q,h1,h2,h3,h4,h5,_⟩,n,d,hm=>by
  rcases List.mem_cons.1 hm with h |h
  ·cases h;exact⟨g,t,cs,fuel,p,h1,h2,h3,h4⟩
  ·exact MY h5 n d h
theorem MW {P:Program}{w:World}{n:String}{g:Nat}{cs:Array Value} (hg:P.globalNamed n=some g) (h:w.var? P n=some cs):∃t fr,w.heap[g]?=some (.cells cs t fr):=by
 simp only[World.var?,hg,Option.bind_some]at h;split at h
 ·rename_i cs' t fr hh
  cases h;exact⟨t,fr,hh⟩
 ·cases h
section
variable {W:World}{sp:Nat->Bool}{held:Bool}
theorem dJ {m:Nat}{a b c:Int} (hl:l.length=3) (h:DataW.trod (fun _=>()) Tryz.prog W 0 sp held m 220 l=some (.agg [.lit (.int .i64 a),.lit (.int .i64 b),.lit (.int .i64 c)],p)):
  l=[ab a,ab b,ab c]:=by
 obtain⟨xs,n,_,hx,_,hxl,hall⟩:=DataW.trod_array Tryz.underlying220 h;have ck:Tryz.prog.cellsOf 219=1:=by kernel_rfl
 match l,hl,xs,hxl with
 | [v0,v1,v2],_,[x0,x1,x2],_=>
  have h0:=hall 0 (by decide);have h1:=hall 1 (by decide);have h2:=hall 2 (by decide);rw[ck]at h0 h1 h2;obtain⟨z0,e0,f0,_⟩:=DataW.trod_int Tryz.underlying219 h0;obtain⟨z1,e1,f1,_⟩:=DataW.trod_int Tryz.underlying219 h1;obtain⟨z2,e2,f2,_⟩:=DataW.trod_int Tryz.underlying219 h2;simp at e0 e1 e2;subst e0 e1 e2 f0 f1 f2;have:=(Prod.mk.inj hx).1;simp at this;obtain⟨rfl,rfl,rfl⟩:=this;rfl
theorem O5 {m:Nat}{s:List UInt8}{a b c:Int} (h:DataW.trod (fun _=>()) Tryz.prog W 0 sp held m 222 l=some (.agg [.lit (.string s),.agg [.lit (.int .i64 a),.lit (.int .i64 b),.lit (.int .i64 c)]],p)):
  l=[.string ⟨s.toArray⟩,ab a,ab b,ab c]:=by
 obtain⟨xs,n,_,hx,hl,hxl,hall⟩:=DataW.trod_struct Tryz.underlying222 h;have cS:Tryz.prog.cellsOf 222=4:=by kernel_rfl
 have cs:Tryz.prog.cellsOf 9=1:=by kernel_rfl
 have cb:Tryz.prog.cellsOf 220=3:=by kernel_rfl
 rw[cS]at hl
 match l,hl,xs,hxl with
 | [v0,v1,v2,v3],_,[x0,x1],_=>
  have h0:DataW.trod _ Tryz.prog W 0 sp held n 9 (([v0,v1,v2,v3].drop 0).take (Tryz.prog.cellsOf 9))=_:=hall 0 _ rfl;have h1:DataW.trod _ Tryz.prog W 0 sp held n 220 (([v0,v1,v2,v3].drop 1).take (Tryz.prog.cellsOf 220))=_:=hall 1 _ rfl;rw[cs]at h0;rw[cb]at h1;have hx':=(Prod.mk.inj hx).1;simp only[List.map_cons,List.map_nil,DataW.agg.injEq,List.cons.injEq,and_true]at hx';obtain⟨s',e0,f0,_⟩:=DataW.trod_string Tryz.underlying9 h0;obtain⟨y1,q1⟩:=x1;obtain rfl:y1=_:=hx'.2.symm;have e1:=dJ (by simp) h1;simp at e0 e1;obtain⟨rfl,rfl,rfl⟩:=e1;subst e0 f0;have:=hx'.1;simp at this;subst this;rfl
theorem ZX {m:Nat} (h:DataW.trod (fun _=>()) Tryz.prog W 0 sp held m 223 l=some (Rows.laid_darn_source_shapes,p)):
  l=[.string ⟨#[116,111,107,101,110]⟩,ab 1,ab 3,ab 3,.string ⟨#[115,119,97,112]⟩,ab 1,ab 1,ab 3,.string ⟨#[114,117,108,101]⟩,ab 2,ab 4,ab 5]:=by
 obtain⟨xs,n,_,hx,hl,hxl,hall⟩:=DataW.trod_array Tryz.underlying223 h;have cS:Tryz.prog.cellsOf 222=4:=by kernel_rfl
 have cA:Tryz.prog.cellsOf 223=12:=by kernel_rfl
 rw[cA]at hl
 match l,hl,xs,hxl with
 | [v0,v1,v2,v3,v4,v5,v6,v7,v8,v9,v10,v11],_,[x0,x1,x2],_=>
  have h0:=hall 0 (by decide);have h1:=hall 1 (by decide);have h2:=hall 2 (by decide);rw[cS]at h0 h1 h2;have hx':=(Prod.mk.inj hx).1;unfold Rows.laid_darn_source_shapes at hx';simp only[List.map_cons,List.map_nil,DataW.agg.injEq,List.cons.injEq,and_true]at hx';obtain⟨y0,q0⟩:=x0;obtain⟨y1,q1⟩:=x1;obtain⟨y2,q2⟩:=x2;obtain rfl:y0=_:=hx'.1.symm;obtain rfl:y1=_:=hx'.2.1.symm;obtain rfl:y2=_:=hx'.2.2.symm;have e0:=O5 h0;have e1:=O5 h1;have e2:=O5 h2;simp at e0 e1 e2;obtain⟨rfl,rfl,rfl,rfl⟩:=e0;obtain⟨rfl,rfl,rfl,rfl⟩:=e1;obtain⟨rfl,rfl,rfl,rfl⟩:=e2;rfl
end
theorem sR:Tryz.prog.globalNamed "darn/source.shapes" =some 1:=by kernel_rfl
theorem sL:(Tryz.prog.globals[1]?).map (·.type)=some 223:=by kernel_rfl
theorem wH:Tryz.prog.globalNamed "strconv.ErrRange" =some 4:=by kernel_rfl
theorem wA:(Tryz.prog.globals[4]?).map (·.type)=some 228:=by kernel_rfl
theorem wV:Tryz.prog.globalNamed "math/bits.deBruijn64tab" =some 8:=by kernel_rfl
theorem vY:Tryz.prog.globalNamed "math/bits.deBruijn32tab" =some 0:=by kernel_rfl
theorem wG:(Tryz.prog.globals[0]?).map (·.type)=some 202:=by kernel_rfl
theorem wU:Tryz.prog.globals.size=9:=by kernel_rfl
theorem gF {W:World} (hL:laidMetH Tryz.prog Rows.meantRow.laid W) (hsh:W.ShapedOpen Tryz.prog):DS W/\TabAt 0 Lib.deBruijn32tab W:=by
 rw[MakeChecks.laidMetH_plain _ _ _ y1Z]at hL;obtain⟨ps,hv,_⟩:=hL;have hshapes:∃t fr,W.heap[1]?=some (.cells #[.string ⟨#[116,111,107,101,110]⟩,ab 1,ab 3,ab 3,.string ⟨#[115,119,97,112]⟩,ab 1,ab 1,ab 3,.string ⟨#[114,117,108,101]⟩,ab 2,ab 4,ab 5] t fr):=by
  obtain⟨g,t,cs,fuel,p,h1,h2,h3,h4⟩:=MY hv "darn/source.shapes" Rows.laid_darn_source_shapes y69Z;obtain rfl:=Option.some.inj (sR.symm.trans h1);obtain rfl:=Option.some.inj (sL.symm.trans h2);obtain⟨t,fr,hb⟩:=MW h1 h3;have e:=ZX h4;obtain⟨l⟩:=cs;simp only at e;subst e;exact⟨t,fr,hb⟩
 have hrng:∃te pe,W.cell? (af 4 0)=some (.iface te pe):=by
  obtain⟨g,t,cs,fuel,p,h1,h2,h3,h4⟩:=MY hv "strconv.ErrRange" Rows.laid_strconv_ErrRange y69Z;obtain rfl:=Option.some.inj (wH.symm.trans h1);obtain rfl:=Option.some.inj (wA.symm.trans h2);obtain⟨_,u,v,e,_,_⟩:=iface_of_trod Tryz.underlying228 h4;obtain⟨l⟩:=cs;simp only at e;subst e;exact⟨u,v,World.var?_cell h1 h3 0⟩
 have htab:TabAt 0 Lib.deBruijn32tab W:=by
  obtain⟨g,t,cs,fuel,p,h1,h2,h3,h4⟩:=MY hv "math/bits.deBruijn32tab" Rows.laid_math_bits_deBruijn32tab y69Z;obtain rfl:=Option.some.inj (vY.symm.trans h1);obtain rfl:=Option.some.inj (wG.symm.trans h2);obtain⟨t,fr,hb⟩:=MW h1 h3;have e:=Lib.cells_of_tab (zs:=Lib.deBruijn32tab.map fun(n:Nat)=>(n:Int)) Tryz.underlying202 Tryz.underlying5 y1Z y1Z (show _=some (Lib.tabData .u8 (Lib.deBruijn32tab.map fun(n:Nat)=>(n:Int)),p) from h4);intro j hj;rw[A0 hb];have e2:cs[j]?=cs.toList[j]?:=by simp
  rw[e2,e,List.map_map,gM,gD_,gE hj];rfl
 refine⟨⟨?_,?_,hrng,hshapes⟩,htab⟩
 ·obtain⟨g,t,cs,fuel,p,h1,h2,h3,h4⟩:=MY hv "math/bits.deBruijn64tab" Rows.laid_math_bits_deBruijn64tab y69Z
  obtain rfl:=Option.some.inj (wV.symm.trans h1);obtain⟨t,fr,hb⟩:=MW h1 h3;have:=(Array.getElem?_eq_some_iff.1 hb).1;omega
 ·exact cell_of_shapedOpen_int (zero:= #[ab 0]) (t:=3) hsh (by rw[wU];decide) y1Z rfl y1Z y1Z Tryz.underlying3
end
theorem O6 {α β:Type}{f:α->List β}{g:α->β}:∀{l:List α},(∀a∈l,f a=[g a])->l.flatMap f=l.map g
 | [],_=>rfl
 |a::l,h=>by rw[List.flatMap_cons,h a (by simp),O6 (fun b hb=>h b (by simp[hb]))];rfl
theorem rI:ByteArray.empty.toList.isEmpty=true:=by decide+kernel
def JA (m:Mk):List (List ByteArray):=(F4 m).map fun ws=>ws.map ba
def K1 (m:Mk) (i:Nat):List ByteArray:=(KD i (m.puts.getD i 0) (m.drops.getD i 0)).map ba
def PR (m:Mk) (i:Nat):List (List ByteArray):=(List.range m.puts.length).flatMap fun j=>if 0<D0 m i j then [(IA i j (D0 m i j)).map ba]else []
def PQ (x:List (List Pt) × Nat):List ByteArray:=(DZ x.2 x.1).map ba
theorem QN (m:Mk):JA m=((List.range m.puts.length).flatMap fun i=>K1 m i::PR m i)++m.rules.zipIdx.map PQ:=by
 unfold JA F4;rw[List.map_append,List.map_flatMap,List.map_map]
 congr 1
 congr 1
 funext i
 unfold I5;rw[List.map_cons,List.map_flatMap]
 congr 1
 unfold PR
 congr 1
 funext j
 split <;> rfl
theorem XX:∀(L:List (List ByteArray)) (o:List Nat),(∀ws∈L,¬ws.length=1)->AF (o.zip L)=(o.zip L).map fun x=>(x.1,AV x.2,x.2)
 | [],o,_=>by simp[AF]
 |ws::L,[],_=>by simp[AF]
 |ws::L,a::o,h=>by
  rw[List.zip_cons_cons,MI (by exact h ws (by simp)),XX L o (fun x hx=>h x y31Z)];rfl
theorem XR {β:Type} (g:Nat->List ByteArray->β):∀(L:List (List ByteArray)) (o:List Nat),o.length=L.length->((o.zip L).map fun x=>(x.1,AV x.2,x.2)).map (fun x:Ln=>g x.2.1 x.2.2)=L.map fun ws=>g (AV ws) ws
 | [],o,h=>by simp
 |ws::L,[],h=>by simp at h
 |ws::L,a::o,h=>by
  rw[List.zip_cons_cons,List.map_cons,List.map_cons,List.map_cons,XR g L o y20Z]
theorem UW {β:Type} (k:Nat) (g:List ByteArray->β):∀(L:List (List ByteArray)) (o:List Nat),o.length=L.length->(((o.zip L).map fun x=>(x.1,AV x.2,x.2)).filter fun x:Ln=>x.2.1==k).map (fun x:Ln=>g x.2.2)=(L.filter fun ws=>AV ws==k).map g
 | [],o,h=>by simp
 |ws::L,[],h=>by simp at h
 |ws::L,a::o,h=>by
  have ih:=UW k g L o y20Z;rw[List.zip_cons_cons,List.map_cons,List.filter_cons,List.filter_cons]
  by_cases hk:AV ws==k
  ·rw[if_pos hk,if_pos hk,List.map_cons,List.map_cons,ih]
  ·rw[if_neg hk,if_neg hk,ih]
theorem aX:∀(ls:List (List UInt8)) (a:Nat),(R6 ls a).length=ls.length
 | [],_=>rfl
 |l::r,a=>by unfold R6;rw[lC,lC,aX r]
def pM (m:Mk):List Ln:=AF (AG (DA m) 0).1
theorem k7  (h:m.Good):pM m=((R6 ((F4 m).map BQ) 0).zip (JA m)).map fun x=>(x.1,AV x.2,x.2):=by
 unfold pM;rw[XD h];exact XX _ _ (fun ws hw=>by
  obtain⟨x,hx,rfl⟩:=List.mem_map.1 hw;exact(gG h hx).2)
theorem Y5 (m:Mk):(R6 ((F4 m).map BQ) 0).length=(JA m).length:=by
 rw[aX];unfold JA;simp
theorem aH {β:Type} (h:m.Good) (g:Nat->List ByteArray->β):(pM m).map (fun x=>g x.2.1 x.2.2)=(JA m).map fun ws=>g (AV ws) ws:=by
 rw[k7 h];exact XR g _ _ (Y5 m)
theorem Y8 {β:Type} (h:m.Good) (k:Nat) (g:List ByteArray->β):((pM m).filter fun x=>x.2.1==k).map (fun x=>g x.2.2)=((JA m).filter fun ws=>AV ws==k).map g:=by
 rw[k7 h];exact UW k g _ _ (Y5 m)
theorem LQ  (h:m.Good)  (hi:i<m.puts.length):AV (K1 m i)=0:=by
 have:=h.t6;exact(TS (by omega) (JN h.p1 hi) (JN h.d1 y77Z)).2
theorem NW  (h:m.Good)  (hi:i<m.puts.length):∀ws∈PR m i,AV ws=1/\∃j c,j<m.puts.length/\i≠j/\ws=[ba [115,119,97,112],A7 i,A7 j,E7 c]:=by
 intro ws hw;unfold PR at hw;rw[List.mem_flatMap]at hw;obtain⟨j,hj,hw⟩:=hw;have hj:=List.mem_range.1 hj;have:=h.t6;split at hw
 ·rename_i h0
  obtain rfl:=mS.1 hw;rw[IG];exact⟨(P4 (by omega) (by omega) ⟨h0,K3 h i j⟩).2,j,_,hj,fun e=>by subst e;rw[UC h]at h0;omega,rfl⟩
 ·cases hw
theorem O4  (h:m.Good) {x:List (List Pt) × Nat} (hx:x∈m.rules.zipIdx):AV (PQ x)=2:=(PA h (List.mem_zipIdx_iff_getElem?.1 hx)).2
theorem V5 {α:Type}{p:α->Bool}{l:List α} (h:∀a∈l,p a=true):l.filter p=l:=List.filter_eq_self.2 h
theorem MJ {α:Type}{p:α->Bool}{l:List α} (h:∀a∈l,p a=false):l.filter p=[]:=by
 rw[List.filter_eq_nil_iff];intro a ha;rw[h a ha];simp
theorem mM  (h:m.Good):((JA m).filter fun ws=>AV ws==0)=(List.range m.puts.length).map (K1 m):=by
 rw[QN,List.filter_append,List.filter_flatMap];have e2:((m.rules.zipIdx.map PQ).filter fun ws=>AV ws==0)=[]:=MJ fun ws hw=>by
  obtain⟨x,hx,rfl⟩:=List.mem_map.1 hw;rw[O4 h hx];rfl
 rw[e2,List.append_nil];have e1:∀i∈List.range m.puts.length,((K1 m i::PR m i).filter fun ws=>AV ws==0)=[K1 m i]:=fun i hi=>by
  have hi:=List.mem_range.1 hi;rw[List.filter_cons_of_pos (by rw[LQ h hi];rfl),MJ (fun ws hw=>by rw[(NW h hi ws hw).1];rfl)]
 exact O6 e1
theorem oA  (h:m.Good):((JA m).filter fun ws=>AV ws==2)=m.rules.zipIdx.map PQ:=by
 rw[QN,List.filter_append,List.filter_flatMap];have e1:((List.range m.puts.length).flatMap fun i=>(K1 m i::PR m i).filter fun ws=>AV ws==2)=[]:=by
  rw[List.flatMap_eq_nil_iff];intro i hi;have hi:=List.mem_range.1 hi;exact MJ fun ws hw=>by
   rcases List.mem_cons.1 hw with rfl |hw
   ·rw[LQ h hi];rfl
   ·rw[(NW h hi ws hw).1];rfl
 rw[e1,List.nil_append];exact V5 fun ws hw=>by
  obtain⟨x,hx,rfl⟩:=List.mem_map.1 hw;rw[O4 h hx];rfl
theorem LP {β:Type} (h:m.Good) (g:List ByteArray->β):(B4 (pM m)).map (fun x=>g x.2.2)=(List.range m.puts.length).map fun i=>g (K1 m i):=by
 unfold B4;rw[Y8 h 0 g,mM h,List.map_map];rfl
theorem LW {β:Type} (h:m.Good) (g:List ByteArray->β):(AM (pM m)).map (fun x=>g x.2.2)=m.rules.zipIdx.map fun x=>g (PQ x):=by
 unfold AM;rw[Y8 h 2 g,oA h,List.map_map];rfl
theorem O7  (h:m.Good):AH (pM m)=(List.range m.puts.length).map A7++(List.range m.rules.length).map BO:=by
 have hne:∀{i:Nat},i<6->(A7 i).toList.isEmpty=false:=fun hi=>S6 (OU _ hi)
 have hnn:∀{i:Nat},i<4->(BO i).toList.isEmpty=false:=fun hi=>S6 (TL _ hi)
 have ht6:=h.t6;have hn4:=h.n4;unfold AH;rw[aH h BC,QN,List.map_append,List.filter_append,List.map_flatMap,List.filter_flatMap,List.map_map]
 congr 1
 ·have e1:∀i∈List.range m.puts.length,(((K1 m i::PR m i).map fun ws=>BC (AV ws) ws).filter fun s=> !s.toList.isEmpty)=[A7 i]:=fun i hi=>by
   have hi:=List.mem_range.1 hi;rw[List.map_cons,LQ h hi];have e:BC 0 (K1 m i)=A7 i:=rfl;rw[e,List.filter_cons_of_pos (by rw[hne (by omega)];rfl)]
   congr 1
   refine MJ fun s hs=>?_
   obtain⟨ws,hw,rfl⟩:=List.mem_map.1 hs;rw[(NW h hi ws hw).1];show(!ByteArray.empty.toList.isEmpty)=false;rw[rI];rfl
  exact O6 e1
 ·have e2:(m.rules.zipIdx.map ((fun ws=>BC (AV ws) ws) ∘ PQ))=(List.range m.rules.length).map BO:=by
   apply List.ext_getElem?;intro i;rw[gM,gM]
   by_cases hi:i<m.rules.length
   ·rw[List.getElem?_zipIdx,gE hi,List.getElem?_range hi]
    simp only[Option.map_some,Function.comp_apply,Nat.zero_add]
    congr 1
    rw[O4 h (List.mem_zipIdx_iff_getElem?.2 (gE hi))];rfl
   ·rw[List.getElem?_eq_none y2Z,List.getElem?_eq_none y2Z];rfl
  rw[e2];exact V5 fun s hs=>by
   obtain⟨i,hi,rfl⟩:=List.mem_map.1 hs;rw[hnn (by have:=List.mem_range.1 hi;omega)];rfl
theorem PN:∀(P:List Ln) (ws:List ByteArray),(ws++AH P).Pairwise (fun a b=>(a.toList==b.toList)=false)->CQ P ws=none
 | [],_,_=>rfl
 |x::P,ws,h=>by
  rw[SO]at h;rw[CQ];cases he:(BC x.2.1 x.2.2).toList.isEmpty with
  |true=>
   rw[he,if_pos rfl,List.nil_append]at h;rw[if_pos rfl];exact PN P ws h
  |false=>
   rw[he,if_neg (by decide)]at h;have hc:¬0<cnt ws (BC x.2.1 x.2.2):=by
    rw[OL,List.any_eq_true];rintro⟨a,ha,hab⟩;have:=(List.pairwise_append.1 h).2.2 a ha (BC x.2.1 x.2.2) (by simp);rw[hab]at this;cases this
   rw[if_neg (by decide),if_neg hc];exact PN P _ (by rw[aA];exact h)
theorem RX:∀(P:List Ln) (t n r:Nat),t+(B4 P).length<=20->n+(AM P).length<=20->r+((AM P).flatMap fun x=>A9 x.2.2).length<=60->(∀x∈AM P,DW (A9 x.2.2)<=8)->BZ P t n r=none
 | [],_,_,_,_,_,_,_=>rfl
 |x::P,t,n,r,h1,h2,h3,h4=>by
  rw[BZ]
  by_cases h0:x.2.1=0
  ·have h02:¬x.2.1=2:=by omega
   have e1:B4 (x::P)=x::B4 P:=by unfold B4;rw[List.filter_cons_of_pos y56Z]
   have e2:AM (x::P)=AM P:=by unfold AM;rw[List.filter_cons_of_neg y56Z]
   rw[e1,lC]at h1;rw[e2]at h2 h3 h4;simp only[if_pos h0,if_neg h02];rw[if_neg (by omega)];exact RX P _ _ _ (by omega) h2 h3 h4
  ·have e1:B4 (x::P)=B4 P:=by unfold B4;rw[List.filter_cons_of_neg y56Z]
   rw[e1]at h1
   by_cases h02:x.2.1=2
   ·have e2:AM (x::P)=x::AM P:=by unfold AM;rw[List.filter_cons_of_pos (by simp[h02])]
    rw[e2]at h2 h3 h4;rw[lC]at h2;rw[List.flatMap_cons,lA]at h3;have h5:=h4 x (by simp);simp only[if_neg h0,if_pos h02];rw[if_neg (by omega)];exact RX P _ _ _ h1 (by omega) (by omega) (fun y hy=>h4 y (by simp[hy]))
   ·have e2:AM (x::P)=AM P:=by unfold AM;rw[List.filter_cons_of_neg (by simp[h02])]
    rw[e2]at h2 h3 h4;simp only[if_neg h0,if_neg h02];rw[if_neg (by omega)];exact RX P _ _ _ h1 h2 h3 h4
theorem oG:∀{P:List Ln}{ws:List ByteArray},(∀x∈P,ES ws x=false)->EY ws P=none
 | [],_,_=>rfl
 |x::P,ws,h=>by
  rw[EY,h x (by simp),if_neg (by decide)];exact oG fun y hy=>h y (by simp[hy])
theorem uQ {rs:List (List ByteArray)}{b:Nat} (h:∀r∈rs,r.length<=b):DW rs<=b:=by
 have key:∀(rs:List (List ByteArray)) (m:Nat),m<=b->(∀r∈rs,r.length<=b)->rs.foldl (fun m r=>max m r.length) m<=b:=by
  intro rs
  induction rs with
  |nil=>intro m hm _;exact hm
  |cons a rs ih=>
   intro m hm hr;rw[List.foldl_cons];have:=hr a (by simp);exact ih _ (by omega) (fun x hx=>hr x y31Z)
 exact key rs 0 (by omega) h
theorem JR {α β:Type}{f:α->List β}{b:Nat}:∀{l:List α},(∀a∈l,(f a).length<=b)->(l.flatMap f).length<=l.length*b
 | [],_=>by simp
 |a::l,h=>by
  rw[List.flatMap_cons,lA,lC,Nat.succ_mul];have h1:=h a (by simp);have h2:=JR (l:=l) (fun x hx=>h x y31Z);omega
theorem Y6  (h:m.Good) {x:Ln} (hx:x∈AM (pM m)):∃(n:Nat) (rs:List (List Pt)),m.rules[n]?=some rs/\x.2.2=(DZ n rs).map ba:=by
 have h1:=LW h (fun ws=>ws);have h2:x.2.2∈(AM (pM m)).map (fun x=>x.2.2):=List.mem_map.2 ⟨x,hx,rfl⟩;rw[h1]at h2;obtain⟨⟨rs,n⟩,hy,e⟩:=List.mem_map.1 h2;exact⟨n,rs,List.mem_zipIdx_iff_getElem?.1 hy,e.symm⟩
theorem mI  (h:m.Good):(B4 (pM m)).length=m.puts.length:=by
 have:=congrArg List.length (LP h (fun ws=>ws));simpa using this
theorem QE  (h:m.Good):(AM (pM m)).length=m.rules.length:=by
 have:=congrArg List.length (LW h (fun ws=>ws));simpa using this
theorem j9  (h:m.Good):(AH (pM m)).Pairwise (fun a b=>(a.toList==b.toList)=false):=by
 have ht6:=h.t6;have hn4:=h.n4;rw[O7 h,List.pairwise_append];refine⟨?_,?_,?_⟩
 ·rw[List.pairwise_map]
  refine List.Pairwise.imp_of_mem (R:=fun a b=>a<b) ?_ List.pairwise_lt_range;intro a b ha hb hlt;have ha:=List.mem_range.1 ha;have hb:=List.mem_range.1 hb;rw[QU a (by omega) b (by omega),decide_eq_false (by omega)]
 ·rw[List.pairwise_map]
  refine List.Pairwise.imp_of_mem (R:=fun a b=>a<b) ?_ List.pairwise_lt_range;intro a b ha hb hlt;have ha:=List.mem_range.1 ha;have hb:=List.mem_range.1 hb;rw[mD a (by omega) b (by omega),decide_eq_false (by omega)]
 ·intro a ha b hb
  obtain⟨i,hi,rfl⟩:=List.mem_map.1 ha;obtain⟨j,hj,rfl⟩:=List.mem_map.1 hb;have hi:=List.mem_range.1 hi;have hj:=List.mem_range.1 hj;exact X1 i (by omega) j (by omega)
theorem RP  (h:m.Good)  (hi:i<m.puts.length):(cnt (AH (pM m)) (A7 i)==0)=false:=by
 have:0<cnt (AH (pM m)) (A7 i):=by
  rw[OL,List.any_eq_true];exact⟨A7 i,by rw[O7 h];exact List.mem_append_left _ (List.mem_map.2 ⟨i,List.mem_range.2 hi,rfl⟩),by simp⟩
 rw[beq_eq_false_iff_ne];omega
theorem kV  (h:m.Good)  (hi:i<m.rules.length):(cnt (AH (pM m)) (BO i)==0)=false:=by
 have:0<cnt (AH (pM m)) (BO i):=by
  rw[OL,List.any_eq_true];exact⟨BO i,by rw[O7 h];exact List.mem_append_right _ (List.mem_map.2 ⟨i,List.mem_range.2 hi,rfl⟩),by simp⟩
 rw[beq_eq_false_iff_ne];omega
theorem vE  (h:m.Good) {x:Ln} (hx:x∈pM m):∃ws∈F4 m,x.2.1=AV (ws.map ba)/\x.2.2=ws.map ba:=by
 rw[k7 h]at hx;obtain⟨⟨a,l⟩,hy,rfl⟩:=List.mem_map.1 hx;have:=(List.of_mem_zip hy).2;obtain⟨ws,hw,rfl⟩:=List.mem_map.1 this;exact⟨ws,hw,rfl,rfl⟩
theorem vI  (h:m.Good):∀x∈pM m,ES (AH (pM m)) x=false:=by
 intro x hx;have ht6:=h.t6;obtain⟨ws,hw,e1,e2⟩:=vE h hx;unfold ES;rw[e1,e2]
 rcases M2 h hw with⟨i,hi,rfl⟩ | ⟨i,j,hi,hj,hne,h0,rfl⟩ | ⟨n,rs,hn,rfl⟩
 ·rw[UE,(TS (by omega) (JN h.p1 hi) (JN h.d1 y77Z)).2]
  rfl
 ·rw[IG,(P4 (by omega) (by omega) ⟨h0,K3 h i j⟩).2]
  have e:GM 1 [ba [115,119,97,112],A7 i,A7 j,E7 (D0 m i j)]=[A7 i,A7 j]:=rfl;have e3:((nth [ba [115,119,97,112],A7 i,A7 j,E7 (D0 m i j)] 1).toList==(nth [ba [115,119,97,112],A7 i,A7 j,E7 (D0 m i j)] 2).toList)=false:=by
   show((A7 i).toList==(A7 j).toList)=false;rw[QU i (by omega) j (by omega),decide_eq_false hne]
  rw[e,e3];simp only[List.any_cons,List.any_nil,RP h hi,RP h hj];rfl
 ·rw[(PA h hn).2]
  have e:GM 2 ((DZ n rs).map ba)=(rs.map fun r=>r.map F6).flatten:=by
   unfold GM;rw[if_neg (by decide),if_pos rfl,MG h hn]
  rw[e];have e4:((2:Nat)==1)=false:=rfl;rw[e4,Bool.false_and,Bool.false_or,List.any_eq_false];intro u hu;rw[List.mem_flatten]at hu;obtain⟨q,hq,huq⟩:=hu;obtain⟨r,hr,rfl⟩:=List.mem_map.1 hq;obtain⟨p,hp,rfl⟩:=List.mem_map.1 huq;have hpo:=h.part rs (h.rl hn).2 r hr p hp;cases p with
  |tok t=>show ¬(cnt _ (A7 t)==0)=true;rw[RP h hpo];decide
  |nam k=>show ¬(cnt _ (BO k)==0)=true;rw[kV h hpo];decide
theorem bY:∀(L:List (List (List UInt8))) (b:Nat),(∀r∈L,r.length<=b)->(G8 L).length<=L.length*(b+1)
 | [],b,_=>by simp[G8]
 | [r],b,h=>by have:=h r (by simp);simp only[G8,List.length_singleton];omega
 |r::q::t,b,h=>by
  have h1:=h r (by simp);have h2:=bY (q::t) b (fun x hx=>h x y31Z);unfold G8;rw[lA,lC,lC (a:=r),Nat.succ_mul];omega
theorem YT:∀(ws:List (List UInt8)) (b:Nat),(∀w∈ws,w.length<=b)->(BQ ws).length<=ws.length*(b+1)
 | [],b,_=>by simp[BQ]
 | [w],b,h=>by have:=h w (by simp);simp only[BQ,List.length_singleton];omega
 |w::v::r,b,h=>by
  have h1:=h w (by simp);have h2:=YT (v::r) b (fun x hx=>h x y31Z);unfold BQ;rw[lA,lC,lC (a:=w),Nat.succ_mul];omega
theorem nA (ws:List (List UInt8)) (h:∀w∈ws,w.length=1):(BQ ws).length<=ws.length*2:=YT ws 1 (fun w hw=>Nat.le_of_eq (h w hw))
theorem dB  (h:m.Good) {n:Nat}{rs:List (List Pt)} (hn:m.rules[n]?=some rs):(BQ (DZ n rs)).length<=90:=by
 have hmem:=(h.rl hn).2;have hc:=(h.c1 rs hmem).2;have ht6:=h.t6;have hb:=bY (rs.map fun r=>r.map wB) 5 (fun r hr=>by
  obtain⟨q,hq,rfl⟩:=List.mem_map.1 hr;obtain⟨k,hk,rfl⟩:=List.mem_iff_getElem.1 hq;have:=(h.head rs hmem k _ (gE hk)).2;simpa using this)
 have hb2:(G8 (rs.map fun r=>r.map wB)).length<=36:=by
  rw[lM]at hb;have:rs.length*(5+1)<=6*6:=Nat.mul_le_mul (by omega) (by omega);omega
 have h1:∀w∈wB (.nam n):: [61]::G8 (rs.map fun r=>r.map wB),w.length=1:=by
  intro w hw
  rcases List.mem_cons.1 hw with rfl |hw
  ·rfl
  ·rcases List.mem_cons.1 hw with rfl |hw
   ·rfl
   ·rcases PB hw with rfl | ⟨r,hr,hwr⟩
    ·rfl
    ·obtain⟨q,_,rfl⟩:=List.mem_map.1 hr
     obtain⟨p,_,rfl⟩:=List.mem_map.1 hwr;cases p <;> rfl
 have h2:=nA _ h1;have e:BQ (DZ n rs)=[114,117,108,101]++32::BQ (wB (.nam n):: [61]::G8 (rs.map fun r=>r.map wB)):=rfl;rw[e,lA,lC];simp only[lC]at h2 ⊢;simp only[List.length_nil];omega
theorem VF  (h:m.Good):(DA m).size<=4000:=by
 have ht6:=h.t6;have hn4:=h.n4;have e:(DA m).size=(LS ((F4 m).map BQ)).length:=by simp[DA,ba,ByteArray.size]
 rw[e];unfold LS F4;rw[List.map_append,List.flatMap_append,lA];have h1:(((List.range m.puts.length).flatMap (I5 m)).map BQ).flatMap (fun l=>l++ [10])=(List.range m.puts.length).flatMap fun i=>((I5 m i).map BQ).flatMap fun l=>l++ [10]:=by
  rw[List.map_flatMap,List.flatMap_assoc]
 have h2:((List.range m.puts.length).flatMap fun i=>((I5 m i).map BQ).flatMap fun l=>l++ [10]).length<=(List.range m.puts.length).length*84:=JR fun i hi=>by
  unfold I5;rw[List.map_cons,List.flatMap_cons,lA,List.map_flatMap,List.flatMap_assoc];have h3:((List.range m.puts.length).flatMap fun j=>((if 0<D0 m i j then [IA i j (D0 m i j)]else []).map BQ).flatMap fun l=>l++ [10]).length<=(List.range m.puts.length).length*11:=JR fun j hj=>by
   split
   ·simp[IA,BQ,wB]
   ·simp
  have h4:(BQ (KD i (m.puts.getD i 0) (m.drops.getD i 0))++ [10]).length=12:=by simp[KD,BQ,wB]
  rw[List.length_range]at h3;have:m.puts.length*11<=66:=by omega
  omega
 have h5:((m.rules.zipIdx.map fun x=>DZ x.2 x.1).map BQ).flatMap (fun l=>l++ [10])=m.rules.zipIdx.flatMap fun x=>BQ (DZ x.2 x.1)++ [10]:=by
  rw[List.map_map,List.flatMap_map];rfl
 have h6:(m.rules.zipIdx.flatMap fun x=>BQ (DZ x.2 x.1)++ [10]).length<=m.rules.zipIdx.length*91:=JR fun x hx=>by
  have:=dB h (List.mem_zipIdx_iff_getElem?.1 hx);rw[lA,List.length_singleton];omega
 rw[h1,h5];rw[List.length_range]at h2;rw[List.length_zipIdx]at h6;have:m.puts.length*84<=504:=by omega
 have:m.rules.length*91<=364:=by omega
 omega
theorem Y0  (h:m.Good):(GN (DA m)).1=0:=by
 have hp:E8 (DA m)=(0,0):=by
  have hs:=VF h;unfold E8;rw[if_neg (by omega),if_neg (by rw[XD h];simp)];show(match CQ (pM m) []with
   |some a=>(3,(a:Int))
   |none=>match BZ (pM m) 0 0 0 with
    |some a=>(4,(a:Int))
    |none=>if(pM m).any (fun x=>x.2.1==2)then(match EY (AH (pM m)) (pM m)with
      |some a=>(5,(a:Int))
      |none=>(0,0))
     else(4,((DA m).size:Int)):Int × Int)=(0,0)
  rw[PN (pM m) [] (j9 h),RX (pM m) 0 0 0 (by rw[mI h];have:=h.t6;omega) (by rw[QE h];have:=h.n4;omega) ?_ ?_,oG (vI h)]
  ·have:(pM m).any (fun x=>x.2.1==2)=true:=by
    rw[List.any_eq_true];have hl:=QE h;have h1:=h.n1;obtain⟨x,hx⟩:=List.exists_mem_of_length_pos (show 0< (AM (pM m)).length by omega);exact⟨x,(List.mem_filter.1 hx).1,(List.mem_filter.1 hx).2⟩
   simp[this]
  ·have h1:((AM (pM m)).flatMap fun x=>A9 x.2.2).length<=(AM (pM m)).length*6:=JR fun x hx=>by
    obtain⟨n,rs,hn,e⟩:=Y6 h hx;rw[e,MG h hn,lM];have:=(h.c1 rs (h.rl hn).2).2;have:=h.t6;omega
   rw[QE h]at h1;have:=h.n4;have:m.rules.length*6<=24:=by omega
   omega
  ·intro x hx
   obtain⟨n,rs,hn,e⟩:=Y6 h hx;rw[e,MG h hn];refine uQ fun r hr=>?_
   obtain⟨q,hq,rfl⟩:=List.mem_map.1 hr;obtain⟨k,hk,rfl⟩:=List.mem_iff_getElem.1 hq;have:=(h.head rs (h.rl hn).2 k _ (gE hk)).2;rw[lM];omega
 have:=QD (DA m);rw[hp]at this;injection this with h1 h2
 exact h1.symm
theorem PF  (h:m.Good):GOk (pM m) (GN (DA m)).2.2:=UG _ (Y0 h)
theorem M8 {P:Program} (w:World) {ops:Array Oper}{rest:List Oper}{o:Oper}{a:Act}{Q:Exit->Act->World->Prop}
  (hg:o.guard=none) (l c:Operand) (t:TypeId) (hop:o.op=Op.makeSlice t l c)
  (e:TypeId) (i:TypeInfo) (z:Value) (h1:P.underlying t=some (.slice e)) (h2:P.info? e=some i) (h3:i.zero=some z)
  (L C:Int) (n:Nat) (hl:a.eval l=ab L) (hc:a.eval c=ab C) (hL:L=(n:Int)) (hC:C=(n:Int)) (b2:(i.bytes:Int)*(n:Int)<=281474976710656) (b3:(n:Int)<=9223372036854775807)
  (hK:wpList P ops Q rest (a.put o.dst (ae w.heap.size n n)) (w.alloc (.cells (madeCells z.cells (n*i.size)) e))):
  wpList P ops Q (o::rest) a w:=by
 refine wpList_plain hg fun K hK'=>?_
 have hrun:=run_make (P:=P) w t e i z h1 h2 h3 .i64 .i64 n n (by omega) (Int.le_refl _) b2 b3;simp only[Int.toNat_natCast]at hrun;subst hL;subst hC;unfold Oper.wp;simp[execOp,hop,hl,hc,hrun,Result.andThen];exact hK' _ _ hK
theorem DR.base {w:World}{B B':Nat}{v:Value}{l:List ByteArray} (h:DR w B v l) (hB:B'<=B):DR w B' v l:=by
 obtain⟨h1,h2⟩:=h;refine⟨h1,?_⟩
 rcases h2 with h2 | ⟨g,cap,cur,hv,hg,r⟩
 ·exact .inl h2
 ·exact .inr ⟨g,cap,cur,hv,lT_ hB hg,r⟩
theorem TO {g:Nat->ByteArray}{k:Nat} (hi:i<k) (h:∀j,j<k->((g j).toList==(g i).toList)=decide (j=i)):EN ((List.range k).map g) (g i)=some i:=by
 unfold EN;rw[List.findIdx?_eq_some_iff_getElem];refine⟨by simpa using hi,?_,?_⟩
 ·simp only[List.getElem_map,List.getElem_range]
  rw[h i hi];simp
 ·intro j hj
  simp only[List.getElem_map,List.getElem_range];rw[h j (by omega),decide_eq_false (by omega)]
  decide
theorem fK {g:Nat->ByteArray}{k:Nat}{s:ByteArray} (h:∀j,j<k->((g j).toList==s.toList)=false):EN ((List.range k).map g) s=none:=by
 unfold EN;rw[List.findIdx?_eq_none_iff];intro x hx;obtain⟨j,hj,rfl⟩:=List.mem_map.1 hx;exact h j (List.mem_range.1 hj)
def grM (m:Mk):Gr:=(GN (DA m)).2.2
theorem kI (m:Mk):(m.rules.zipIdx.map fun x=>BO x.2)=(List.range m.rules.length).map BO:=by
 apply List.ext_getElem?;intro i;rw[gM,gM]
 by_cases hi:i<m.rules.length
 ·rw[List.getElem?_zipIdx,gE hi,List.getElem?_range hi]
  simp
 ·rw[List.getElem?_eq_none y2Z,List.getElem?_eq_none y2Z];rfl
theorem UP  (h:m.Good):(grM m).names=(List.range m.rules.length).map BO:=by
 have e:=(PF h).g.names;have e2:=LW h (fun ws=>nth ws 1);rw[e2]at e;exact e.trans (kI m)
theorem R9  (h:m.Good):L6 (pM m)=(List.range m.puts.length).map A7:=by
 unfold L6;rw[LP h (fun ws=>nth ws 1)];rfl
theorem aI  (h:m.Good):FO (grM m).toks=(List.range m.puts.length).map A7:=(PF h).tws.trans (R9 h)
theorem mA  (h:m.Good) {p:Pt} (hp:FF m.puts.length m.rules.length p):ptC (D4 (pM m) (F6 p))=p:=by
 have ht6:=h.t6;have hn4:=h.n4;have hc:=(PF h).g.code (F6 p);have en:(GN (DA m)).2.2.names=(List.range m.rules.length).map BO:=UP h;have et:FO (GN (DA m)).2.2.toks=(List.range m.puts.length).map A7:=aI h;rw[en,et]at hc;rw[hc];cases p with
 |tok t=>
  have hp:t<m.puts.length:=hp;have e1:EN ((List.range m.rules.length).map BO) (F6 (.tok t))=none:=fK fun j hj=>by
   have:=X1 t (by omega) j (by omega);show((BO j).toList==(A7 t).toList)=false;rw[beq_eq_false_iff_ne]at this ⊢;exact fun e=>this e.symm
  have e2:EN ((List.range m.puts.length).map A7) (F6 (.tok t))=some t:=TO hp fun j hj=>QU j (by omega) t (by omega)
  rw[e1,e2];exact fA t
 |nam k=>
  have hp:k<m.rules.length:=hp;have e1:EN ((List.range m.rules.length).map BO) (F6 (.nam k))=some k:=TO hp fun j hj=>mD j (by omega) k (by omega)
  rw[e1];exact fI k
theorem T5  (h:m.Good):pgL (D4 (pM m)) (pM m)=m.rules.zipIdx.map fun x=>(BO x.2,x.1):=by
 unfold pgL;have e:=LW h (fun ws=>((nth ws 1,(A9 ws).map fun r=>r.map fun w=>ptC (D4 (pM m) w)):Nm));have e0:(AM (pM m)).map (T4 (D4 (pM m)))=(AM (pM m)).map (fun x=>((nth x.2.2 1,(A9 x.2.2).map fun r=>r.map fun w=>ptC (D4 (pM m) w)):Nm)):=rfl;rw[e0,e];refine List.map_congr_left fun x hx=>?_
 obtain⟨rs,n⟩:=x;have hn:=List.mem_zipIdx_iff_getElem?.1 hx;have hw:PQ (rs,n)=(DZ n rs).map ba:=rfl;rw[hw,MG h hn];show(BO n,_)=(BO n,rs)
 congr 1
 rw[List.map_map];have hid:∀r∈rs,((fun r:List ByteArray=>r.map fun w=>ptC (D4 (pM m) w)) ∘ fun r:List Pt=>r.map F6) r=r:=by
  intro r hr;show(r.map F6).map (fun w=>ptC (D4 (pM m) w))=r;rw[List.map_map];have:∀p∈r,((fun w=>ptC (D4 (pM m) w)) ∘ F6) p=p:=fun p hp=>mA h (h.part rs (h.rl hn).2 r hr p hp)
  rw[List.map_congr_left this,List.map_id']
 rw[List.map_congr_left hid,List.map_id']
theorem SY {α β:Type} (g:Nat->β):∀(l:List α) (k:Nat),((l.zipIdx k).map fun x=>(g x.2,x.1)).zipIdx k=(l.zipIdx k).map fun x=>((g x.2,x.1),x.2)
 | [],_=>rfl
 |a::l,k=>by
  rw[List.zipIdx_cons,List.map_cons,List.zipIdx_cons,List.map_cons,SY g l (k+1)]
theorem PL  (h:m.Good) {t:Nat} (hp:t<m.puts.length):D4 (pM m) (A7 t)=2*(t:Int):=by
 have ht6:=h.t6;have hn4:=h.n4;have hc:=(PF h).g.code (A7 t);have en:(GN (DA m)).2.2.names=(List.range m.rules.length).map BO:=UP h;have et:FO (GN (DA m)).2.2.toks=(List.range m.puts.length).map A7:=aI h;rw[en,et]at hc;have e1:EN ((List.range m.rules.length).map BO) (A7 t)=none:=fK fun j hj=>by
  have:=X1 t (by omega) j (by omega);rw[beq_eq_false_iff_ne]at this ⊢;exact fun e=>this e.symm
 have e2:EN ((List.range m.puts.length).map A7) (A7 t)=some t:=TO hp fun j hj=>QU j (by omega) t (by omega)
 rw[e1,e2]at hc;exact hc
theorem qV  (h:m.Good) {t u:Nat} (h0:D0 m t u≠0):t<m.puts.length/\u<m.puts.length:=by
 unfold D0 at h0;simp only[gD_]at h0;cases hi:m.swaps[t]? with
 |none=>rw[hi]at h0;simp at h0
 |some r=>
  rw[hi]at h0;simp only[Option.getD_some]at h0;have h1:=(gS_.1 hi).1;have h2:=h.srow r (mG hi);cases hj:r[u]? with
  |none=>rw[hj]at h0;simp at h0
  |some x=>
   have h3:=(gS_.1 hj).1;rw[h.sl]at h1;omega
theorem qZ  (h:m.Good) (t u:Nat):EO (D4 (pM m)) (pM m) t u=D0 m t u:=by
 have ht6:=h.t6;refine fO (fun x hx h1 h2 h3=>?_) (fun h0=>?_)
 ·have hm:(x.2.1,x.2.2)∈(pM m).map (fun x=>(x.2.1,x.2.2)):=List.mem_map.2 ⟨x,hx,rfl⟩
  rw[aH h (fun a b=>(a,b))]at hm;obtain⟨ws,hws,e⟩:=List.mem_map.1 hm;unfold JA at hws;obtain⟨ls,hl,rfl⟩:=List.mem_map.1 hws;injection e with e1 e2
  rw[h1]at e1;rw[<-e2]at h2 h3 ⊢
  rcases M2 h hl with⟨i,hi,rfl⟩ | ⟨i,j,hi,hj,hne,h0,rfl⟩ | ⟨n,rs,hn,rfl⟩
  ·have:=LQ h hi
   unfold K1 at this;rw[this]at e1;cases e1
  ·rw[IG]at h2 h3 ⊢
   have h2:D4 (pM m) (A7 i)=2*(t:Int):=h2;have h3:D4 (pM m) (A7 j)=2*(u:Int):=h3;rw[PL h hi]at h2;rw[PL h hj]at h3;obtain rfl:i=t:=by omega
   obtain rfl:j=u:=by omega
   have hc:=K3 h i j;show(CV (E7 (D0 m i j)).data.toList).toNat=_;rw[WZ _ (by omega)];rfl
  ·have:=(PA h hn).2
   rw[this]at e1;cases e1
 ·obtain⟨ht,hu⟩:=qV h h0
  have hl:IA t u (D0 m t u)∈F4 m:=by
   unfold F4;refine List.mem_append_left _ (List.mem_flatMap.2 ⟨t,List.mem_range.2 ht,?_⟩);unfold I5;refine List.mem_cons_of_mem _ (List.mem_flatMap.2 ⟨u,List.mem_range.2 hu,?_⟩);rw[if_pos (by omega)];exact mS.2 rfl
  have hm:(1,(IA t u (D0 m t u)).map ba)∈(JA m).map fun ws=>(AV ws,ws):=by
   refine List.mem_map.2 ⟨_,List.mem_map.2 ⟨_,hl,rfl⟩,?_⟩;rw[IG,(P4 (by omega) (by omega) ⟨by omega,K3 h t u⟩).2]
  rw[<-aH h (fun a b=>(a,b))]at hm;obtain⟨x,hx,e⟩:=List.mem_map.1 hm;injection e with e1 e2
  refine⟨x,hx,e1,?_,?_⟩
  ·rw[e2,IG];exact PL h ht
  ·rw[e2,IG];exact PL h hu
theorem qM  (h:m.Good):ngL (pM m)=ngM m:=by
 have ht6:=h.t6;have e1:(L6 (pM m)).length=m.puts.length:=by rw[R9 h];simp
 have e2:(pgL (D4 (pM m)) (pM m)).length=m.rules.length:=by rw[T5 h];simp
 have e3:(fun t=>(((B4 (pM m))[t]?.map fun x=>CV (nth x.2.2 2).data.toList).getD 0).toNat)=fun t=>m.puts.getD t 0:=by
  funext t
  have e:=congrArg (fun l=>l[t]?) (LP h (fun ws=>CV (nth ws 2).data.toList));simp only[gM]at e;rw[e]
  by_cases ht:t<m.puts.length
  ·rw[List.getElem?_range ht,Option.map_some,Option.getD_some]
   have hv:=h.put_at ht;have:nth (K1 m t) 2=E7 (m.puts.getD t 0):=rfl;rw[this,WZ _ (by omega)];rfl
  ·rw[List.getElem?_eq_none y2Z,gD_,List.getElem?_eq_none (by omega)]
   rfl
 have e4:PM (pgL (D4 (pM m)) (pM m))=(ngM m).rules:=by
  rw[T5 h];unfold PM;rw[SY BO m.rules 0,List.flatMap_map];rfl
 have e5:(fun t=>(((B4 (pM m))[t]?.map fun x=>CV (nth x.2.2 3).data.toList).getD 0).toNat)=fun t=>m.drops.getD t 0:=by
  funext t
  have e:=congrArg (fun l=>l[t]?) (LP h (fun ws=>CV (nth ws 3).data.toList));simp only[gM]at e;rw[e]
  by_cases ht:t<m.puts.length
  ·rw[List.getElem?_range ht,Option.map_some,Option.getD_some]
   have hv:=h.drop_at ht;have:nth (K1 m t) 3=E7 (m.drops.getD t 0):=rfl;rw[this,WZ _ (by omega)];rfl
  ·rw[List.getElem?_eq_none y2Z,gD_,List.getElem?_eq_none (by rw[h.dl];omega)]
   rfl
 have e6:EO (D4 (pM m)) (pM m)=D0 m:=by funext t u;exact qZ h t u
 unfold ngL;rw[e1,e2,e3,e4,e5,e6];rfl
end Go.Proofs.YtjjggdcnpndgjabGreatDoor
