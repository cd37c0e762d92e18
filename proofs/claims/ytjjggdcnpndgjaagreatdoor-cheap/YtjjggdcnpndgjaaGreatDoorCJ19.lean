import Derived.Test.YtjjggdcnpndgjaaGreatDoorCJ18
import Derived.ChangeMaps5
import Derived.ChangeSlices
import Derived.Carry
import Derived.SizedLaws
import Derived.Lay
import Derived.SevenTiedAt
import Derived.Stop.Joined
import Derived.JoinedCond
import Derived.Deep.DeepHandedRow
import Derived.Test.YtjjggdcnpndgjaaGreatDoorRows
import Derived.ProofKit
import Derived.LaidMore
import Derived.OpenShut
import Derived.Shelf.Vars
import Derived.Lib.LaidTab
import Derived.Laws.MakeOwn
set_option linter.unusedSimpArgs false
set_option maxRecDepth 100000
namespace Go.Proofs.YtjjggdcnpndgjaaGreatDoor
abbrev uj:=@Option.some.inj
abbrev wz:=@List.mem_append_left
abbrev xg:=@List.zipIdx_cons
abbrev yA:=@List.flatMap_assoc
abbrev zh:=@List.filter_flatMap
abbrev zu:=@List.zip_cons_cons
abbrev zv:=@List.length_zipIdx
open Go.RowKit
variable {B i:Nat}{l:List Value}{m:Mk}{p:List MemPlace}{v:Value}{w:World}
section
open Go Go.ChangeShapes Go.WideShapes Go.ChangeAt Go.RowKit
open Go.ChangeMaps (shut_string)
theorem laid:laidOutB Tryz.prog=true:=by kernel_rfl
theorem dR {H:Type}{enc:TypeId × Value->H}{W:World}{d:DataW H} (hv:∃a len cap,v=.slice a len cap) (hs:∀e s,d=.slice e s->(e.length+s.length)*Tryz.prog.bytesOf 3<=reachBytes) (h:DataW.Trod enc Tryz.prog W 0 (λ_=>true) true 45 v d p):IQ W v:=by
 obtain⟨a0,len,cap,rfl⟩:=hv;obtain⟨fuel,hf⟩:=h;have hc:Tryz.prog.cellsOf 3=1:=by kernel_rfl
 have hb:Tryz.prog.bytesOf 3=8:=by kernel_rfl
 rcases open_ints Tryz.underlying45 Tryz.underlying3 hc hf with⟨hcs,_⟩ | ⟨a,len',cap',zs,hcs,_,hl,_,hz,hx,hcell,hw⟩
 ·simp[Value.cells]at hcs
  obtain⟨rfl,rfl,rfl⟩:=hcs;exact⟨none,0,0,rfl,zn _,by omega,λh=>by omega⟩
 ·simp[Value.cells]at hcs
  obtain⟨rfl,rfl,rfl⟩:=hcs;simp only[Prod.mk.injEq]at hx;obtain⟨rfl,_⟩:=hx;have hr:=hs _ _ rfl;have h47:=reachBytes_lt;simp only[xZ]at hz;rw[hb]at hr;simp only[lits,lM,nh,lu,hz]at hr;refine⟨some a,len,cap,rfl,hl,by omega,λh0=>?_⟩;obtain⟨b,off,spot⟩:=a;have hspot:spot=none:=by simpa[Addr.add] using World.cell?_spot (hcell 0 (by omega))
  subst hspot;refine⟨b,off,rfl,?_,λj hj=>⟨zs.getD j 0,?_,?_⟩⟩
  ·exact bu W _ (hcell 0 (by omega))
  ·have h:=hcell j (by omega);rw[add_plain]at h;exact h
  ·have hm:zs.getD j 0∈zs:=by
    have hj':j<zs.length:=by omega
    simp[List.getD,gE hj']
   have:=hw _ hm;simp[Lit.wf,IntKind.min,IntKind.max,show IntKind.i64.signed=true from rfl,show IntKind.i64.bits=64 from rfl]at this;unfold Tv;exact this
theorem own:ownKnob Tryz.prog.godebug=none:=by kernel_rfl
end
section
open Go Go.RowKit
set_option maxRecDepth 100000
theorem N9 {P:Program}{w:World}:∀{l:List (String × DataW Unit)}{ps:List MemPlace},DataW.LaidVars P w l ps->∀(n:String) (d:DataW Unit),(n,d)∈l->
  ∃g t cs fuel p,P.globalNamed n=some g/\(P.globals[g]?).map (·.type)=some t/\w.var? P n=some cs/\DataW.trod (λ_=>()) P w 0 (λ_=>true) false fuel t cs.toList=some (d,p)
 | [],_,_,n,d,hm=>by cases hm
 | (m,e)::r,_,⟨g,t,cs,fuel,p,q,h1,h2,h3,h4,h5,_⟩,n,d,hm=>by
  rcases bk.1 hm with h |h
  ·cases h;exact⟨g,t,cs,fuel,p,h1,h2,h3,h4⟩
  ·exact N9 h5 n d h
theorem NB {P:Program}{n:String}{g:Nat}{cs:Array Value} (hg:P.globalNamed n=some g) (h:w.var? P n=some cs):∃t fr,w.heap[g]?=some (.cells cs t fr):=by
 simp only[World.var?,hg,Option.bind_some]at h;split at h
 ·rename_i cs' t fr hh
  cases h;exact⟨t,fr,hh⟩
 ·cases h
section
variable {W:World}{sp:Nat->Bool}{held:Bool}
theorem eI {m:Nat}{a b c:Int} (hl:l.length=3) (h:DataW.trod (λ_=>()) Tryz.prog W 0 sp held m 337 l=some (.agg [.lit (.int .i64 a),.lit (.int .i64 b),.lit (.int .i64 c)],p)):
  l=[ab a,ab b,ab c]:=by
 obtain⟨xs,n,_,hx,_,hxl,hall⟩:=DataW.trod_array Tryz.underlying337 h;have ck:Tryz.prog.cellsOf 336=1:=by kernel_rfl
 match l,hl,xs,hxl with
 | [v0,v1,v2],_,[x0,x1,x2],_=>
  have h0:=hall 0 (by decide);have h1:=hall 1 (by decide);have h2:=hall 2 (by decide);rw[ck]at h0 h1 h2;obtain⟨z0,e0,f0,_⟩:=DataW.trod_int Tryz.underlying336 h0;obtain⟨z1,e1,f1,_⟩:=DataW.trod_int Tryz.underlying336 h1;obtain⟨z2,e2,f2,_⟩:=DataW.trod_int Tryz.underlying336 h2;simp at e0 e1 e2;subst e0 e1 e2 f0 f1 f2;have:=(Prod.mk.inj hx).1;simp at this;obtain⟨rfl,rfl,rfl⟩:=this;rfl
theorem OI {m:Nat}{s:List UInt8}{a b c:Int} (h:DataW.trod (λ_=>()) Tryz.prog W 0 sp held m 339 l=some (.agg [.lit (.string s),.agg [.lit (.int .i64 a),.lit (.int .i64 b),.lit (.int .i64 c)]],p)):
  l=[.string ⟨s.toArray⟩,ab a,ab b,ab c]:=by
 obtain⟨xs,n,_,hx,hl,hxl,hall⟩:=DataW.trod_struct Tryz.underlying339 h;have cS:Tryz.prog.cellsOf 339=4:=by kernel_rfl
 have cs:Tryz.prog.cellsOf 9=1:=by kernel_rfl
 have cb:Tryz.prog.cellsOf 337=3:=by kernel_rfl
 rw[cS]at hl
 match l,hl,xs,hxl with
 | [v0,v1,v2,v3],_,[x0,x1],_=>
  have h0:DataW.trod _ Tryz.prog W 0 sp held n 9 (([v0,v1,v2,v3].drop 0).take (Tryz.prog.cellsOf 9))=_:=hall 0 _ rfl;have h1:DataW.trod _ Tryz.prog W 0 sp held n 337 (([v0,v1,v2,v3].drop 1).take (Tryz.prog.cellsOf 337))=_:=hall 1 _ rfl;rw[cs]at h0;rw[cb]at h1;have hx':=(Prod.mk.inj hx).1;simp only[jx,um,DataW.agg.injEq,List.cons.injEq,and_true]at hx';obtain⟨s',e0,f0,_⟩:=DataW.trod_string Tryz.underlying9 h0;obtain⟨y1,q1⟩:=x1;obtain rfl:y1=_:=hx'.2.symm;have e1:=eI (by simp) h1;simp at e0 e1;obtain⟨rfl,rfl,rfl⟩:=e1;subst e0 f0;have:=hx'.1;simp at this;subst this;rfl
theorem cJ {m:Nat} (h:DataW.trod (λ_=>()) Tryz.prog W 0 sp held m 340 l=some (Rows.laid_darn_source_shapes,p)):
  l=[.string ⟨#[116,111,107,101,110]⟩,ab 1,ab 3,ab 3,.string ⟨#[115,119,97,112]⟩,ab 1,ab 1,ab 3,.string ⟨#[114,117,108,101]⟩,ab 2,ab 4,ab 5]:=by
 obtain⟨xs,n,_,hx,hl,hxl,hall⟩:=DataW.trod_array Tryz.underlying340 h;have cS:Tryz.prog.cellsOf 339=4:=by kernel_rfl
 have cA:Tryz.prog.cellsOf 340=12:=by kernel_rfl
 rw[cA]at hl
 match l,hl,xs,hxl with
 | [v0,v1,v2,v3,v4,v5,v6,v7,v8,v9,v10,v11],_,[x0,x1,x2],_=>
  have h0:=hall 0 (by decide);have h1:=hall 1 (by decide);have h2:=hall 2 (by decide);rw[cS]at h0 h1 h2;have hx':=(Prod.mk.inj hx).1;unfold Rows.laid_darn_source_shapes at hx';simp only[jx,um,DataW.agg.injEq,List.cons.injEq,and_true]at hx';obtain⟨y0,q0⟩:=x0;obtain⟨y1,q1⟩:=x1;obtain⟨y2,q2⟩:=x2;obtain rfl:y0=_:=hx'.1.symm;obtain rfl:y1=_:=hx'.2.1.symm;obtain rfl:y2=_:=hx'.2.2.symm;have e0:=OI h0;have e1:=OI h1;have e2:=OI h2;simp at e0 e1 e2;obtain⟨rfl,rfl,rfl,rfl⟩:=e0;obtain⟨rfl,rfl,rfl,rfl⟩:=e1;obtain⟨rfl,rfl,rfl,rfl⟩:=e2;rfl
end
theorem tT:Tryz.prog.globalNamed "darn/source.shapes" =some 0:=by kernel_rfl
theorem wD:(Tryz.prog.globals[0]?).map (·.type)=some 340:=by kernel_rfl
theorem wT:Tryz.prog.globalNamed "strconv.ErrRange" =some 4:=by kernel_rfl
theorem wN:(Tryz.prog.globals[4]?).map (·.type)=some 358:=by kernel_rfl
theorem xK:Tryz.prog.globalNamed "math/bits.deBruijn64tab" =some 8:=by kernel_rfl
theorem wJ:Tryz.prog.globalNamed "math/bits.deBruijn32tab" =some 1:=by kernel_rfl
theorem xD:(Tryz.prog.globals[1]?).map (·.type)=some 343:=by kernel_rfl
theorem xN:Tryz.prog.globals.size=9:=by kernel_rfl
theorem gF {W:World} (hL:laidMetH Tryz.prog Rows.tellsRow.laid W) (hsh:W.ShapedOpen Tryz.prog):E2 W/\TabAt 1 Lib.deBruijn32tab W:=by
 rw[MakeChecks.laidMetH_plain _ _ _ yM]at hL;obtain⟨ps,hv,_⟩:=hL;have aiW:∃t fr,W.heap[0]?=some (.cells #[.string ⟨#[116,111,107,101,110]⟩,ab 1,ab 3,ab 3,.string ⟨#[115,119,97,112]⟩,ab 1,ab 1,ab 3,.string ⟨#[114,117,108,101]⟩,ab 2,ab 4,ab 5] t fr):=by
  obtain⟨g,t,cs,fuel,p,h1,h2,h3,h4⟩:=N9 hv "darn/source.shapes" Rows.laid_darn_source_shapes acF;obtain rfl:=uj (tT.symm.trans h1);obtain rfl:=uj (wD.symm.trans h2);obtain⟨t,fr,hb⟩:=NB h1 h3;have e:=cJ h4;obtain⟨l⟩:=cs;simp only at e;subst e;exact⟨t,fr,hb⟩
 have aiX:∃te pe,W.cell? (af 4 0)=some (.iface te pe):=by
  obtain⟨g,t,cs,fuel,p,h1,h2,h3,h4⟩:=N9 hv "strconv.ErrRange" Rows.laid_strconv_ErrRange acF;obtain rfl:=uj (wT.symm.trans h1);obtain rfl:=uj (wN.symm.trans h2);obtain⟨_,u,v,e,_,_⟩:=iface_of_trod Tryz.underlying358 h4;obtain⟨l⟩:=cs;simp only at e;subst e;exact⟨u,v,World.var?_cell h1 h3 0⟩
 have acT:TabAt 1 Lib.deBruijn32tab W:=by
  obtain⟨g,t,cs,fuel,p,h1,h2,h3,h4⟩:=N9 hv "math/bits.deBruijn32tab" Rows.laid_math_bits_deBruijn32tab acF;obtain rfl:=uj (wJ.symm.trans h1);obtain rfl:=uj (xD.symm.trans h2);obtain⟨t,fr,hb⟩:=NB h1 h3;have e:=Lib.cells_of_tab (zs:=Lib.deBruijn32tab.map fun(n:Nat)=>(n:Int)) Tryz.underlying343 Tryz.underlying5 yM yM (show _=some (Lib.tabData .u8 (Lib.deBruijn32tab.map fun(n:Nat)=>(n:Int)),p) from h4);intro j hj;rw[A0 hb];have e2:cs[j]?=cs.toList[j]?:=by simp
  rw[e2,e,qm,gM,Af,gE hj];rfl
 refine⟨⟨?_,?_,aiX,aiW⟩,acT⟩
 ·obtain⟨g,t,cs,fuel,p,h1,h2,h3,h4⟩:=N9 hv "math/bits.deBruijn64tab" Rows.laid_math_bits_deBruijn64tab acF
  obtain rfl:=uj (xK.symm.trans h1);obtain⟨t,fr,hb⟩:=NB h1 h3;have:=(ng.1 hb).1;omega
 ·exact cell_of_shapedOpen_int (zero:= #[ab 0]) (t:=3) hsh (by rw[xN];decide) yM rfl yM yM Tryz.underlying3
end
theorem OG {α β:Type}{f:α->List β}{g:α->β}:∀{l:List α},(∀a∈l,f a=[g a])->l.flatMap f=l.map g
 | [],_=>rfl
 |a::l,h=>by rw[ij,h a (by simp),OG (λb hb=>h b (by simp[hb]))];rfl
theorem rN:ByteArray.empty.toList.isEmpty=true:=by decide+kernel
def JN (m:Mk):List (List ByteArray):=(FI m).map λws=>ws.map ba
def K9 (m:Mk) (i:Nat):List ByteArray:=(KT i (m.zJ.getD i 0) (m.Ai.getD i 0)).map ba
def QC (m:Mk) (i:Nat):List (List ByteArray):=(List.range m.zJ.length).flatMap λj=>if 0<DA m i j then [(IV i j (DA m i j)).map ba]else []
def PX (x:List (List Pt) × Nat):List ByteArray:=(EJ x.2 x.1).map ba
theorem RT (m:Mk):JN m=((List.range m.zJ.length).flatMap λi=>K9 m i::QC m i)++m.rules.zipIdx.map PX:=by
 unfold JN FI;rw[fq,ud,qm]
 congr 1
 congr 1
 funext i
 unfold IJ;rw[jx,ud]
 congr 1
 unfold QC
 congr 1
 funext j
 split <;> rfl
theorem ZG:∀(L:List (List ByteArray)) (o:List Nat),(∀ws∈L,¬ws.length=1)->AK (o.zip L)=(o.zip L).map λx=>(x.1,AZ x.2,x.2)
 | [],o,_=>by simp[AK]
 |ws::L,[],_=>by simp[AK]
 |ws::L,a::o,h=>by
  rw[zu,MJ (by exact h ws (by simp)),ZG L o (λx hx=>h x Lz)];rfl
theorem Y7 {β:Type} (g:Nat->List ByteArray->β):∀(L:List (List ByteArray)) (o:List Nat),o.length=L.length->((o.zip L).map λx=>(x.1,AZ x.2,x.2)).map (λx:Ln=>g x.2.1 x.2.2)=L.map λws=>g (AZ ws) ws
 | [],o,h=>by simp
 |ws::L,[],h=>by simp at h
 |ws::L,a::o,h=>by
  rw[zu,jx,jx,jx,Y7 g L o Lx]
theorem VN {β:Type} (k:Nat) (g:List ByteArray->β):∀(L:List (List ByteArray)) (o:List Nat),o.length=L.length->(((o.zip L).map λx=>(x.1,AZ x.2,x.2)).filter λx:Ln=>x.2.1==k).map (λx:Ln=>g x.2.2)=(L.filter λws=>AZ ws==k).map g
 | [],o,h=>by simp
 |ws::L,[],h=>by simp at h
 |ws::L,a::o,h=>by
  have ih:=VN k g L o Lx;rw[zu,jx,yJ,yJ]
  by_cases hk:AZ ws==k
  ·rw[ay hk,ay hk,jx,jx,ih]
  ·rw[aq hk,aq hk,ih]
theorem dW:∀(ls:List (List UInt8)) (a:Nat),(QW ls a).length=ls.length
 | [],_=>rfl
 |l::r,a=>by unfold QW;rw[lC,lC,dW r]
def pM (m:Mk):List Ln:=AK (AL (DK m) 0).1
theorem jG  (h:m.Good):pM m=((QW ((FI m).map BW) 0).zip (JN m)).map λx=>(x.1,AZ x.2,x.2):=by
 unfold pM;rw[Y9 h];exact ZG _ _ (λws hw=>by
  obtain⟨x,hx,rfl⟩:=dm.1 hw;exact(gO h hx).2)
theorem ZD (m:Mk):(QW ((FI m).map BW) 0).length=(JN m).length:=by
 rw[dW];unfold JN;simp
theorem d7 {β:Type} (h:m.Good) (g:Nat->List ByteArray->β):(pM m).map (λx=>g x.2.1 x.2.2)=(JN m).map λws=>g (AZ ws) ws:=by
 rw[jG h];exact Y7 g _ _ (ZD m)
theorem XW {β:Type} (h:m.Good) (k:Nat) (g:List ByteArray->β):((pM m).filter λx=>x.2.1==k).map (λx=>g x.2.2)=((JN m).filter λws=>AZ ws==k).map g:=by
 rw[jG h];exact VN k g _ _ (ZD m)
theorem M3  (h:m.Good)  (hi:i<m.zJ.length):AZ (K9 m i)=0:=by
 have:=h.t6;exact(TV (by omega) (JB h.p1 hi) (JB h.d1 acH)).2
theorem O4  (h:m.Good)  (hi:i<m.zJ.length):∀ws∈QC m i,AZ ws=1/\∃j c,j<m.zJ.length/\i≠j/\ws=[ba [115,119,97,112],AB i,AB j,EL c]:=by
 intro ws hw;unfold QC at hw;rw[qd]at hw;obtain⟨j,hj,hw⟩:=hw;have hj:=jc.1 hj;have:=h.t6;split at hw
 ·rename_i h0
  obtain rfl:=mS.1 hw;rw[J0];exact⟨(PP (by omega) (by omega) ⟨h0,KL h i j⟩).2,j,_,hj,λe=>by subst e;rw[V8 h]at h0;omega,rfl⟩
 ·cases hw
theorem O7  (h:m.Good) {x:List (List Pt) × Nat} (hx:x∈m.rules.zipIdx):AZ (PX x)=2:=(Q9 h (kf.1 hx)).2
theorem VR {α:Type}{p:α->Bool}{l:List α} (h:∀a∈l,p a=true):l.filter p=l:=List.filter_eq_self.2 h
theorem MK {α:Type}{p:α->Bool}{l:List α} (h:∀a∈l,p a=false):l.filter p=[]:=by
 rw[yF];intro a ha;rw[h a ha];simp
theorem nM  (h:m.Good):((JN m).filter λws=>AZ ws==0)=(List.range m.zJ.length).map (K9 m):=by
 rw[RT,ql,zh];have e2:((m.rules.zipIdx.map PX).filter λws=>AZ ws==0)=[]:=MK λws hw=>by
  obtain⟨x,hx,rfl⟩:=dm.1 hw;rw[O7 h hx];rfl
 rw[e2,fy];have e1:∀i∈List.range m.zJ.length,((K9 m i::QC m i).filter λws=>AZ ws==0)=[K9 m i]:=λi hi=>by
  have hi:=jc.1 hi;rw[rz (by rw[M3 h hi];rfl),MK (λws hw=>by rw[(O4 h hi ws hw).1];rfl)]
 exact OG e1
theorem oE  (h:m.Good):((JN m).filter λws=>AZ ws==2)=m.rules.zipIdx.map PX:=by
 rw[RT,ql,zh];have e1:((List.range m.zJ.length).flatMap λi=>(K9 m i::QC m i).filter λws=>AZ ws==2)=[]:=by
  rw[List.flatMap_eq_nil_iff];intro i hi;have hi:=jc.1 hi;exact MK λws hw=>by
   rcases bk.1 hw with rfl |hw
   ·rw[M3 h hi];rfl
   ·rw[(O4 h hi ws hw).1];rfl
 rw[e1,ey];exact VR λws hw=>by
  obtain⟨x,hx,rfl⟩:=dm.1 hw;rw[O7 h hx];rfl
theorem M7 {β:Type} (h:m.Good) (g:List ByteArray->β):(BD (pM m)).map (λx=>g x.2.2)=(List.range m.zJ.length).map λi=>g (K9 m i):=by
 unfold BD;rw[XW h 0 g,nM h,qm];rfl
theorem M0 {β:Type} (h:m.Good) (g:List ByteArray->β):(AU (pM m)).map (λx=>g x.2.2)=m.rules.zipIdx.map λx=>g (PX x):=by
 unfold AU;rw[XW h 2 g,oE h,qm];rfl
theorem OE  (h:m.Good):AM (pM m)=(List.range m.zJ.length).map AB++(List.range m.rules.length).map BM:=by
 have hne:∀{i:Nat},i<6->(AB i).toList.isEmpty=false:=λhi=>SG (OQ _ hi)
 have hnn:∀{i:Nat},i<4->(BM i).toList.isEmpty=false:=λhi=>SG (UE _ hi)
 have Ib:=h.t6;have Hi:=h.n4;unfold AM;rw[d7 h BI,RT,fq,ql,ud,zh,qm]
 congr 1
 ·have e1:∀i∈List.range m.zJ.length,(((K9 m i::QC m i).map λws=>BI (AZ ws) ws).filter λs=> !s.toList.isEmpty)=[AB i]:=λi hi=>by
   have hi:=jc.1 hi;rw[jx,M3 h hi];have e:BI 0 (K9 m i)=AB i:=rfl;rw[e,rz (by rw[hne (by omega)];rfl)]
   congr 1
   refine MK λs hs=>?_
   obtain⟨ws,hw,rfl⟩:=dm.1 hs;rw[(O4 h hi ws hw).1];show(!ByteArray.empty.toList.isEmpty)=false;rw[rN];rfl
  exact OG e1
 ·have e2:(m.rules.zipIdx.map ((λws=>BI (AZ ws) ws) ∘ PX))=(List.range m.rules.length).map BM:=by
   apply oo;intro i;rw[gM,gM]
   by_cases hi:i<m.rules.length
   ·rw[oz,gE hi,ny hi]
    simp only[kq,Function.comp_apply,ju]
    congr 1
    rw[O7 h (kf.2 (gE hi))];rfl
   ·rw[eo zG,eo zG];rfl
  rw[e2];exact VR λs hs=>by
   obtain⟨i,hi,rfl⟩:=dm.1 hs;rw[hnn (by have:=jc.1 hi;omega)];rfl
theorem PN:∀(P:List Ln) (ws:List ByteArray),(ws++AM P).Pairwise (λa b=>(a.toList==b.toList)=false)->D3 P ws=none
 | [],_,_=>rfl
 |x::P,ws,h=>by
  rw[SX]at h;rw[D3];cases he:(BI x.2.1 x.2.2).toList.isEmpty with
  |true=>
   rw[he,ay rfl,ey]at h;rw[ay rfl];exact PN P ws h
  |false=>
   rw[he,aq (by decide)]at h;have hc:¬0<cnt ws (BI x.2.1 x.2.2):=by
    rw[OT,qb];rintro⟨a,ha,hab⟩;have:=(List.pairwise_append.1 h).2.2 a ha (BI x.2.1 x.2.2) (by simp);rw[hab]at this;cases this
   rw[aq (by decide),aq hc];exact PN P _ (by rw[aA];exact h)
theorem SP:∀(P:List Ln) (t n r:Nat),t+(BD P).length<=20->n+(AU P).length<=20->r+((AU P).flatMap λx=>AE x.2.2).length<=60->(∀x∈AU P,EA (AE x.2.2)<=8)->CK P t n r=none
 | [],_,_,_,_,_,_,_=>rfl
 |x::P,t,n,r,h1,h2,h3,h4=>by
  rw[CK]
  by_cases h0:x.2.1=0
  ·have Mc:¬x.2.1=2:=by omega
   have e1:BD (x::P)=x::BD P:=by unfold BD;rw[rz Tt]
   have e2:AU (x::P)=AU P:=by unfold AU;rw[sj Tt]
   rw[e1,lC]at h1;rw[e2]at h2 h3 h4;simp only[ay h0,aq Mc];rw[aq (by omega)];exact SP P _ _ _ (by omega) h2 h3 h4
  ·have e1:BD (x::P)=BD P:=by unfold BD;rw[sj Tt]
   rw[e1]at h1
   by_cases Mc:x.2.1=2
   ·have e2:AU (x::P)=x::AU P:=by unfold AU;rw[rz (by simp[Mc])]
    rw[e2]at h2 h3 h4;rw[lC]at h2;rw[ij,lA]at h3;have h5:=h4 x (by simp);simp only[aq h0,ay Mc];rw[aq (by omega)];exact SP P _ _ _ h1 (by omega) (by omega) (λy hy=>h4 y (by simp[hy]))
   ·have e2:AU (x::P)=AU P:=by unfold AU;rw[sj (by simp[Mc])]
    rw[e2]at h2 h3 h4;simp only[aq h0,aq Mc];rw[aq (by omega)];exact SP P _ _ _ h1 h2 h3 h4
theorem pV:∀{P:List Ln}{ws:List ByteArray},(∀x∈P,FB ws x=false)->FD ws P=none
 | [],_,_=>rfl
 |x::P,ws,h=>by
  rw[FD,h x (by simp),aq (by decide)];exact pV λy hy=>h y (by simp[hy])
theorem tV {rs:List (List ByteArray)}{b:Nat} (h:∀r∈rs,r.length<=b):EA rs<=b:=by
 have key:∀(rs:List (List ByteArray)) (m:Nat),m<=b->(∀r∈rs,r.length<=b)->rs.foldl (λm r=>max m r.length) m<=b:=by
  intro rs
  induction rs with
  |nil=>intro m hm _;exact hm
  |cons a rs ih=>
   intro m hm hr;rw[lz];have:=hr a (by simp);exact ih _ (by omega) (λx hx=>hr x Lz)
 exact key rs 0 (by omega) h
theorem K3 {α β:Type}{f:α->List β}{b:Nat}:∀{l:List α},(∀a∈l,(f a).length<=b)->(l.flatMap f).length<=l.length*b
 | [],_=>by simp
 |a::l,h=>by
  rw[ij,lA,lC,vn];have h1:=h a (by simp);have h2:=K3 (l:=l) (λx hx=>h x Lz);omega
theorem Z0  (h:m.Good) {x:Ln} (hx:x∈AU (pM m)):∃(n:Nat) (rs:List (List Pt)),m.rules[n]?=some rs/\x.2.2=(EJ n rs).map ba:=by
 have h1:=M0 h (λws=>ws);have h2:x.2.2∈(AU (pM m)).map (λx=>x.2.2):=dm.2 ⟨x,hx,rfl⟩;rw[h1]at h2;obtain⟨⟨rs,n⟩,hy,e⟩:=dm.1 h2;exact⟨n,rs,kf.1 hy,e.symm⟩
theorem lZ  (h:m.Good):(BD (pM m)).length=m.zJ.length:=by
 have:=congrArg List.length (M7 h (λws=>ws));simpa using this
theorem RO  (h:m.Good):(AU (pM m)).length=m.rules.length:=by
 have:=congrArg List.length (M0 h (λws=>ws));simpa using this
theorem kM  (h:m.Good):(AM (pM m)).Pairwise (λa b=>(a.toList==b.toList)=false):=by
 have Ib:=h.t6;have Hi:=h.n4;rw[OE h,List.pairwise_append];refine⟨?_,?_,?_⟩
 ·rw[List.pairwise_map]
  refine List.Pairwise.imp_of_mem (R:=λa b=>a<b) ?_ List.pairwise_lt_range;intro a b ha hb hlt;have ha:=jc.1 ha;have hb:=jc.1 hb;rw[OP a (by omega) b (by omega),gy (by omega)]
 ·rw[List.pairwise_map]
  refine List.Pairwise.imp_of_mem (R:=λa b=>a<b) ?_ List.pairwise_lt_range;intro a b ha hb hlt;have ha:=jc.1 ha;have hb:=jc.1 hb;rw[mT a (by omega) b (by omega),gy (by omega)]
 ·intro a ha b hb
  obtain⟨i,hi,rfl⟩:=dm.1 ha;obtain⟨j,hj,rfl⟩:=dm.1 hb;have hi:=jc.1 hi;have hj:=jc.1 hj;exact XA i (by omega) j (by omega)
theorem RB  (h:m.Good)  (hi:i<m.zJ.length):(cnt (AM (pM m)) (AB i)==0)=false:=by
 have:0<cnt (AM (pM m)) (AB i):=by
  rw[OT,qb];exact⟨AB i,by rw[OE h];exact wz _ (dm.2 ⟨i,jc.2 hi,rfl⟩),by simp⟩
 rw[mh];omega
theorem pO  (h:m.Good)  (hi:i<m.rules.length):(cnt (AM (pM m)) (BM i)==0)=false:=by
 have:0<cnt (AM (pM m)) (BM i):=by
  rw[OT,qb];exact⟨BM i,by rw[OE h];exact vo _ (dm.2 ⟨i,jc.2 hi,rfl⟩),by simp⟩
 rw[mh];omega
theorem wU  (h:m.Good) {x:Ln} (hx:x∈pM m):∃ws∈FI m,x.2.1=AZ (ws.map ba)/\x.2.2=ws.map ba:=by
 rw[jG h]at hx;obtain⟨⟨a,l⟩,hy,rfl⟩:=dm.1 hx;have:=(List.of_mem_zip hy).2;obtain⟨ws,hw,rfl⟩:=dm.1 this;exact⟨ws,hw,rfl,rfl⟩
theorem wQ  (h:m.Good):∀x∈pM m,FB (AM (pM m)) x=false:=by
 intro x hx;have Ib:=h.t6;obtain⟨ws,hw,e1,e2⟩:=wU h hx;unfold FB;rw[e1,e2]
 rcases MB h hw with⟨i,hi,rfl⟩ | ⟨i,j,hi,hj,hne,h0,rfl⟩ | ⟨n,rs,hn,rfl⟩
 ·rw[UO,(TV (by omega) (JB h.p1 hi) (JB h.d1 acH)).2]
  rfl
 ·rw[J0,(PP (by omega) (by omega) ⟨h0,KL h i j⟩).2]
  have e:I3 1 [ba [115,119,97,112],AB i,AB j,EL (DA m i j)]=[AB i,AB j]:=rfl;have e3:((nth [ba [115,119,97,112],AB i,AB j,EL (DA m i j)] 1).toList==(nth [ba [115,119,97,112],AB i,AB j,EL (DA m i j)] 2).toList)=false:=by
   show((AB i).toList==(AB j).toList)=false;rw[OP i (by omega) j (by omega),gy hne]
  rw[e,e3];simp only[List.any_cons,List.any_nil,RB h hi,RB h hj];rfl
 ·rw[(Q9 h hn).2]
  have e:I3 2 ((EJ n rs).map ba)=(rs.map λr=>r.map EG).flatten:=by
   unfold I3;rw[aq (by decide),ay rfl,MP h hn]
  rw[e];have e4:((2:Nat)==1)=false:=rfl;rw[e4,Bool.false_and,zI,uy];intro u hu;rw[List.mem_flatten]at hu;obtain⟨q,hq,huq⟩:=hu;obtain⟨r,hr,rfl⟩:=dm.1 hq;obtain⟨p,hp,rfl⟩:=dm.1 huq;have Dc:=h.part rs (h.rl hn).2 r hr p hp;cases p with
  |tok t=>show ¬(cnt _ (AB t)==0)=true;rw[RB h Dc];decide
  |zi k=>show ¬(cnt _ (BM k)==0)=true;rw[pO h Dc];decide
theorem bN:∀(L:List (List (List UInt8))) (b:Nat),(∀r∈L,r.length<=b)->(GJ L).length<=L.length*(b+1)
 | [],b,_=>by simp[GJ]
 | [r],b,h=>by have:=h r (by simp);simp only[GJ,fu];omega
 |r::q::t,b,h=>by
  have h1:=h r (by simp);have h2:=bN (q::t) b (λx hx=>h x Lz);unfold GJ;rw[lA,lC,lC (a:=r),vn];omega
theorem Y0:∀(ws:List (List UInt8)) (b:Nat),(∀w∈ws,w.length<=b)->(BW ws).length<=ws.length*(b+1)
 | [],b,_=>by simp[BW]
 | [w],b,h=>by have:=h w (by simp);simp only[BW,fu];omega
 |w::v::r,b,h=>by
  have h1:=h w (by simp);have h2:=Y0 (v::r) b (λx hx=>h x Lz);unfold BW;rw[lA,lC,lC (a:=w),vn];omega
theorem pE (ws:List (List UInt8)) (h:∀w∈ws,w.length=1):(BW ws).length<=ws.length*2:=Y0 ws 1 (λw hw=>yU (h w hw))
theorem fF  (h:m.Good) {n:Nat}{rs:List (List Pt)} (hn:m.rules[n]?=some rs):(BW (EJ n rs)).length<=90:=by
 have hmem:=(h.rl hn).2;have hc:=(h.c1 rs hmem).2;have Ib:=h.t6;have hb:=bN (rs.map λr=>r.map wB) 5 (λr hr=>by
  obtain⟨q,hq,rfl⟩:=dm.1 hr;obtain⟨k,hk,rfl⟩:=jv.1 hq;have:=(h.head rs hmem k _ (gE hk)).2;simpa using this)
 have hb2:(GJ (rs.map λr=>r.map wB)).length<=36:=by
  rw[lM]at hb;have:rs.length*(5+1)<=6*6:=Nat.mul_le_mul (by omega) (by omega);omega
 have h1:∀w∈wB (.zi n):: [61]::GJ (rs.map λr=>r.map wB),w.length=1:=by
  intro w hw
  rcases bk.1 hw with rfl |hw
  ·rfl
  ·rcases bk.1 hw with rfl |hw
   ·rfl
   ·rcases PH hw with rfl | ⟨r,hr,hwr⟩
    ·rfl
    ·obtain⟨q,_,rfl⟩:=dm.1 hr
     obtain⟨p,_,rfl⟩:=dm.1 hwr;cases p <;> rfl
 have h2:=pE _ h1;have e:BW (EJ n rs)=[114,117,108,101]++32::BW (wB (.zi n):: [61]::GJ (rs.map λr=>r.map wB)):=rfl;rw[e,lA,lC];simp only[lC]at h2 ⊢;simp only[jd];omega
theorem V6  (h:m.Good):(DK m).size<=4000:=by
 have Ib:=h.t6;have Hi:=h.n4;have e:(DK m).size=(M6 ((FI m).map BW)).length:=by simp[DK,ba,ByteArray.size]
 rw[e];unfold M6 FI;rw[fq,mo,lA];have h1:(((List.range m.zJ.length).flatMap (IJ m)).map BW).flatMap (λl=>l++ [10])=(List.range m.zJ.length).flatMap λi=>((IJ m i).map BW).flatMap λl=>l++ [10]:=by
  rw[ud,yA]
 have h2:((List.range m.zJ.length).flatMap λi=>((IJ m i).map BW).flatMap λl=>l++ [10]).length<=(List.range m.zJ.length).length*84:=K3 λi hi=>by
  unfold IJ;rw[jx,ij,lA,ud,yA];have h3:((List.range m.zJ.length).flatMap λj=>((if 0<DA m i j then [IV i j (DA m i j)]else []).map BW).flatMap λl=>l++ [10]).length<=(List.range m.zJ.length).length*11:=K3 λj hj=>by
   split
   ·simp[IV,BW,wB]
   ·simp
  have h4:(BW (KT i (m.zJ.getD i 0) (m.Ai.getD i 0))++ [10]).length=12:=by simp[KT,BW,wB]
  rw[List.length_range]at h3;have:m.zJ.length*11<=66:=by omega
  omega
 have h5:((m.rules.zipIdx.map λx=>EJ x.2 x.1).map BW).flatMap (λl=>l++ [10])=m.rules.zipIdx.flatMap λx=>BW (EJ x.2 x.1)++ [10]:=by
  rw[qm,tu];rfl
 have h6:(m.rules.zipIdx.flatMap λx=>BW (EJ x.2 x.1)++ [10]).length<=m.rules.zipIdx.length*91:=K3 λx hx=>by
  have:=fF h (kf.1 hx);rw[lA,fu];omega
 rw[h1,h5];rw[List.length_range]at h2;rw[zv]at h6;have:m.zJ.length*84<=504:=by omega
 have:m.rules.length*91<=364:=by omega
 omega
theorem XY  (h:m.Good):(I0 (DK m)).1=0:=by
 have hp:ES (DK m)=(0,0):=by
  have hs:=V6 h;unfold ES;rw[aq (by omega),aq (by rw[Y9 h];simp)];show(match D3 (pM m) []with
   |some a=>(3,(a:Int))
   |none=>match CK (pM m) 0 0 0 with
    |some a=>(4,(a:Int))
    |none=>if(pM m).any (λx=>x.2.1==2)then(match FD (AM (pM m)) (pM m)with
      |some a=>(5,(a:Int))
      |none=>(0,0))
     else(4,((DK m).size:Int)):Int × Int)=(0,0)
  rw[PN (pM m) [] (kM h),SP (pM m) 0 0 0 (by rw[lZ h];have:=h.t6;omega) (by rw[RO h];have:=h.n4;omega) ?_ ?_,pV (wQ h)]
  ·have:(pM m).any (λx=>x.2.1==2)=true:=by
    rw[qb];have hl:=RO h;have h1:=h.n1;obtain⟨x,hx⟩:=List.exists_mem_of_length_pos (show 0< (AU (pM m)).length by omega);exact⟨x,(ni.1 hx).1,(ni.1 hx).2⟩
   simp[this]
  ·have h1:((AU (pM m)).flatMap λx=>AE x.2.2).length<=(AU (pM m)).length*6:=K3 λx hx=>by
    obtain⟨n,rs,hn,e⟩:=Z0 h hx;rw[e,MP h hn,lM];have:=(h.c1 rs (h.rl hn).2).2;have:=h.t6;omega
   rw[RO h]at h1;have:=h.n4;have:m.rules.length*6<=24:=by omega
   omega
  ·intro x hx
   obtain⟨n,rs,hn,e⟩:=Z0 h hx;rw[e,MP h hn];refine tV λr hr=>?_
   obtain⟨q,hq,rfl⟩:=dm.1 hr;obtain⟨k,hk,rfl⟩:=jv.1 hq;have:=(h.head rs (h.rl hn).2 k _ (gE hk)).2;rw[lM];omega
 have:=RC (DK m);rw[hp]at this;injection this with h1 h2
 exact h1.symm
theorem P8  (h:m.Good):Ei (pM m) (I0 (DK m)).2.2:=VU _ (XY h)
theorem IP {P:Program} (w:World) {ops:Array Oper}{rest:List Oper}{o:Oper}{a:Act}{Q:Exit->Act->World->Prop}
  (hg:o.guard=none) (l c:Operand) (t:TypeId) (hop:o.op=Op.makeSlice t l c)
  (e:TypeId) (i:TypeInfo) (z:Value) (h1:P.underlying t=some (.slice e)) (h2:P.info? e=some i) (h3:i.zero=some z)
  (L C:Int) (n:Nat) (hl:a.eval l=ab L) (hc:a.eval c=ab C) (hL:L=(n:Int)) (hC:C=(n:Int)) (b2:(i.bytes:Int)*(n:Int)<=281474976710656) (b3:(n:Int)<=9223372036854775807)
  (hK:wpList P ops Q rest (a.put o.dst (ae w.heap.size n n)) (w.alloc (.cells (madeCells z.cells (n*i.size)) e))):
  wpList P ops Q (o::rest) a w:=by
 refine wpList_plain hg λK hK'=>?_
 have hrun:=run_make (P:=P) w t e i z h1 h2 h3 .i64 .i64 n n (by omega) (Int.le_refl _) b2 b3;simp only[ug]at hrun;subst hL;subst hC;unfold Oper.wp;simp[execOp,hop,hl,hc,hrun,Result.andThen];exact hK' _ _ hK
theorem BL.keeps {w':World}{l:List ByteArray}{S:List Nat} (h:BL w B v l) (hk:A5 w w' S) (hn:∀g,v.ownBlock=some g->g∉S):BL w' B v l:=AC h hk hn
theorem BL.below {w':World}{l:List ByteArray} (h:BL w B v l) (hb:Below w.heap.size w w'):BL w' B v l:=AC h (A5.zQ hb []) (by simp)
theorem BL.base {B':Nat}{l:List ByteArray} (h:BL w B v l) (hB:B'<=B):BL w B' v l:=by
 obtain⟨h1,h2⟩:=h;refine⟨h1,?_⟩
 rcases h2 with h2 | ⟨g,cap,cur,hv,hg,r⟩
 ·exact .inl h2
 ·exact .inr ⟨g,cap,cur,hv,zV hB hg,r⟩
theorem U5 {g:Nat->ByteArray}{k:Nat} (hi:i<k) (h:∀j,j<k->((g j).toList==(g i).toList)=decide (j=i)):F5 ((List.range k).map g) (g i)=some i:=by
 unfold F5;rw[pz];refine⟨by simpa using hi,?_,?_⟩
 ·simp only[List.getElem_map,List.getElem_range]
  rw[h i hi];simp
 ·intro j hj
  simp only[List.getElem_map,List.getElem_range];rw[h j (by omega),gy (by omega)]
  decide
theorem gX {g:Nat->ByteArray}{k:Nat}{s:ByteArray} (h:∀j,j<k->((g j).toList==s.toList)=false):F5 ((List.range k).map g) s=none:=by
 unfold F5;rw[yt];intro x hx;obtain⟨j,hj,rfl⟩:=dm.1 hx;exact h j (jc.1 hj)
def grM (m:Mk):Gr:=(I0 (DK m)).2.2
theorem oZ (m:Mk):(m.rules.zipIdx.map λx=>BM x.2)=(List.range m.rules.length).map BM:=by
 apply oo;intro i;rw[gM,gM]
 by_cases hi:i<m.rules.length
 ·rw[oz,gE hi,ny hi]
  simp
 ·rw[eo zG,eo zG];rfl
theorem VW  (h:m.Good):(grM m).names=(List.range m.rules.length).map BM:=by
 have e:=(P8 h).g.names;have e2:=M0 h (λws=>nth ws 1);rw[e2]at e;exact e.trans (oZ m)
theorem R6  (h:m.Good):LS (pM m)=(List.range m.zJ.length).map AB:=by
 unfold LS;rw[M7 h (λws=>nth ws 1)];rfl
theorem bJ  (h:m.Good):GA (grM m).toks=(List.range m.zJ.length).map AB:=(P8 h).zy.trans (R6 h)
theorem o8  (h:m.Good) {p:Pt} (hp:E9 m.zJ.length m.rules.length p):Fl (DD (pM m) (EG p))=p:=by
 have Ib:=h.t6;have Hi:=h.n4;have hc:=(P8 h).g.code (EG p);have en:(I0 (DK m)).2.2.names=(List.range m.rules.length).map BM:=VW h;have et:GA (I0 (DK m)).2.2.toks=(List.range m.zJ.length).map AB:=bJ h;rw[en,et]at hc;rw[hc];cases p with
 |tok t=>
  have hp:t<m.zJ.length:=hp;have e1:F5 ((List.range m.rules.length).map BM) (EG (.tok t))=none:=gX λj hj=>by
   have:=XA t (by omega) j (by omega);show((BM j).toList==(AB t).toList)=false;rw[mh]at this ⊢;exact λe=>this e.symm
  have e2:F5 ((List.range m.zJ.length).map AB) (EG (.tok t))=some t:=U5 hp λj hj=>OP j (by omega) t (by omega)
  rw[e1,e2];exact gI t
 |zi k=>
  have hp:k<m.rules.length:=hp;have e1:F5 ((List.range m.rules.length).map BM) (EG (.zi k))=some k:=U5 hp λj hj=>mT j (by omega) k (by omega)
  rw[e1];exact gG k
theorem TS  (h:m.Good):Cj (DD (pM m)) (pM m)=m.rules.zipIdx.map λx=>(BM x.2,x.1):=by
 unfold Cj;have e:=M0 h (λws=>((nth ws 1,(AE ws).map λr=>r.map λw=>Fl (DD (pM m) w)):Nm));have e0:(AU (pM m)).map (TZ (DD (pM m)))=(AU (pM m)).map (λx=>((nth x.2.2 1,(AE x.2.2).map λr=>r.map λw=>Fl (DD (pM m) w)):Nm)):=rfl;rw[e0,e];refine mj λx hx=>?_
 obtain⟨rs,n⟩:=x;have hn:=kf.1 hx;have hw:PX (rs,n)=(EJ n rs).map ba:=rfl;rw[hw,MP h hn];show(BM n,_)=(BM n,rs)
 congr 1
 rw[qm];have hid:∀r∈rs,((λr:List ByteArray=>r.map λw=>Fl (DD (pM m) w)) ∘ λr:List Pt=>r.map EG) r=r:=by
  intro r hr;show(r.map EG).map (λw=>Fl (DD (pM m) w))=r;rw[qm];have:∀p∈r,((λw=>Fl (DD (pM m) w)) ∘ EG) p=p:=λp hp=>o8 h (h.part rs (h.rl hn).2 r hr p hp)
  rw[mj this,List.map_id']
 rw[mj hid,List.map_id']
theorem TH {α β:Type} (g:Nat->β):∀(l:List α) (k:Nat),((l.zipIdx k).map λx=>(g x.2,x.1)).zipIdx k=(l.zipIdx k).map λx=>((g x.2,x.1),x.2)
 | [],_=>rfl
 |a::l,k=>by
  rw[xg,jx,xg,jx,TH g l (k+1)]
theorem PI  (h:m.Good) {t:Nat} (hp:t<m.zJ.length):DD (pM m) (AB t)=2*(t:Int):=by
 have Ib:=h.t6;have Hi:=h.n4;have hc:=(P8 h).g.code (AB t);have en:(I0 (DK m)).2.2.names=(List.range m.rules.length).map BM:=VW h;have et:GA (I0 (DK m)).2.2.toks=(List.range m.zJ.length).map AB:=bJ h;rw[en,et]at hc;have e1:F5 ((List.range m.rules.length).map BM) (AB t)=none:=gX λj hj=>by
  have:=XA t (by omega) j (by omega);rw[mh]at this ⊢;exact λe=>this e.symm
 have e2:F5 ((List.range m.zJ.length).map AB) (AB t)=some t:=U5 hp λj hj=>OP j (by omega) t (by omega)
 rw[e1,e2]at hc;exact hc
theorem rY  (h:m.Good) {t u:Nat} (h0:DA m t u≠0):t<m.zJ.length/\u<m.zJ.length:=by
 unfold DA at h0;simp only[Af]at h0;cases hi:m.swaps[t]? with
 |none=>rw[hi]at h0;simp at h0
 |some r=>
  rw[hi]at h0;simp only[jq]at h0;have h1:=(zM.1 hi).1;have h2:=h.Zd r (mG hi);cases hj:r[u]? with
  |none=>rw[hj]at h0;simp at h0
  |some x=>
   have h3:=(zM.1 hj).1;rw[h.sl]at h1;omega
theorem sZ  (h:m.Good) (t u:Nat):F4 (DD (pM m)) (pM m) t u=DA m t u:=by
 have Ib:=h.t6;refine gY (λx hx h1 h2 h3=>?_) (λh0=>?_)
 ·have hm:(x.2.1,x.2.2)∈(pM m).map (λx=>(x.2.1,x.2.2)):=dm.2 ⟨x,hx,rfl⟩
  rw[d7 h (λa b=>(a,b))]at hm;obtain⟨ws,Ld,e⟩:=dm.1 hm;unfold JN at Ld;obtain⟨ls,hl,rfl⟩:=dm.1 Ld;injection e with e1 e2
  rw[h1]at e1;rw[<-e2]at h2 h3 ⊢
  rcases MB h hl with⟨i,hi,rfl⟩ | ⟨i,j,hi,hj,hne,h0,rfl⟩ | ⟨n,rs,hn,rfl⟩
  ·have:=M3 h hi
   unfold K9 at this;rw[this]at e1;cases e1
  ·rw[J0]at h2 h3 ⊢
   have h2:DD (pM m) (AB i)=2*(t:Int):=h2;have h3:DD (pM m) (AB j)=2*(u:Int):=h3;rw[PI h hi]at h2;rw[PI h hj]at h3;obtain rfl:i=t:=by omega
   obtain rfl:j=u:=by omega
   have hc:=KL h i j;show(D5 (EL (DA m i j)).data.toList).toNat=_;rw[X3 _ (by omega)];rfl
  ·have:=(Q9 h hn).2
   rw[this]at e1;cases e1
 ·obtain⟨ht,hu⟩:=rY h h0
  have hl:IV t u (DA m t u)∈FI m:=by
   unfold FI;refine wz _ (qd.2 ⟨t,jc.2 ht,?_⟩);unfold IJ;refine gj _ (qd.2 ⟨u,jc.2 hu,?_⟩);rw[ay (by omega)];exact mS.2 rfl
  have hm:(1,(IV t u (DA m t u)).map ba)∈(JN m).map λws=>(AZ ws,ws):=by
   refine dm.2 ⟨_,dm.2 ⟨_,hl,rfl⟩,?_⟩;rw[J0,(PP (by omega) (by omega) ⟨by omega,KL h t u⟩).2]
  rw[<-d7 h (λa b=>(a,b))]at hm;obtain⟨x,hx,e⟩:=dm.1 hm;injection e with e1 e2
  refine⟨x,hx,e1,?_,?_⟩
  ·rw[e2,J0];exact PI h ht
  ·rw[e2,J0];exact PI h hu
theorem rD  (h:m.Good):Dw (pM m)=zR m:=by
 have Ib:=h.t6;have e1:(LS (pM m)).length=m.zJ.length:=by rw[R6 h];simp
 have e2:(Cj (DD (pM m)) (pM m)).length=m.rules.length:=by rw[TS h];simp
 have e3:(λt=>(((BD (pM m))[t]?.map λx=>D5 (nth x.2.2 2).data.toList).getD 0).toNat)=λt=>m.zJ.getD t 0:=by
  funext t
  have e:=congrArg (λl=>l[t]?) (M7 h (λws=>D5 (nth ws 2).data.toList));simp only[gM]at e;rw[e]
  by_cases ht:t<m.zJ.length
  ·rw[ny ht,kq,jq]
   have hv:=h.Ph ht;have:nth (K9 m t) 2=EL (m.zJ.getD t 0):=rfl;rw[this,X3 _ (by omega)];rfl
  ·rw[eo zG,Af,eo (by omega)]
   rfl
 have e4:PE (Cj (DD (pM m)) (pM m))=(zR m).rules:=by
  rw[TS h];unfold PE;rw[TH BM m.rules 0,tu];rfl
 have e5:(λt=>(((BD (pM m))[t]?.map λx=>D5 (nth x.2.2 3).data.toList).getD 0).toNat)=λt=>m.Ai.getD t 0:=by
  funext t
  have e:=congrArg (λl=>l[t]?) (M7 h (λws=>D5 (nth ws 3).data.toList));simp only[gM]at e;rw[e]
  by_cases ht:t<m.zJ.length
  ·rw[ny ht,kq,jq]
   have hv:=h.Zc ht;have:nth (K9 m t) 3=EL (m.Ai.getD t 0):=rfl;rw[this,X3 _ (by omega)];rfl
  ·rw[eo zG,Af,eo (by rw[h.dl];omega)]
   rfl
 have e6:F4 (DD (pM m)) (pM m)=DA m:=by funext t u;exact sZ h t u
 unfold Dw;rw[e1,e2,e3,e4,e5,e6];rfl
end Go.Proofs.YtjjggdcnpndgjaaGreatDoor
