import Derived.Test.YtjjggdcnpndgjaaGreatDoorHJ26
set_option linter.unusedSimpArgs false
set_option maxHeartbeats 8000000
set_option maxRecDepth 100000
namespace Go.Proofs.YtjjggdcnpndgjaaGreatDoor
abbrev qd:=@Go.World.ownsRow.cellAt
abbrev tq:=@List.drop_of_length_le
open Go.RowKit Go.Shelf
variable {B bd cap g i n t tb x:Nat}{L:List Pt}{S:List IK}{T:zn}{a l:List Nat}{nv rv v:Value}{yN:Nat->Nat->Option (List Pt)}{w:World}
abbrev Cn:=ByteArray × Int × Nat
def BG (l:List Cn):List Value:=l.flatMap λa=>[.string a.1,ab a.2.1,ab a.2.2]
theorem GH (L:List Cn):(BG L).length=L.length*3:=by
 unfold BG
 induction L with
 |nil=>rfl
 |cons a r ih=>rw[gy,lA,ih];simp;omega
theorem GJ (a b:List Cn):BG (a++b)=BG a++BG b:=by unfold BG;rw[mg]
theorem LM (p:Cn):BG [p]=[.string p.1,ab p.2.1,ab p.2.2]:=rfl
theorem T1 (a b:List Cn) (p q:Cn) (j:Nat) (u:Value) (h:[Value.string q.1,ab q.2.1,ab q.2.2]=[Value.string p.1,ab p.2.1,ab p.2.2].set j u) (hj:j<3):
  (BG (a++p::b)).set (a.length*3+j) u=BG (a++q::b):=by
 have e:∀x:Cn,BG (a++x::b)=BG a++([Value.string x.1,ab x.2.1,ab x.2.2]++BG b):=λx=>by
  rw[GJ,show x::b=[x]++b from rfl,GJ,LM]
 rw[e p,e q,uy _ _ (by rw[GH];omega),GH,show a.length*3+j - a.length*3=j by omega,List.set_append_left _ _ (by simpa using hj),h]
theorem MH (a b:List Cn) (p:Cn):(BG (a++p::b))[a.length*3]?=some (.string p.1)/\(BG (a++p::b))[a.length*3+1]?=some (ab p.2.1)/\(BG (a++p::b))[a.length*3+2]?=some (ab p.2.2):=by
 have e:BG (a++p::b)=BG a++([Value.string p.1,ab p.2.1,ab p.2.2]++BG b):=by
  rw[GJ,show p::b=[p]++b from rfl,GJ,LM]
 rw[e];refine⟨?_,?_,?_⟩
 ·rw[zQ (by rw[GH];omega),GH,kq];rfl
 ·rw[zQ (by rw[GH];omega),GH,show a.length*3+1 - a.length*3=1 by omega];rfl
 ·rw[zQ (by rw[GH];omega),GH,show a.length*3+2 - a.length*3=2 by omega];rfl
def IM (T:zn):Pt->ByteArray
 | .tok t=>nth T.yL t
 | .yB n=>(T.pg.getD n (ByteArray.empty,[])).1
def MW (T:zn) (nd:IK):Cn:=(IM T nd.part,nd.rule,nd.size)
theorem lX  (hI:T.In w) (p:Pt) (hp:J5 T.N p):
  Calls Tryz.prog 173 #[.agg #[.slice T.yu T.N.nT T.yl,ae T.gN T.N.nN T.xY],.agg #[.bool (AQ p),ab (AP p)]] w λe w'=>e=.returned (.string (IM T p))/\Below w.heap.size w w':=by
 cases p with
 |tok t=>exact nK hI.fc.gr hI.fc.ln t hp
 |yB n=>
  have hn:n<T.pg.length:=by rw[hI.fc.gr.Rg];exact hp
  have h:=mY hI.fc.gr hI.fc.ln n _ (gE hn) hp;have e:IM T (.yB n)=T.pg[n].1:=by unfold IM;simp[hn]
  rw[e];exact h
theorem zJ.cons {p:Pt}{ps:List Pt} (h:zJ yN (p::ps) a S):∃a1 a2 S1 S2,a=a1++a2/\S=S1++S2/\zJ yN [p] a1 S1/\zJ yN ps a2 S2:=by
 cases h with
 | @tok t _ r T h=>exact⟨[t],r,[⟨.tok t,-1,1⟩],T,rfl,rfl,.tok .nil,h⟩
 | @yB n k rhs _ x y S1 S2 hk h1 h2=>
  refine⟨x,y,⟨.yB n,k,S1.length+1⟩::S1,S2,rfl,rfl,?_,h2⟩;have:=zJ.yB hk h1 (.nil (yN:=yN));simpa using this
theorem zJ.aiW  (h:zJ yN [.tok t] a S):a=[t]/\S=[⟨.tok t,-1,1⟩]:=by
 cases h with
 |tok h=>cases h;exact⟨rfl,rfl⟩
theorem zJ.aiX  (hl:Tx yN)  (h:zJ yN [.yB n] a S):∃k rest a' S1,yN n k=some (.tok k::rest)/\a=k::a'/\zJ yN (.tok k::rest) a S1/\S=⟨.yB n,k,S1.length+1⟩::S1:=by
 cases h with
 | @yB n k rhs ps x y S1 S2 hk h1 h2=>
  cases h2;obtain⟨rest,e⟩:=hl _ _ _ hk;subst e;rw[iq,iq];cases h1 with
  | @tok t ps r T h0=>exact⟨k,rest,r,_,hk,rfl,.tok h0,rfl⟩
theorem zJ.aiY  (h:zJ yN [] a S):a=[]/\S=[]:=by
 cases h;exact⟨rfl,rfl⟩
theorem E7 {e sz:Nat}{xs:List Value} (h:w.ownsRow B e sz v n xs):∃ad cap,v=.slice ad n cap/\n<=cap:=by
 rcases h.2 with⟨rfl,rfl⟩ | ⟨g,cap,cur,rfl,_,_,h1,_⟩
 ·exact⟨none,0,rfl,by omega⟩
 ·exact⟨_,_,rfl,h1⟩
def Cw (w:World) (B:Nat) (v:Value) (l:List Nat):Prop:=∃ad cap,v=.slice ad l.length cap/\l.length<=cap/\(0<l.length->∃g off,ad=some (af g off)/\g<B/\∀i x:Nat,l[i]?=some x->w.cell? (af g (off+i))=some (ab x))
theorem Cw.below {w':World} (h:Cw w B v l) (hb:Below B w w'):Cw w' B v l:=by
 obtain⟨ad,cap,h1,h2,h3⟩:=h;refine⟨ad,cap,h1,h2,λh0=>?_⟩;obtain⟨g,off,h4,h5,h6⟩:=h3 h0;exact⟨g,off,h4,h5,λi x hx=>(hb.cell (by exact h5)).trans (h6 i x hx)⟩
theorem Cw.mono {B':Nat} (h:Cw w B v l) (hb:B<=B'):Cw w B' v l:=by
 obtain⟨ad,cap,h1,h2,h3⟩:=h;refine⟨ad,cap,h1,h2,λh0=>?_⟩;obtain⟨g,off,h4,h5,h6⟩:=h3 h0;exact⟨g,off,h4,by omega,h6⟩
theorem Cw.tail {off:Nat} (hl:l.length=n) (hc:n+1<=cap) (hg:g<B) (h:∀i y:Nat,(x::l)[i]?=some y->w.cell? (af g (off+i))=some (ab y)):
  Cw w B (.slice (if cap=1 then some (af g off)else some (af g (off+1))) n (cap - 1)) l:=by
 subst hl;refine⟨_,_,rfl,by omega,λh0=>?_⟩;rw[au (by omega)];refine⟨g,off+1,rfl,hg,λi y hy=>?_⟩;have:=h (i+1) y (by simpa using hy);rw[show off+(i+1)=off+1+i by omega]at this;exact this
def Fk (w:World) (bd tb B:Nat) (rv nv:Value) (row:List Nat) (NS:List Cn):Prop:=
 w.heap[bd]?=some (.cells #[ac tb,rv,nv] 232 (0,0))/\Cw w B rv row/\w.ownsRow B 129 3 nv NS.length (BG NS)
theorem Fk.keeps {w':World}{row:List Nat}{NS:List Cn}{S:List Nat} (h:Fk w bd tb B rv nv row NS) (hk:A1 w w' S) (hB:B<=w.heap.size) (hS:∀q∈S,B<=q) (hw:bd∉S) (hv:∀g,nv.ownBlock=some g->g∉S):Fk w' bd tb B rv nv row NS:=
 ⟨(hk.block bd (ak h.1) hw).trans h.1,h.2.1.below (hk.below hB hS),A7 h.2.2 hk hv⟩
theorem Fk.ne {row:List Nat}{NS:List Cn} (h:Fk w bd tb B rv nv row NS):nv.ownBlock≠some bd:=A5 h.2.2 h.1 (by decide)
theorem Fk.drew {row:List Nat}{NS:List Cn} (h:Fk w bd tb B rv nv row NS):Fk w.drew bd tb B rv nv row NS:=h
theorem Fk.put {row:List Nat}{NS R:List Cn}{x:Cn} (h:Fk w bd tb B rv (ae g n cap) row (NS++x::R)) (y:Cn) (j:Nat) (hj:j<3) (u:Value)
  (hu:[Value.string y.1,ab y.2.1,ab y.2.2]=[Value.string x.1,ab x.2.1,ab x.2.2].set j u) (hB:B<=w.heap.size):
  Fk (w.setCell (af g (NS.length*3+j)) u) bd tb B rv (ae g n cap) row (NS++y::R)/\Below B w (w.setCell (af g (NS.length*3+j)) u):=by
 have hne:=h.ne;have hgB:B<=g:=(h.2.2.lt g rfl).1;have hk:A1 w (w.setCell (af g (NS.length*3+j)) u) [g]:=(A1.refl w [g]).setCell (by simp) _;have hb:Below B w (w.setCell (af g (NS.length*3+j)) u):=hk.below hB (λq hq=>by rw[mS.1 hq];exact hgB);refine⟨⟨(hk.block bd (ak h.1) (λhm=>hne (by rw[mS.1 hm];rfl))).trans h.1,h.2.1.below hb,?_⟩,hb⟩;have h3:=h.2.2;have e:n=(NS++x::R).length:=by
  obtain⟨_,_,e,_⟩:=E7 h3;injection e
 subst e;have h4:=(h3.stored (NS.length*3+j) u).1;rw[T1 NS R x y j u hu hj]at h4;have e2:(NS++x::R).length=(NS++y::R).length:=by simp
 rw[e2]at h4 ⊢;exact h4
theorem Tryz.infoB129:(Tryz.prog.info? 129).map (λi=>(i.zero,i.size,i.bytes))=some (some (.agg #[.string ByteArray.empty,ab 0,ab 0]),3,32):=by kernel_rfl
def xF (T:zn) (B m:Nat):Prop:=∀(p:Pt) (a rest:List Nat) (S:List IK) (w:World) (bd:Nat) (rv nv:Value) (NS:List Cn),zJ T.yN [p] a S->S.length<=m->J5 T.N p->T.In w->B<=bd->B<=w.heap.size->Fk w bd T.tb B rv nv (a++rest) NS->NS.length+S.length<=1000000->
 Calls Tryz.prog 117 #[ac bd,.agg #[.bool (AQ p),ab (AP p)]] w λe w'=>e=.returned (.tuple #[])/\∃rv' nv',Fk w' bd T.tb B rv' nv' rest (NS++S.map (MW T))/\Below B w w'
theorem sV  (hT:T.Ok) (B:Nat) (hB:T.Bd B):∀m,xF T B m:=by
 intro m
 induction m with
 |zero=>
  intro p a rest S w bd rv nv NS h hS;exfalso;cases h <;> simp at hS
 |succ m ih=>
 intro p a rest S w bd rv nv NS h hS hp hI hbd hBw hV hN;obtain⟨iN,Hx,Nr,Ns,Nt⟩:=jc Tryz.infoB129;have hbl:bd<w.heap.size:=ak hV.1;have hwn:∀g,nv.ownBlock=some g->g<w.heap.size/\g≠bd/\B<=g:=λg hg=>⟨CJ hV.2.2 hg,λe=>hV.ne (by rw[hg,e]),(hV.2.2.lt g hg).1⟩
 have hb1:Below B w (w.alloc (.cells #[.bool (AQ p),ab (AP p)] 235)):=(ah B w).alloc hBw _;have hV1:Fk (w.alloc (.cells #[.bool (AQ p),ab (AP p)] 235)) bd T.tb B rv nv (a++rest) NS:=hV.keeps ((A1.refl w []).alloc _) hBw (by simp) (by simp) (by simp);have Rs:T.In (w.alloc (.cells #[.bool (AQ p),ab (AP p)] 235)):=hI.below hB hb1;obtain⟨bn,zY⟩:=qE (AQ p);obtain⟨np,hnp⟩:=qE (AP p);have Ii:=hV1.2.2;have Iu:(w.alloc (.cells #[.bool (AQ p),ab (AP p)] 235)).cell? (af w.heap.size 0)=some (.bool (AQ p))/\(w.alloc (.cells #[.bool (AQ p),ab (AP p)] 235)).cell? (af w.heap.size 1)=some (ab (AP p)):=⟨BF w _ _ 0,BF w _ _ 1⟩;have Gu:Hid (∀W,Below B w W->T.In W):=hid λW hb=>hI.below hB hb
 have HSp:Hid (∀W,Below B w W->Calls Tryz.prog 173 #[.agg #[.slice T.yu T.N.nT T.yl,ae T.gN T.N.nN T.xY],.agg #[.bool bn,ab np]] W λe w'=>e=.returned (.string (IM T p))/\Below W.heap.size W w'):=hid λW hb=>by
  rw[<-zY,<-hnp];exact lX (hI.below hB hb) p hp
 have HP:Hid (zJ T.yN [p] a S/\S.length<=m+1/\J5 T.N p/\NS.length+S.length<=1000000):=hid ⟨h,hS,hp,hN⟩;have HBN:Hid (AQ p=bn/\AP p=np):=hid ⟨zY,hnp⟩;rw[zY,hnp]at hb1 hV1 Rs Iu Ii ⊢;clear zY hnp h hS hp hI hV
 go_enter Tryz.func117,Tryz.ntmps117
 obtain⟨w1,hw1⟩:=qE (w.alloc (.cells #[.bool bn,ab np] 235));have hs1:w1.heap.size=w.heap.size+1:=by rw[<-hw1,bg]
 have Fi:=hid hw1;rw[hw1]at hb1 hV1 Rs Iu Ii;clear hw1;have c0:w1.cell? (af bd 0)=some (ac T.tb):=(A0 hV1.1).trans rfl;have c2:w1.cell? (af bd 2)=some nv:=(A0 hV1.1).trans rfl;obtain⟨d0,d1,_⟩:=Rs.tv.Ar;obtain⟨b0,b1⟩:=Iu;obtain⟨Uk,Ul,aiZ,ai0⟩:=E7 Ii;have y6:bd≠w.heap.size:=by omega
 subst aiZ;obtain⟨k0,hk0⟩:=qE (NS.length);rw[hk0]at Ii c2 hwn ai0;have Bc:k0<=1000000:=by have:=HP.out.2.2.2;omega
 have Fx:=hid hV1;have Rk:=hid Ii;have yR:=hid hb1;have Gt:=hid hk0;clear hV1 Rs Ii hb1 hk0
 go_upto_region 1 with fail
 rw[Fi.out]
 go_upto_region 2 with fail
 have Qh:some bd≠(Value.slice Uk k0 Ul).ownBlock:=λe=>(hwn bd e.symm).2.1 rfl
 have Qz:some T.tb≠(Value.slice Uk k0 Ul).ownBlock:=λe=>by have h1:=(hwn _ e.symm).2.2;have h2:=hB.tb;omega
 have Uj:some w.heap.size≠(Value.slice Uk k0 Ul).ownBlock:=λe=>by have h1:=(hwn _ e.symm).1;omega
 have hlb:bd<w1.heap.size:=by omega
 have Rm:w.heap.size<w1.heap.size:=by omega
 have hlt:T.tb<w1.heap.size:=by have:=hB.tb;omega
 refine AE (λw'=>w'.cell? (af bd 0)=some (ac T.tb)/\w'.cell? (af bd 2)=some (.slice Uk k0 Ul)/\w'.cell? (af T.tb 0)=some (.slice T.yu T.N.nT T.yl)/\w'.cell? (af T.tb 1)=some (ae T.gN T.N.nN T.xY)/\w'.cell? (af w.heap.size 0)=some (.bool bn)/\w'.cell? (af w.heap.size 1)=some (ab np)) hmx yg ⟨c0,c2,d0,d1,b0,b1⟩ (λhH=>?_);simp only[AB,BM,AO];refine tB 0 hH ?_;refine tB 1 hH ?_;refine tB 2 hH ?_;refine tB 3 hH ?_;refine tB 4 hH ?_;refine tB 5 hH ?_;refine tB 6 hH ?_;refine tB 7 hH ?_;refine tB 8 hH ?_;refine tB 9 hH ?_;refine tB 10 hH ?_;refine tB 11 hH ?_;refine tB 12 hH ?_;refine tB 13 hH ?_;refine tL ?_;refine tS 14 λK hK=>?_
 refine tM ?_;rw[aq (by rfl)];go_simp;refine(HSp.out _ (yR.out.drew)).mono ?_;rintro e w6 ⟨rfl,yZ⟩;refine hK.out _ _ ?_ λhH=>?_
 ·exact⟨(yZ.cell (by exact hlb)).trans hH.1,(yZ.cell (by exact hlb)).trans hH.2.1,(yZ.cell (by exact hlt)).trans hH.2.2.1,(yZ.cell (by exact hlt)).trans hH.2.2.2.1,(yZ.cell (by exact Rm)).trans hH.2.2.2.2.1,(yZ.cell (by exact Rm)).trans hH.2.2.2.2.2⟩
 clear hK K;refine tL ?_;have Uf:w1.heap.size<=w6.heap.size:=yZ.size;have HN6:Hid (w6.ownsRow B 129 3 (.slice Uk k0 Ul) k0 (BG NS)):=hid (A7 Rk.out (A1.yX ((ah _ w1).drew.trans yZ) []) (by simp));have Co:Hid (Below w1.heap.size w1 w6):=hid ((ah _ w1).drew.trans yZ);refine tB 15 hH ?_;refine tL ?_;refine tS 16 λK hK=>?_
 refine tM ?_;go_simp;refine hK.out _ _ ?_ λhH=>?_
 ·exact⟨A2 _ hH.1,A2 _ hH.2.1,A2 _ hH.2.2.1,A2 _ hH.2.2.2.1,A2 _ hH.2.2.2.2.1,A2 _ hH.2.2.2.2.2⟩
 clear hK K;refine tL ?_;refine tS 17 λK hK=>?_
 refine tM ?_;rw[aq (by rfl)];refine mz _ (.tmp 18) (.tmp 30) 40 rfl B 129 iN (.agg #[.string ByteArray.empty,ab 0,ab 0]) 3 32 Tryz.underlying40 Hx Nr Ns Nt rfl (by decide) (.slice Uk k0 Ul) _ _ rfl (HN6.out.alloc _) (af w6.heap.size 0) 1 1 [.string (IM T p),ab (-1),ab 0] rfl rfl (dh (fr:=(0,0)) (dw w6 _)) Fb (by omega) zX (by omega) yM _ rfl ?_;intro g2 cap2 w7 hown hgrow hat Bv;refine hK.out _ _ ?_ λhH=>?_
 ·exact⟨(hgrow.cell_far _ yM (by exact Qh)).trans hH.1,(hgrow.cell_far _ yM (by exact Qh)).trans hH.2.1,(hgrow.cell_far _ yM Na).trans hH.2.2.1,(hgrow.cell_far _ yM Na).trans hH.2.2.2.1,(hgrow.cell_far _ yM (by exact Uj)).trans hH.2.2.2.2.1,(hgrow.cell_far _ yM (by exact Uj)).trans hH.2.2.2.2.2⟩
 clear hK K;refine tL ?_;refine tB 18 hH ?_;refine tB 19 hH ?_;refine tB 20 hH ?_;refine tL ?_;refine bk yg ?_ _;clear hH;have hV6:Fk w6 bd T.tb B rv (.slice Uk NS.length Ul) (a++rest) NS:=Fx.out.keeps (A1.yX Co.out []) (by omega) (by simp) (by simp) (by simp);rw[Gt.out]at hV6;obtain⟨z1,z2,z3,z4⟩:=EN (j:=2) (W:=w6) ((A1.refl w6 []).alloc _) hV6.1 (by decide) HN6.out hown hgrow;have zc:=(A0 (j:=2) z1).trans rfl;have zf:=A3 (j:=2) z1;have zS:∀q∈bd::(Value.slice Uk k0 Ul).ownBlock.toList,B<=q/\q<w6.heap.size/\q≠w.heap.size:=λq hq=>by
  rcases bh.1 hq with e |e
  ·omega
  ·have h1:=hwn q Cp;exact⟨h1.2.2,by omega,by omega⟩
 have hbB:B<=w6.heap.size:=by omega
 have hB8:Below B w (w7.setCell (af bd 2) (ae g2 (k0+1) cap2)):=(yR.out.trans (Co.out.mono (by omega))).trans (z4.below hbB (λq hq=>(zS q hq).1));have hV8:Fk (w7.setCell (af bd 2) (ae g2 (k0+1) cap2)) bd T.tb B rv (ae g2 (k0+1) cap2) (a++rest) (NS++ [(IM T p,-1,0)]):=⟨z2,hV6.2.1.below (z4.below hbB (λq hq=>(zS q hq).1)),by
  rw[GJ,LM,lA,Gt.out];exact z3⟩
 have hx8:(w7.setCell (af bd 2) (ae g2 (k0+1) cap2)).cell? (af w.heap.size 0)=some (.bool bn)/\(w7.setCell (af bd 2) (ae g2 (k0+1) cap2)).cell? (af w.heap.size 1)=some (ab np):=
  ⟨(z4.cell (by show w.heap.size<w6.heap.size;omega) (λhm=>(zS _ hm).2.2 rfl)).trans ((Co.out.cell (by exact Rm)).trans b0),(z4.cell (by show w.heap.size<w6.heap.size;omega) (λhm=>(zS _ hm).2.2 rfl)).trans ((Co.out.cell (by exact Rm)).trans b1)⟩
 have H8:=hid (And.intro hB8 (And.intro hV8 hx8));clear z1 z2 z3 z4 zS hB8 hV8 hx8 hV6 hown hgrow hat Bv hH Qh Qz Uj c0 c2 d0 d1 b0 b1;show wpList _ _ _ _ _ _
 go_upto_region 3 with fail
 obtain⟨W8,Mm⟩:=qE (w7.setCell (af bd 2) (ae g2 (k0+1) cap2));rw[Mm]at H8 ⊢;clear Mm zc zf HN6 Co;cases p with
 |tok t=>
  obtain⟨rfl,rfl⟩:false=bn/\t=np:=HBN.out;obtain⟨rfl,rfl⟩:=HP.out.1.aiW;obtain⟨q1,q2,q3⟩:=H8.out.2.1;obtain⟨adr,Jc,rfl,Mn,Wk⟩:=q2;obtain⟨gr,Xt,rfl,hgr,hrc⟩:=Wk (by simp);have hx0:=H8.out.2.2.1;have m1:W8.cell? (af bd 1)=some (.slice (some (af gr Xt)) ([t]++rest).length Jc):=(A0 q1).trans rfl;have mf:=A3 (j:=1) q1;obtain⟨lr,hlr⟩:=qE (rest.length);rw[show([t]++rest).length=lr+1 by simp;omega]at m1 Mn;clear Wk
  go_upto_region 12 with fail
  have Km:=Cw.tail (w:=W8) (B:=B) (n:=lr) (cap:=Jc) hlr Mn hgr hrc;obtain⟨AD,agl⟩:=qE ((if Jc=1 then some ((af gr Xt):Addr)else some (af gr (Xt+1))));rw[agl]at Km ⊢;clear agl;have Cu:A1 W8 (W8.setCell (af bd 1) (.slice AD lr (Jc - 1))) [bd]:=(A1.refl _ [bd]).setCell (by simp) _;have Mj:B<=W8.heap.size:=y5 hBw H8.out.1.size;have adQ:=Cu.below Mj (λq hq=>by rw[mS.1 hq];exact hbd);have Sm:Fk (W8.setCell (af bd 1) (.slice AD lr (Jc - 1))) bd T.tb B (.slice AD lr (Jc - 1)) (ae g2 (k0+1) cap2) rest (NS++ [(IM T (.tok t),-1,0)]):=
   ⟨A6 q1 _,Km.below adQ,A7 q3 Cu (λg hg hm=>by
    have hm:=mS.1 hm;subst hm;exact H8.out.2.1.ne hg)⟩
  have adR:=hid (H8.out.1.trans adQ);obtain⟨W9,Mo⟩:=qE (W8.setCell (af bd 1) (.slice AD lr (Jc - 1)));rw[Mo]at Sm adR ⊢;have e9:W9.cell? (af bd 2)=some (ae g2 (k0+1) cap2):=(A0 Sm.1).trans rfl;have Iv:W9.ownsRow B 129 3 (ae g2 (k0+1) cap2) (k0+1) (BG (NS++ [(IM T (.tok t),-1,0)])):=by
   have h9:=Sm.2.2;rw[lA,Gt.out]at h9;exact h9
  have f9:W9.cell? (af g2 (k0*3+2))=some (ab (0:Nat)):=by
   rw[Iv.cellAt (k0*3+2) (by omega)];have:=(MH NS [] (IM T (.tok t),-1,0)).2.2;rw[Gt.out]at this;exact this
  have u9:=Iv.frozenAt (k0*3+2);have hc2:k0+1<=cap2:=by
   obtain⟨_,_,e1,e2⟩:=E7 Iv;injection e1 with _ _ e3
   omega
  have alk:=hid Iv;clear Iv;have HV9:=hid Sm;clear Sm Mo Cu adQ Km q1 q3 m1 mf hrc hx0 H8;have acn:((k0:Int)< (k0:Int)+1):=by omega
  refine AE (λw'=>w'.cell? (af bd 2)=some (ae g2 (k0+1) cap2)) hmx yg e9 (λhH=>?_);simp only[AB,BM,AO];refine tB 0 hH ?_;refine tB 1 hH ?_;refine tB 2 hH ?_;refine tB 3 hH ?_;refine tB 4 hH ?_;refine tB 5 hH ?_;refine tB 6 hH ?_;refine tB 7 hH ?_;refine tB 8 hH ?_;refine tB 9 hH ?_;refine tB 10 hH ?_;refine tB 11 hH ?_;refine tB 12 hH ?_;refine tB 13 hH ?_;refine tB 14 hH ?_;refine tL ?_;refine bk yg ?_ _;clear hH;show wpList _ _ _ _ _ _;go_wp2;rw[show((k0:Int)+1 - (k0:Int))=((1:Nat):Int) by omega];obtain⟨y1,y2⟩:=HV9.out.put (IM T (.tok t),-1,1) 2 (by omega) (ab (1:Nat)) rfl (by have:=adR.out.size;omega);rw[Gt.out]at y1 y2;exact⟨rfl,_,ql rfl _ _ _,rfl,_,_,y1.drew,(adR.out.trans y2).drew⟩
 |yB n=>
  obtain⟨rfl,rfl⟩:true=bn/\n=np:=HBN.out;obtain⟨k,ai1,a',S1,adS,ha,htr,hSe⟩:=HP.out.1.aiX hT.Xr;obtain⟨yY,hkT,nm,hnm,hRk,hrhs⟩:=hT.rl n k _ adS;obtain⟨Mj,adU⟩:=hT.len n k _ adS;obtain⟨rhs,agm⟩:=qF (Pt.tok k::ai1);rw[<-agm]at htr hrhs Mj adU;have Cj:T.N.nT<=20:=(Gu.out w (ah _ _)).fc.gr.Aj;have Wq:Hid (∀W,Below B w W->Calls Tryz.prog 174 #[ac T.tb,ab n,ab k] W λe w'=>∃v,e=.returned (.tuple #[v,ab k])/\C0 W T.n0 v rhs/\W=w'):=hid λW hb=>
   cY (Gu.out W hb).fc.gr (Gu.out W hb).tv n k k (by omega) nm rhs hnm yY hRk hrhs
  obtain⟨q1,q2,q3⟩:=H8.out.2.1;obtain⟨adr,Jc,rfl,Mn,Wk⟩:=q2;subst ha;obtain⟨gr,Xt,rfl,hgr,hrc⟩:=Wk (by simp);have c0:W8.cell? (af bd 0)=some (ac T.tb):=(A0 q1).trans rfl;have c1:W8.cell? (af bd 1)=some (.slice (some (af gr Xt)) (k::a'++rest).length Jc):=(A0 q1).trans rfl;have c2:W8.cell? (af bd 2)=some (ae g2 (k0+1) cap2):=(A0 q1).trans rfl;have cr:=hrc 0 k (by simp);rw[ug]at cr;obtain⟨lr,hlr⟩:=qE ((k::a'++rest).length);have alm:0<lr:=by rw[<-hlr];simp
  rw[hlr]at c1 Mn;have hx0:=H8.out.2.2.1;have hx1:=H8.out.2.2.2;have H9:=hid (And.intro htr (And.intro hSe (And.intro Mj (And.intro adU hlr))));clear adS htr hnm hRk hrhs Mj adU agm Wk hrc q1 q3 hSe hlr hkT
  go_upto_region 4 with fail
  refine dn (S:=λw'=>w'.cell? (af bd 0)=some (ac T.tb)/\w'.cell? (af bd 1)=some (.slice (some (af gr Xt)) lr Jc)/\w'.cell? (af gr Xt)=some (ab k)/\w'.cell? (af w.heap.size 1)=some (ab n)) yg ⟨c0,c1,cr,hx1⟩ (λhH=>?_);refine tB 0 hH ?_;refine tB 1 hH ?_;refine tB 2 hH ?_;refine tB 3 hH ?_;refine tB 4 hH ?_;refine tB 5 hH ?_;refine tB 6 hH ?_;refine tB 7 hH ?_;refine tB 8 hH ?_;refine tB 9 hH ?_;refine tB 10 hH ?_;refine tB 11 hH ?_;refine tL ?_;refine tS 12 λK hK=>?_
  refine tM ?_
  go_simp;refine(Wq.out _ (H8.out.1.drew)).mono ?_;rintro e w9 ⟨pv,rfl,Nn,rfl⟩;try dsimp only
  refine hK.out _ _ ?_ λhH=>?_
  ·exact hH
  clear hK K;refine tB 13 hH ?_;refine tB 14 hH ?_;refine tB 15 hH ?_;refine tB 16 hH ?_;refine tB 17 hH ?_;refine tL ?_;refine bk yg ?_ _;clear hH;have Um:W8.ownsRow B 129 3 (ae g2 (k0+1) cap2) (k0+1) (BG (NS++ [(IM T (.yB n),-1,0)])):=by
   have h9:=H8.out.2.1.2.2;rw[lA,Gt.out]at h9;exact h9
  have f8:W8.cell? (af g2 (k0*3+1))=some (ab (-1)):=by
   rw[Um.cellAt (k0*3+1) (by omega)];have:=(MH NS [] (IM T (.yB n),-1,0)).2.1;rw[Gt.out]at this;exact this
  have u8:=Um.frozenAt (k0*3+1);have acn:((k0:Int)< (k0:Int)+1):=by omega
  have Pq:Hid (C0 W8 T.n0 pv rhs):=hid Nn;obtain⟨adp,ai2,rfl,hcp,hpp⟩:=Nn;clear Um
  go_upto_region 6 with fail
  obtain⟨y1,y2⟩:=H8.out.2.1.put (IM T (.yB n),k,0) 1 (by omega) (ab k) rfl (by have:=H8.out.1.size;omega);rw[Gt.out]at y1 y2;have Un:=hid y1.drew;have Qj:=hid ((H8.out.1.trans y2).drew);have agn:=hid (Pq.out.below (y2.mono hB.n0).drew);clear y1 y2 f8 u8 c0 c1 c2 cr hx0 hx1 acn;obtain⟨Jp,Xu⟩:=qE ((W8.setCell (af g2 (k0*3+1)) (ab k)).drew);rw[Xu]at Un Qj agn ⊢;clear Xu;obtain⟨nr,Ky⟩:=qF (rhs.length);rw[<-Ky]at hcp hpp ⊢;have aln:nr<=8:=by rw[Ky];exact H9.out.2.2.1
  have Gl:=hid Ky;clear hpp Ky Pq;go_wp2
  go_loopw [62] (λq wr=>∃(j:Nat) (aj:List Nat) (Sj D:List IK) (Sn nvj:Value),j<=nr/\q=ab j/\Hid (zJ T.yN (rhs.drop j) aj Sj)/\Hid (S1=D++Sj)/\Hid (Fk wr bd T.tb B Sn nvj (aj++rest) (NS++(IM T (.yB n),(k:Int),0)::D.map (MW T)))/\Hid (Below B Jp wr)) (λq _=>nr - (intOf q).toNat)
  case atStart=>exact⟨0,k::a',S1,[],_,_,bu _,rfl,hid H9.out.1,hid rfl,hid Un.out,hid (ah _ _)⟩
  case round=>
   obtain⟨j,aj,Sj,D,Sn,nvj,hj,rfl,Xv,hSj,Xw,Kf⟩:=hrel
   by_cases hlt:j<nr
   ·obtain⟨p1,Bu⟩:∃p1,rhs[j]?=some p1:=⟨_,gE (by rw[<-Gl.out];exact hlt)⟩
    have hdr:rhs.drop j=p1::rhs.drop (j+1):=by
     obtain⟨h1,h2⟩:=yS.1 Bu;rw[gm h1,h2]
    have adV:=Xv.out;rw[hdr]at adV;obtain⟨a1,a2,S2,S3,ea,eS,Et,Gj⟩:=adV.cons;have Ci:J5 T.N p1:=H9.out.2.2.2.1.at Bu;obtain⟨ad3,Am,e3,hc3,Dy⟩:=agn.out.below (Kf.out.mono hB.n0);rw[<-Gl.out]at Dy;obtain⟨gp,op,e4,Ob,Lj⟩:=Dy (by omega);obtain⟨rfl,rfl⟩:adp=ad3/\ai2=Am:=by simpa using e3
    clear e3;subst e4;obtain⟨u0,u1⟩:=Lj j p1 Bu;have Ed:B<=wr.heap.size:=by have h1:=Qj.out.size;have h2:=Kf.out.size;omega
    have hka:A1 wr (wr.alloc (.cells #[.bool (AQ p1),ab (AP p1)] 235)) []:=(A1.refl wr []).alloc _;have hVa:=Xw.out.keeps hka Ed (by simp) (by simp) (by simp);rw[ea,aA]at hVa;have hlS:S1.length+1<=m+1/\NS.length+(S1.length+1)<=1000000:=by
     have h1:=HP.out.2.1;have h2:=HP.out.2.2.2;rw[H9.out.2.1,lC]at h1 h2;exact⟨h1,h2⟩
    have hlD:S1.length=D.length+(S2.length+S3.length):=by rw[hSj.out,eS];simp
    have hba:Below B wr (wr.alloc (.cells #[.bool (AQ p1),ab (AP p1)] 235)):=(ah B wr).alloc Ed _;have HC:=hid (ih p1 a1 (a2++rest) S2 _ bd _ _ _ Et (by omega) Ci (Gu.out _ ((Qj.out.trans Kf.out).trans hba)) hbd Hw hVa yM);have HX:=hid (And.intro Gj (And.intro eS (Kf.out.trans hba)));obtain⟨b1,hb1⟩:=qE (AQ p1);obtain⟨m1,hm1⟩:=qE (AP p1);rw[hb1]at u0 HC HX;rw[hm1]at u1 HC HX;clear hdr adV Et Gj hVa hka hba Dy Lj hb1 hm1 hc3 ea eS Ci
    go_wp2_with (go_at_call 117;refine HC.out.mono ?_;rintro e w5 ⟨rfl,rv5,nv5,hV5,yT⟩;have H5:=hid (And.intro hV5 yT);clear hV5 yT)
    go_roundw
    case rel=>exact⟨j+1,a2,S3,D++S2,rv5,nv5,by omega,by go_num,hid HX.out.1,hid (by rw[hSj.out,HX.out.2.1,aA]),hid (by
     have h1:=H5.out.1;rw[ew,<-ig,<-aA];exact h1),hid (HX.out.2.2.trans H5.out.2)⟩
    case measure=>simp[intOf];omega
   ·have hnj:nr<=j:=by omega
    have adW:=Xv.out;rw[tq (by rw[<-Gl.out];exact hnj)]at adW;obtain⟨rfl,rfl⟩:=adW.aiY;have hDS:D=S1:=by have:=hSj.out;simpa using this.symm
    subst hDS;have hV:=Xw.out;rw[eu]at hV;obtain⟨g9,Jq,rfl,ai3,ai4,Rx⟩:=AX hV.2.2 yM;obtain⟨n9,Xx⟩:=qE ((NS++(IM T (.yB n),(k:Int),0)::D.map (MW T)).length);have abi:n9=k0+1+D.length:=by rw[<-Xx,<-Gt.out];simp;omega
    have Iv:=hV.2.2;rw[Xx]at Iv hV Rx;have e9:wr.cell? (af bd 2)=some (ae g9 n9 Jq):=(A0 hV.1).trans rfl;have f9:wr.cell? (af g9 (k0*3+2))=some (ab (0:Nat)):=by
     rw[Iv.cellAt (k0*3+2) (by omega)];have:=(MH NS (D.map (MW T)) (IM T (.yB n),(k:Int),0)).2.2;rw[Gt.out]at this;exact this
    have u9:=Iv.frozenAt (k0*3+2);have hD6:D.length<=1000000:=by
     have h1:=HP.out.2.2.2;rw[H9.out.2.1,lC]at h1;omega
    have HV9:=hid hV;have acn:((k0:Int)< (n9:Int)):=by omega
    have HN9:=hid abi;have ai5:n9<=2000001:=by omega
    have HNj:=hid hnj;clear Xw hV Iv Xx abi Xv adW hSj
    go_upto_region 12 with fail
    refine AE (λw'=>w'.cell? (af bd 2)=some (ae g9 n9 Jq)) hmx yg e9 (λhH=>?_);simp only[AB,BM,AO];refine tB 0 hH ?_;refine tB 1 hH ?_;refine tB 2 hH ?_;refine tB 3 hH ?_;refine tB 4 hH ?_;refine tB 5 hH ?_;refine tB 6 hH ?_;refine tB 7 hH ?_;refine tB 8 hH ?_;refine tB 9 hH ?_;refine tB 10 hH ?_;refine tB 11 hH ?_;refine tB 12 hH ?_;refine tB 13 hH ?_;refine tB 14 hH ?_;refine tL ?_;refine bk yg ?_ _;clear hH;show wpList _ _ _ _ _ _;go_wp2;rw[show((n9:Int) - (k0:Int))=((D.length+1:Nat):Int) by have:=HN9.out;omega];obtain⟨y1,y2⟩:=HV9.out.put (IM T (.yB n),(k:Int),D.length+1) 2 (by omega) (ab (D.length+1:Nat)) rfl (by have h1:=Qj.out.size;have h2:=Kf.out.size;omega);rw[Gt.out]at y1 y2;refine⟨rfl,_,ql rfl _ _ _,rfl,Sn,ae g9 n9 Jq,by
     rw[H9.out.2.1,jv];exact y1.drew,((Qj.out.trans Kf.out).trans y2).drew⟩
section
theorem Tryz.infoX3:(Tryz.prog.info? 3).map (λi=>(i.zero,i.size,i.bytes))=some (some (ab 0),1,8):=by kernel_rfl
def D8 (l:List Nat):List Value:=l.map fun(x:Nat)=>ab (x:Int)
theorem SE (l:List Nat):(D8 l).length=l.length:=by unfold D8;simp
theorem MJ  (h:l[i]?=some x):(D8 l)[i]?=some (ab x):=by unfold D8;rw[gM,h];rfl
theorem GK (a b:List Nat):D8 (a++b)=D8 a++D8 b:=by unfold D8;rw[ew]
def wA (w:World) (B:Nat) (v:Value) (l:List Nat):Prop:=Cw w B v l/\(l=[]->v=.slice none 0 0)
def D7 (w:World) (B:Nat) (v:Value) (l:List Nat):Prop:=w.ownsRow B 3 1 v l.length (D8 l)
theorem D7.row  (h:D7 w B v l) {B':Nat} (hB:∀g,v.ownBlock=some g->g<B'):Cw w B' v l:=by
 obtain⟨ad,cap,e,hc⟩:=E7 h;refine⟨ad,cap,e,hc,λh0=>?_⟩;obtain⟨g,cap',e2,Av,hg2,hg3⟩:=AX h h0;rw[e]at e2;injection e2 with e3 _ e4
 subst e3;subst e;refine⟨g,0,rfl,hB g rfl,λi x hx=>?_⟩;have hi:=(yS.1 hx).1;have h1:=qd h i (by omega);rw[jl];exact h1.trans (MJ hx)
theorem D7.at  (h:D7 w B (ae g n cap) l)  (hx:l[i]?=some x):w.cell? (af g i)=some (ab x):=by
 obtain⟨ad,cap',e,hc⟩:=E7 h;have e2:n=l.length:=by injection e
 subst e2;exact(qd h i (by have:=(yS.1 hx).1;omega)).trans (MJ hx)
theorem kN (w:World) (B:Nat) (hBw:B<=w.heap.size) (v:Value) (l:List Nat) (h:wA w B v l) (hl:l.length<=100000):
  Calls Tryz.prog 114 #[v] w λe w'=>∃v',e=.returned v'/\D7 w' w.heap.size v' l/\Below w.heap.size w w':=by
 obtain⟨i0,hi,hz0,hz1,hz2⟩:=jc Tryz.infoX3;have qT:∀(w:World) (a:Option Addr) (n c n' c':Nat),(binOp .eql 45 (.slice a n c) (.slice none n' c')).run Tryz.prog w=.ok (.bool a.isNone) w:=λw a n c n' c'=>Lib.run_eql_slice_nil w _ _ a n c n' c' Tryz.underlying45
 by_cases h0:l=[]
 ·obtain rfl:=h.2 h0
  subst h0;clear h
  go_enter Tryz.func114,Tryz.ntmps114
  go_wp2;go_ret;exact⟨.slice none 0 0,rfl,je _ _ _ _,ah _ _⟩
 ·have hp:0<l.length:=List.length_pos_iff.2 h0
  obtain⟨⟨ad,cap,rfl,hc,hg⟩,_⟩:=h;obtain⟨g,off,rfl,hgB,hcs⟩:=hg hp;have aaN:(w.alloc (.cells #[] 3)).ownsRow w.heap.size 3 1 (ae w.heap.size 0 0) 0 []:=World.ownsRow_made w #[] 0 (yF _) zX rfl;have hnews:∀(j:Nat) (u:Value),(D8 l)[j]?=some u->(w.alloc (.cells #[] 3)).cell? (((af g off):Addr).add j)=some u:=λj u hu=>by
   have hj:=(yS.1 hu).1;rw[SE]at hj;have h1:=MJ (gE hj);rw[hu]at h1;injection h1 with h1
   subst h1;have h2:((af g off):Addr).add j=(af g (off+j)):=by simp[Addr.add]
   rw[h2];exact(((ah w.heap.size w).alloc (yF _) _).cell Hj).trans (hcs j _ (gE hj))
  have ac8:=hid hnews;have aaO:=hid aaN;obtain⟨n,hn⟩:=qF (l.length);rw[<-hn]at hc hp hl ⊢;have HN:Hid (n=l.length):=hid hn;clear hnews aaN hcs hg hn h0
  go_enter Tryz.func114,Tryz.ntmps114
  go_wp2_with (first
   | (at_builtin;refine xR _ rfl _ _ 45 rfl w.heap.size 3 i0 (.int .i64 0) 1 8 Tryz.underlying45 hi hz0 hz1 hz2 rfl (by decide) _ _ _ rfl aaO.out ⟨g,off,none⟩ n cap (D8 l) rfl (by rw[SE,Nat.mul_one];exact HN.out.symm) ac8.out (λu hu=>by unfold D8 at hu;obtain⟨x,_,rfl⟩:=cj.1 hu;rfl) zX (by omega) (by simp) ?_;intro v' w1 hown' hgrow _))
  rw[jl]at hown';have HB:Hid (Below w.heap.size w w1):=hid (((ah w.heap.size w).alloc (yF _) _).grown hgrow (by simp) (λq hq=>(aaO.out.lt q hq).1));rw[HN.out]at hown';have HO:Hid (D7 w1 w.heap.size v' l):=hid hown';clear hown' hgrow;go_ret;exact⟨_,rfl,HO.out,HB.out⟩
section
variable {T:zn} (hT:T.Ok)
include hT
theorem aY  (ht:t<T.N.nT) (hL:B3 T.N L) (hx:x<=939000000):
  (DA T.yN L t=none/\(C3 T.yN T.N.nT t L x).1=false)\/∃s,DA T.yN L t=some s/\(C3 T.yN T.N.nT t L x).1=true/\(C3 T.yN T.N.nT t L x).2.1=s/\(C3 T.yN T.N.nT t L x).2.2<=x+2/\s.length<=L.length+7/\B3 T.N s:=by
 match L with
 | []=>exact .inl ⟨rfl,by simp[C3];omega⟩
 | .tok u::s=>
  by_cases e:u=t
  ·subst e
   exact .inr ⟨s,by simp[DA],by simp[C3],rfl,by simp only[C3,DJ];omega,by simp;omega,hL.tail⟩
  ·exact .inl ⟨by simp[DA,e],by simp[C3,e]⟩
 | .yB n::s=>
  cases h:T.yN n t with
  |none=>exact .inl ⟨by simp[DA,h],by simp[C3,h]⟩
  |some rhs=>
   have h1:=hT.len n t rhs h;have h3:B3 T.N rhs.tail:=by
    cases rhs with
    |nil=>exact h1.2
    |cons p ps=>exact h1.2.tail
   refine .inr ⟨rhs.tail++s,by simp[DA,h],by simp[C3,h],by simp[C3,h],?_,?_,h3.append hL.tail⟩
   ·simp only[C3,h,DJ];omega
   ·have:=h1.1;simp;omega
theorem oJ  (hL:B3 T.N L):(L=[]/\C3 T.yN T.N.nT T.N.nT L x=(true,[],x))\/(L≠ []/\(C3 T.yN T.N.nT T.N.nT L x).1=false):=by
 match L with
 | []=>exact .inl ⟨rfl,by simp[C3]⟩
 | .tok u::s=>
  have h1:u<T.N.nT:=hL.2 u (eo ..);exact .inr ⟨by simp,by simp[C3];omega⟩
 | .yB n::s=>
  cases h:T.yN n T.N.nT with
  |none=>exact .inr ⟨by simp,by simp[C3,h]⟩
  |some rhs=>have:=(hT.rl _ _ _ h).2.1;omega
end
def M0 (T:zn) (l:List Nat) (i:Nat):Prop:=∃L,CQ T.yN [.yB 0] (l.take i)=some L/\((i<l.length/\CQ T.yN [.yB 0] (l.take (i+1))=none)\/(i=l.length/\L≠ []))
theorem lQ {L0:List Pt} (h:CQ yN L0 (l.take i)=some L) (ht:l[i]?=some t):CQ yN L0 (l.take (i+1))=DA yN L t:=by
 obtain⟨hi,e⟩:=yS.1 ht;rw[gz hi,e,IW,h];show(DA yN L t).bind _=_;cases DA yN L t <;> rfl
def ZE (T:zn) (l:List Nat) (i:Nat) (L:List Pt):Prop:=(i<=l.length/\CQ T.yN [.yB 0] (l.take i)=some L)\/(i=l.length+1/\L=[]/\CQ T.yN [.yB 0] l=some [])
theorem o8  (hT:T.Ok)  (hl:∀y∈l,y<T.N.nT) (hp:ZE T l i L) (hi:i<l.length+1) (hL:B3 T.N L) (hx:x<=939000000) (ht:(l++ [T.N.nT])[i]?=some t):
  ((C3 T.yN T.N.nT t L x).1=false/\M0 T l i)\/((C3 T.yN T.N.nT t L x).1=true/\ZE T l (i+1) (C3 T.yN T.N.nT t L x).2.1/\(C3 T.yN T.N.nT t L x).2.2<=x+2/\(C3 T.yN T.N.nT t L x).2.1.length<=L.length+7/\B3 T.N (C3 T.yN T.N.nT t L x).2.1):=by
 rcases hp with⟨_,hp⟩ | ⟨h,_⟩
 ·rcases jw i l.length with h |h
  ·rw[aL h]at ht
   have Bk:=hl t (mG ht);have h2:=lQ hp ht
   rcases aY hT Bk hL hx with⟨h3,h4⟩ | ⟨s,h3,h4,h5,h6,h7,h8⟩
   ·exact .inl ⟨h4,L,hp,.inl ⟨h,h2.trans h3⟩⟩
   ·exact .inr ⟨h4,by rw[h5];exact .inl ⟨h,h2.trans h3⟩,h6,by rw[h5];exact h7,by rw[h5];exact h8⟩
  ·obtain rfl:i=l.length:=by omega
   have e:t=T.N.nT:=by
    rw[zQ (yF _),kq]at ht;simpa using ht.symm
   subst e;rw[mj]at hp
   rcases oJ hT hL (x:=x)with⟨h3,h4⟩ | ⟨h3,h4⟩
   ·subst h3
    rw[h4];exact .inr ⟨rfl,.inr ⟨rfl,rfl,hp⟩,by simp,by simp,hL⟩
   ·exact .inl ⟨h4,L,by rw[mj];exact hp,.inr ⟨rfl,h3⟩⟩
 ·omega
def UX:List Pt->Nat
 | .tok _::_=>1
 |_=>0
theorem zJ.small  (hl:Tx yN) {ps:List Pt}{b:List Nat} (h:zJ yN ps b S):S.length+UX ps<=2*b.length:=by
 induction h with
 |nil=>simp[UX]
 |tok _ ih=>simp only[UX,lC];omega
 | @yB n k rhs ps a b S U hk h1 h2 ih1 ih2=>
  obtain⟨rest,e⟩:=hl _ _ _ hk;subst e;simp only[UX,lC,lA]at ih1 ⊢;omega
end
end Go.Proofs.YtjjggdcnpndgjaaGreatDoor
