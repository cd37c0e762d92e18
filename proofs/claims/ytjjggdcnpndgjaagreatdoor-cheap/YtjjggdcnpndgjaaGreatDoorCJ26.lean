import Derived.Test.YtjjggdcnpndgjaaGreatDoorCJ25
set_option linter.unusedSimpArgs false
set_option maxHeartbeats 8000000
set_option maxRecDepth 100000
namespace Go.Proofs.YtjjggdcnpndgjaaGreatDoor
abbrev qq:=@Go.World.ownsRow.cellAt
abbrev qu:=@List.drop_of_length_le
open Go.RowKit Go.Shelf
variable {B bd cap g i n t tb x:Nat}{L:List Pt}{S:List GF}{T:Am}{a l:List Nat}{nv rv v:Value}{zH:Nat->Nat->Option (List Pt)}{w:World}
abbrev Cw:=ByteArray × Int × Nat
def BT (l:List Cw):List Value:=l.flatMap λa=>[.string a.1,ab a.2.1,ab a.2.2]
theorem GV (L:List Cw):(BT L).length=L.length*3:=by
 unfold BT
 induction L with
 |nil=>rfl
 |cons a r ih=>rw[ij,lA,ih];simp;omega
theorem GY (a b:List Cw):BT (a++b)=BT a++BT b:=by unfold BT;rw[mo]
theorem LY (p:Cw):BT [p]=[.string p.1,ab p.2.1,ab p.2.2]:=rfl
theorem TN (a b:List Cw) (p q:Cw) (j:Nat) (u:Value) (h:[Value.string q.1,ab q.2.1,ab q.2.2]=[Value.string p.1,ab p.2.1,ab p.2.2].set j u) (hj:j<3):
  (BT (a++p::b)).set (a.length*3+j) u=BT (a++q::b):=by
 have e:∀x:Cw,BT (a++x::b)=BT a++([Value.string x.1,ab x.2.1,ab x.2.2]++BT b):=λx=>by
  rw[GY,show x::b=[x]++b from rfl,GY,LY]
 rw[e p,e q,vp _ _ (by rw[GV];omega),GV,show a.length*3+j - a.length*3=j by omega,List.set_append_left _ _ (by simpa using hj),h]
theorem L8 (a b:List Cw) (p:Cw):(BT (a++p::b))[a.length*3]?=some (.string p.1)/\(BT (a++p::b))[a.length*3+1]?=some (ab p.2.1)/\(BT (a++p::b))[a.length*3+2]?=some (ab p.2.2):=by
 have e:BT (a++p::b)=BT a++([Value.string p.1,ab p.2.1,ab p.2.2]++BT b):=by
  rw[GY,show p::b=[p]++b from rfl,GY,LY]
 rw[e];refine⟨?_,?_,?_⟩
 ·rw[Bc (by rw[GV];omega),GV,ku];rfl
 ·rw[Bc (by rw[GV];omega),GV,show a.length*3+1 - a.length*3=1 by omega];rfl
 ·rw[Bc (by rw[GV];omega),GV,show a.length*3+2 - a.length*3=2 by omega];rfl
def J1 (T:Am):Pt->ByteArray
 | .tok t=>nth T.zy t
 | .zi n=>(T.pg.getD n (ByteArray.empty,[])).1
def PU (T:Am) (nd:GF):Cw:=(J1 T nd.part,nd.rule,nd.size)
theorem nO  (hI:T.In w) (p:Pt) (hp:JQ T.N p):
  Calls Tryz.prog 173 #[.agg #[.slice T.yZ T.N.nT T.yT,ae T.gN T.N.nN T.yQ],.agg #[.bool (AW p),ab (AV p)]] w λe w'=>e=.returned (.string (J1 T p))/\Below w.heap.size w w':=by
 cases p with
 |tok t=>exact oQ hI.fc.gr hI.fc.ln t hp
 |zi n=>
  have hn:n<T.pg.length:=by rw[hI.fc.gr.Tu];exact hp
  have h:=o9 hI.fc.gr hI.fc.ln n _ (gE hn) hp;have e:J1 T (.zi n)=T.pg[n].1:=by unfold J1;simp[hn]
  rw[e];exact h
theorem Az.cons {p:Pt}{ps:List Pt} (h:Az zH (p::ps) a S):∃a1 a2 S1 S2,a=a1++a2/\S=S1++S2/\Az zH [p] a1 S1/\Az zH ps a2 S2:=by
 cases h with
 | @tok t _ r T h=>exact⟨[t],r,[⟨.tok t,-1,1⟩],T,rfl,rfl,.tok .nil,h⟩
 | @zi n k rhs _ x y S1 S2 hk h1 h2=>
  refine⟨x,y,⟨.zi n,k,S1.length+1⟩::S1,S2,rfl,rfl,?_,h2⟩;have:=Az.zi hk h1 (.nil (zH:=zH));simpa using this
theorem Az.aju  (h:Az zH [.tok t] a S):a=[t]/\S=[⟨.tok t,-1,1⟩]:=by
 cases h with
 |tok h=>cases h;exact⟨rfl,rfl⟩
theorem Az.ajv  (hl:Wr zH)  (h:Az zH [.zi n] a S):∃k rest a' S1,zH n k=some (.tok k::rest)/\a=k::a'/\Az zH (.tok k::rest) a S1/\S=⟨.zi n,k,S1.length+1⟩::S1:=by
 cases h with
 | @zi n k rhs ps x y S1 S2 hk h1 h2=>
  cases h2;obtain⟨rest,e⟩:=hl _ _ _ hk;subst e;rw[fy,fy];cases h1 with
  | @tok t ps r T h0=>exact⟨k,rest,r,_,hk,rfl,.tok h0,rfl⟩
theorem Az.ajw  (h:Az zH [] a S):a=[]/\S=[]:=by
 cases h;exact⟨rfl,rfl⟩
theorem BV {e sz:Nat}{xs:List Value} (h:w.ownsRow B e sz v n xs):∃ad cap,v=.slice ad n cap/\n<=cap:=by
 rcases h.2 with⟨rfl,rfl⟩ | ⟨g,cap,cur,rfl,_,_,h1,_⟩
 ·exact⟨none,0,rfl,by omega⟩
 ·exact⟨_,_,rfl,h1⟩
def Em (w:World) (B:Nat) (v:Value) (l:List Nat):Prop:=∃ad cap,v=.slice ad l.length cap/\l.length<=cap/\(0<l.length->∃g off,ad=some (af g off)/\g<B/\∀i x:Nat,l[i]?=some x->w.cell? (af g (off+i))=some (ab x))
theorem Em.below {w':World} (h:Em w B v l) (hb:Below B w w'):Em w' B v l:=by
 obtain⟨ad,cap,h1,h2,h3⟩:=h;refine⟨ad,cap,h1,h2,λh0=>?_⟩;obtain⟨g,off,h4,h5,h6⟩:=h3 h0;exact⟨g,off,h4,h5,λi x hx=>(hb.cell Lb).trans (h6 i x hx)⟩
theorem Em.mono {B':Nat} (h:Em w B v l) (hb:B<=B'):Em w B' v l:=by
 obtain⟨ad,cap,h1,h2,h3⟩:=h;refine⟨ad,cap,h1,h2,λh0=>?_⟩;obtain⟨g,off,h4,h5,h6⟩:=h3 h0;exact⟨g,off,h4,by omega,h6⟩
theorem Em.tail {off:Nat} (hl:l.length=n) (hc:n+1<=cap) (hg:g<B) (h:∀i y:Nat,(x::l)[i]?=some y->w.cell? (af g (off+i))=some (ab y)):
  Em w B (.slice (if cap=1 then some (af g off)else some (af g (off+1))) n (cap - 1)) l:=by
 subst hl;refine⟨_,_,rfl,by omega,λh0=>?_⟩;rw[aq (by omega)];refine⟨g,off+1,rfl,hg,λi y hy=>?_⟩;have:=h (i+1) y (by simpa using hy);rw[show off+(i+1)=off+1+i by omega]at this;exact this
def Ht (w:World) (bd tb B:Nat) (rv nv:Value) (row:List Nat) (NS:List Cw):Prop:=
 w.heap[bd]?=some (.cells #[ac tb,rv,nv] 232 (0,0))/\Em w B rv row/\w.ownsRow B 129 3 nv NS.length (BT NS)
theorem Ht.keeps {w':World}{row:List Nat}{NS:List Cw}{S:List Nat} (h:Ht w bd tb B rv nv row NS) (hk:A5 w w' S) (hB:B<=w.heap.size) (hS:∀q∈S,B<=q) (hw:bd∉S) (hv:∀g,nv.ownBlock=some g->g∉S):Ht w' bd tb B rv nv row NS:=
 ⟨(hk.block bd (ak h.1) hw).trans h.1,h.2.1.below (hk.below hB hS),AC h.2.2 hk hv⟩
theorem Ht.ne {row:List Nat}{NS:List Cw} (h:Ht w bd tb B rv nv row NS):nv.ownBlock≠some bd:=A9 h.2.2 h.1 (by decide)
theorem Ht.drew {row:List Nat}{NS:List Cw} (h:Ht w bd tb B rv nv row NS):Ht w.drew bd tb B rv nv row NS:=h
theorem Ht.put {row:List Nat}{NS R:List Cw}{x:Cw} (h:Ht w bd tb B rv (ae g n cap) row (NS++x::R)) (y:Cw) (j:Nat) (hj:j<3) (u:Value)
  (hu:[Value.string y.1,ab y.2.1,ab y.2.2]=[Value.string x.1,ab x.2.1,ab x.2.2].set j u) (hB:B<=w.heap.size):
  Ht (w.setCell (af g (NS.length*3+j)) u) bd tb B rv (ae g n cap) row (NS++y::R)/\Below B w (w.setCell (af g (NS.length*3+j)) u):=by
 have hne:=h.ne;have hgB:B<=g:=(h.2.2.lt g rfl).1;have hk:A5 w (w.setCell (af g (NS.length*3+j)) u) [g]:=(A5.refl w [g]).setCell (by simp) _;have hb:Below B w (w.setCell (af g (NS.length*3+j)) u):=hk.below hB (λq hq=>by rw[mS.1 hq];exact hgB);refine⟨⟨(hk.block bd (ak h.1) (λhm=>hne (by rw[mS.1 hm];rfl))).trans h.1,h.2.1.below hb,?_⟩,hb⟩;have h3:=h.2.2;have e:n=(NS++x::R).length:=by
  obtain⟨_,_,e,_⟩:=BV h3;injection e
 subst e;have h4:=(h3.stored (NS.length*3+j) u).1;rw[TN NS R x y j u hu hj]at h4;have e2:(NS++x::R).length=(NS++y::R).length:=by simp
 rw[e2]at h4 ⊢;exact h4
theorem Tryz.infoB129:(Tryz.prog.info? 129).map (λi=>(i.zero,i.size,i.bytes))=some (some (.agg #[.string ByteArray.empty,ab 0,ab 0]),3,32):=by kernel_rfl
def xV (T:Am) (B m:Nat):Prop:=∀(p:Pt) (a rest:List Nat) (S:List GF) (w:World) (bd:Nat) (rv nv:Value) (NS:List Cw),Az T.zH [p] a S->S.length<=m->JQ T.N p->T.In w->B<=bd->B<=w.heap.size->Ht w bd T.tb B rv nv (a++rest) NS->NS.length+S.length<=1000000->
 Calls Tryz.prog 117 #[ac bd,.agg #[.bool (AW p),ab (AV p)]] w λe w'=>e=.returned (.tuple #[])/\∃rv' nv',Ht w' bd T.tb B rv' nv' rest (NS++S.map (PU T))/\Below B w w'
theorem uH  (hT:T.Ok) (B:Nat) (hB:T.Bd B):∀m,xV T B m:=by
 intro m
 induction m with
 |zero=>
  intro p a rest S w bd rv nv NS h hS;exfalso;cases h <;> simp at hS
 |succ m ih=>
 intro p a rest S w bd rv nv NS h hS hp hI hbd hBw hV hN;obtain⟨iN,Kl,Pr,Pu,Pv⟩:=iy Tryz.infoB129;have hbl:bd<w.heap.size:=ak hV.1;have hwn:∀g,nv.ownBlock=some g->g<w.heap.size/\g≠bd/\B<=g:=λg hg=>⟨D8 hV.2.2 hg,λe=>hV.ne (by rw[hg,e]),(hV.2.2.lt g hg).1⟩
 have hb1:Below B w (w.alloc (.cells #[.bool (AW p),ab (AV p)] 235)):=(ah B w).alloc hBw _;have hV1:Ht (w.alloc (.cells #[.bool (AW p),ab (AV p)] 235)) bd T.tb B rv nv (a++rest) NS:=hV.keeps ((A5.refl w []).alloc _) hBw (by simp) (by simp) (by simp);have Uh:T.In (w.alloc (.cells #[.bool (AW p),ab (AV p)] 235)):=hI.below hB hb1;obtain⟨bn,Bp⟩:=qE (AW p);obtain⟨np,hnp⟩:=qE (AV p);have Ks:=hV1.2.2;have Ku:(w.alloc (.cells #[.bool (AW p),ab (AV p)] 235)).cell? (af w.heap.size 0)=some (.bool (AW p))/\(w.alloc (.cells #[.bool (AW p),ab (AV p)] 235)).cell? (af w.heap.size 1)=some (ab (AV p)):=⟨BK w _ _ 0,BK w _ _ 1⟩;have Jk:Hid (∀W,Below B w W->T.In W):=hid λW hb=>hI.below hB hb
 have HSp:Hid (∀W,Below B w W->Calls Tryz.prog 173 #[.agg #[.slice T.yZ T.N.nT T.yT,ae T.gN T.N.nN T.yQ],.agg #[.bool bn,ab np]] W λe w'=>e=.returned (.string (J1 T p))/\Below W.heap.size W w'):=hid λW hb=>by
  rw[<-Bp,<-hnp];exact nO (hI.below hB hb) p hp
 have HP:Hid (Az T.zH [p] a S/\S.length<=m+1/\JQ T.N p/\NS.length+S.length<=1000000):=hid ⟨h,hS,hp,hN⟩;have HBN:Hid (AW p=bn/\AV p=np):=hid ⟨Bp,hnp⟩;rw[Bp,hnp]at hb1 hV1 Uh Ku Ks ⊢;clear Bp hnp h hS hp hI hV
 go_enter Tryz.func117,Tryz.ntmps117
 obtain⟨w1,hw1⟩:=qE (w.alloc (.cells #[.bool bn,ab np] 235));have hs1:w1.heap.size=w.heap.size+1:=by rw[<-hw1,bh]
 have Hs:=hid hw1;rw[hw1]at hb1 hV1 Uh Ku Ks;clear hw1;have c0:w1.cell? (af bd 0)=some (ac T.tb):=(A0 hV1.1).trans rfl;have c2:w1.cell? (af bd 2)=some nv:=(A0 hV1.1).trans rfl;obtain⟨d0,d1,_⟩:=Uh.tv.Cq;obtain⟨b0,b1⟩:=Ku;obtain⟨Xg,Xh,ajx,ajy⟩:=BV Ks;have zX:bd≠w.heap.size:=by omega
 subst ajx;obtain⟨k0,hk0⟩:=qE (NS.length);rw[hk0]at Ks c2 hwn ajy;have Cp:k0<=1000000:=by have:=HP.out.2.2.2;omega
 have Ig:=hid hV1;have Ua:=hid Ks;have zL:=hid hb1;have Jj:=hid hk0;clear hV1 Uh Ks hb1 hk0
 go_upto_region 1 with fail
 rw[Hs.out]
 go_upto_region 2 with fail
 have Sn:some bd≠(Value.slice Xg k0 Xh).ownBlock:=λe=>(hwn bd e.symm).2.1 rfl
 have Tp:some T.tb≠(Value.slice Xg k0 Xh).ownBlock:=λe=>by have h1:=(hwn _ e.symm).2.2;have h2:=hB.tb;omega
 have Xf:some w.heap.size≠(Value.slice Xg k0 Xh).ownBlock:=λe=>by have h1:=(hwn _ e.symm).1;omega
 have hlb:bd<w1.heap.size:=by omega
 have Ub:w.heap.size<w1.heap.size:=by omega
 have hlt:T.tb<w1.heap.size:=by have:=hB.tb;omega
 refine AH (λw'=>w'.cell? (af bd 0)=some (ac T.tb)/\w'.cell? (af bd 2)=some (.slice Xg k0 Xh)/\w'.cell? (af T.tb 0)=some (.slice T.yZ T.N.nT T.yT)/\w'.cell? (af T.tb 1)=some (ae T.gN T.N.nN T.yQ)/\w'.cell? (af w.heap.size 0)=some (.bool bn)/\w'.cell? (af w.heap.size 1)=some (ab np)) hmx yM ⟨c0,c2,d0,d1,b0,b1⟩ (λhH=>?_);simp only[AG,BP,AR];refine tB 0 hH ?_;refine tB 1 hH ?_;refine tB 2 hH ?_;refine tB 3 hH ?_;refine tB 4 hH ?_;refine tB 5 hH ?_;refine tB 6 hH ?_;refine tB 7 hH ?_;refine tB 8 hH ?_;refine tB 9 hH ?_;refine tB 10 hH ?_;refine tB 11 hH ?_;refine tB 12 hH ?_;refine tB 13 hH ?_;refine tL ?_;refine tS 14 λK hK=>?_
 refine tM ?_;rw[ay (by rfl)];go_simp;refine(HSp.out _ (zL.out.drew)).mono ?_;rintro e w6 ⟨rfl,zU⟩;refine hK.out _ _ ?_ λhH=>?_
 ·exact⟨(zU.cell (by exact hlb)).trans hH.1,(zU.cell (by exact hlb)).trans hH.2.1,(zU.cell (by exact hlt)).trans hH.2.2.1,(zU.cell (by exact hlt)).trans hH.2.2.2.1,(zU.cell (by exact Ub)).trans hH.2.2.2.2.1,(zU.cell (by exact Ub)).trans hH.2.2.2.2.2⟩
 clear hK K;refine tL ?_;have Wy:w1.heap.size<=w6.heap.size:=zU.size;have HN6:Hid (w6.ownsRow B 129 3 (.slice Xg k0 Xh) k0 (BT NS)):=hid (AC Ua.out (A5.zQ ((ah _ w1).drew.trans zU) []) (by simp));have Es:Hid (Below w1.heap.size w1 w6):=hid ((ah _ w1).drew.trans zU);refine tB 15 hH ?_;refine tL ?_;refine tS 16 λK hK=>?_
 refine tM ?_;go_simp;refine hK.out _ _ ?_ λhH=>?_
 ·exact⟨A6 _ hH.1,A6 _ hH.2.1,A6 _ hH.2.2.1,A6 _ hH.2.2.2.1,A6 _ hH.2.2.2.2.1,A6 _ hH.2.2.2.2.2⟩
 clear hK K;refine tL ?_;refine tS 17 λK hK=>?_
 refine tM ?_;rw[ay (by rfl)];refine mq _ (.tmp 18) (.tmp 30) 40 rfl B 129 iN (.agg #[.string ByteArray.empty,ab 0,ab 0]) 3 32 Tryz.underlying40 Kl Pr Pu Pv rfl (by decide) (.slice Xg k0 Xh) _ _ rfl (HN6.out.alloc _) (af w6.heap.size 0) 1 1 [.string (J1 T p),ab (-1),ab 0] rfl rfl (dn (fr:=(0,0)) (dz w6 _)) Gl (by omega) Bg (by omega) zG _ rfl ?_;intro g2 cap2 w7 hown hgrow hat Cu;refine hK.out _ _ ?_ λhH=>?_
 ·exact⟨(hgrow.cell_far _ zG (by exact Sn)).trans hH.1,(hgrow.cell_far _ zG (by exact Sn)).trans hH.2.1,(hgrow.cell_far _ zG Oz).trans hH.2.2.1,(hgrow.cell_far _ zG Oz).trans hH.2.2.2.1,(hgrow.cell_far _ zG (by exact Xf)).trans hH.2.2.2.2.1,(hgrow.cell_far _ zG (by exact Xf)).trans hH.2.2.2.2.2⟩
 clear hK K;refine tL ?_;refine tB 18 hH ?_;refine tB 19 hH ?_;refine tB 20 hH ?_;refine tL ?_;refine bq yM ?_ _;clear hH;have hV6:Ht w6 bd T.tb B rv (.slice Xg NS.length Xh) (a++rest) NS:=Ig.out.keeps (A5.zQ Es.out []) (by omega) (by simp) (by simp) (by simp);rw[Jj.out]at hV6;obtain⟨z1,z2,z3,z4⟩:=EY (j:=2) (W:=w6) ((A5.refl w6 []).alloc _) hV6.1 (by decide) HN6.out hown hgrow;have zc:=(A0 (j:=2) z1).trans rfl;have zf:=A7 (j:=2) z1;have zS:∀q∈bd::(Value.slice Xg k0 Xh).ownBlock.toList,B<=q/\q<w6.heap.size/\q≠w.heap.size:=λq hq=>by
  rcases bk.1 hq with e |e
  ·omega
  ·have h1:=hwn q Ee;exact⟨h1.2.2,by omega,by omega⟩
 have hbB:B<=w6.heap.size:=by omega
 have hB8:Below B w (w7.setCell (af bd 2) (ae g2 (k0+1) cap2)):=(zL.out.trans (Es.out.mono (by omega))).trans (z4.below hbB (λq hq=>(zS q hq).1));have hV8:Ht (w7.setCell (af bd 2) (ae g2 (k0+1) cap2)) bd T.tb B rv (ae g2 (k0+1) cap2) (a++rest) (NS++ [(J1 T p,-1,0)]):=⟨z2,hV6.2.1.below (z4.below hbB (λq hq=>(zS q hq).1)),by
  rw[GY,LY,lA,Jj.out];exact z3⟩
 have hx8:(w7.setCell (af bd 2) (ae g2 (k0+1) cap2)).cell? (af w.heap.size 0)=some (.bool bn)/\(w7.setCell (af bd 2) (ae g2 (k0+1) cap2)).cell? (af w.heap.size 1)=some (ab np):=
  ⟨(z4.cell (by show w.heap.size<w6.heap.size;omega) (λhm=>(zS _ hm).2.2 rfl)).trans ((Es.out.cell (by exact Ub)).trans b0),(z4.cell (by show w.heap.size<w6.heap.size;omega) (λhm=>(zS _ hm).2.2 rfl)).trans ((Es.out.cell (by exact Ub)).trans b1)⟩
 have H8:=hid (And.intro hB8 (And.intro hV8 hx8));clear z1 z2 z3 z4 zS hB8 hV8 hx8 hV6 hown hgrow hat Cu hH Sn Tp Xf c0 c2 d0 d1 b0 b1;show wpList _ _ _ _ _ _
 go_upto_region 3 with fail
 obtain⟨W8,Oe⟩:=qE (w7.setCell (af bd 2) (ae g2 (k0+1) cap2));rw[Oe]at H8 ⊢;clear Oe zc zf HN6 Es;cases p with
 |tok t=>
  obtain⟨rfl,rfl⟩:false=bn/\t=np:=HBN.out;obtain⟨rfl,rfl⟩:=HP.out.1.aju;obtain⟨q1,q2,q3⟩:=H8.out.2.1;obtain⟨Uw,Ia,rfl,Jl,Zi⟩:=q2;obtain⟨gr,aad,rfl,hgr,hrc⟩:=Zi (by simp);have hx0:=H8.out.2.2.1;have m1:W8.cell? (af bd 1)=some (.slice (some (af gr aad)) ([t]++rest).length Ia):=(A0 q1).trans rfl;have mf:=A7 (j:=1) q1;obtain⟨lr,hlr⟩:=qE (rest.length);rw[show([t]++rest).length=lr+1 by simp;omega]at m1 Jl;clear Zi
  go_upto_region 12 with fail
  have Dp:=Em.tail (w:=W8) (B:=B) (n:=lr) (cap:=Ia) hlr Jl hgr hrc;obtain⟨AD,agW⟩:=qE ((if Ia=1 then some ((af gr aad):Addr)else some (af gr (aad+1))));rw[agW]at Dp ⊢;clear agW;have Ek:A5 W8 (W8.setCell (af bd 1) (.slice AD lr (Ia - 1))) [bd]:=(A5.refl _ [bd]).setCell (by simp) _;have Ob:B<=W8.heap.size:=zV hBw H8.out.1.size;have aeG:=Ek.below Ob (λq hq=>by rw[mS.1 hq];exact hbd);have Ux:Ht (W8.setCell (af bd 1) (.slice AD lr (Ia - 1))) bd T.tb B (.slice AD lr (Ia - 1)) (ae g2 (k0+1) cap2) rest (NS++ [(J1 T (.tok t),-1,0)]):=
   ⟨AA q1 _,Dp.below aeG,AC q3 Ek (λg hg hm=>by
    have hm:=mS.1 hm;subst hm;exact H8.out.2.1.ne hg)⟩
  have aeH:=hid (H8.out.1.trans aeG);obtain⟨W9,Jm⟩:=qE (W8.setCell (af bd 1) (.slice AD lr (Ia - 1)));rw[Jm]at Ux aeH ⊢;have e9:W9.cell? (af bd 2)=some (ae g2 (k0+1) cap2):=(A0 Ux.1).trans rfl;have Kv:W9.ownsRow B 129 3 (ae g2 (k0+1) cap2) (k0+1) (BT (NS++ [(J1 T (.tok t),-1,0)])):=by
   have h9:=Ux.2.2;rw[lA,Jj.out]at h9;exact h9
  have f9:W9.cell? (af g2 (k0*3+2))=some (ab (0:Nat)):=by
   rw[Kv.cellAt (k0*3+2) (by omega)];have:=(L8 NS [] (J1 T (.tok t),-1,0)).2.2;rw[Jj.out]at this;exact this
  have u9:=Kv.frozenAt (k0*3+2);have hc2:k0+1<=cap2:=by
   obtain⟨_,_,e1,e2⟩:=BV Kv;injection e1 with _ _ e3
   omega
  have alX:=hid Kv;clear Kv;have HV9:=hid Ux;clear Ux Jm Ek aeG Dp q1 q3 m1 mf hrc hx0 H8;have ac7:((k0:Int)< (k0:Int)+1):=by omega
  refine AH (λw'=>w'.cell? (af bd 2)=some (ae g2 (k0+1) cap2)) hmx yM e9 (λhH=>?_);simp only[AG,BP,AR];refine tB 0 hH ?_;refine tB 1 hH ?_;refine tB 2 hH ?_;refine tB 3 hH ?_;refine tB 4 hH ?_;refine tB 5 hH ?_;refine tB 6 hH ?_;refine tB 7 hH ?_;refine tB 8 hH ?_;refine tB 9 hH ?_;refine tB 10 hH ?_;refine tB 11 hH ?_;refine tB 12 hH ?_;refine tB 13 hH ?_;refine tB 14 hH ?_;refine tL ?_;refine bq yM ?_ _;clear hH;show wpList _ _ _ _ _ _;go_wp2;rw[show((k0:Int)+1 - (k0:Int))=((1:Nat):Int) by omega];obtain⟨y1,y2⟩:=HV9.out.put (J1 T (.tok t),-1,1) 2 (by omega) (ab (1:Nat)) rfl (by have:=aeH.out.size;omega);rw[Jj.out]at y1 y2;exact⟨rfl,_,qz rfl _ _ _,rfl,_,_,y1.drew,(aeH.out.trans y2).drew⟩
 |zi n=>
  obtain⟨rfl,rfl⟩:true=bn/\n=np:=HBN.out;obtain⟨k,ajz,a',S1,aeI,ha,htr,hSe⟩:=HP.out.1.ajv hT.led;obtain⟨zT,hkT,nm,hnm,hRk,hrhs⟩:=hT.rl n k _ aeI;obtain⟨Ob,aeJ⟩:=hT.len n k _ aeI;obtain⟨rhs,agX⟩:=qF (Pt.tok k::ajz);rw[<-agX]at htr hrhs Ob aeJ;have Dx:T.N.nT<=20:=(Jk.out w (ah _ _)).fc.gr.Ch;have Zl:Hid (∀W,Below B w W->Calls Tryz.prog 174 #[ac T.tb,ab n,ab k] W λe w'=>∃v,e=.returned (.tuple #[v,ab k])/\D1 W T.n0 v rhs/\W=w'):=hid λW hb=>
   aQ (Jk.out W hb).fc.gr (Jk.out W hb).tv n k k (by omega) nm rhs hnm zT hRk hrhs
  obtain⟨q1,q2,q3⟩:=H8.out.2.1;obtain⟨Uw,Ia,rfl,Jl,Zi⟩:=q2;subst ha;obtain⟨gr,aad,rfl,hgr,hrc⟩:=Zi (by simp);have c0:W8.cell? (af bd 0)=some (ac T.tb):=(A0 q1).trans rfl;have c1:W8.cell? (af bd 1)=some (.slice (some (af gr aad)) (k::a'++rest).length Ia):=(A0 q1).trans rfl;have c2:W8.cell? (af bd 2)=some (ae g2 (k0+1) cap2):=(A0 q1).trans rfl;have cr:=hrc 0 k (by simp);rw[qj]at cr;obtain⟨lr,hlr⟩:=qE ((k::a'++rest).length);have alY:0<lr:=by rw[<-hlr];simp
  rw[hlr]at c1 Jl;have hx0:=H8.out.2.2.1;have hx1:=H8.out.2.2.2;have H9:=hid (And.intro htr (And.intro hSe (And.intro Ob (And.intro aeJ hlr))));clear aeI htr hnm hRk hrhs Ob aeJ agX Zi hrc q1 q3 hSe hlr hkT
  go_upto_region 4 with fail
  refine dy (S:=λw'=>w'.cell? (af bd 0)=some (ac T.tb)/\w'.cell? (af bd 1)=some (.slice (some (af gr aad)) lr Ia)/\w'.cell? (af gr aad)=some (ab k)/\w'.cell? (af w.heap.size 1)=some (ab n)) yM ⟨c0,c1,cr,hx1⟩ (λhH=>?_);refine tB 0 hH ?_;refine tB 1 hH ?_;refine tB 2 hH ?_;refine tB 3 hH ?_;refine tB 4 hH ?_;refine tB 5 hH ?_;refine tB 6 hH ?_;refine tB 7 hH ?_;refine tB 8 hH ?_;refine tB 9 hH ?_;refine tB 10 hH ?_;refine tB 11 hH ?_;refine tL ?_;refine tS 12 λK hK=>?_
  refine tM ?_
  go_simp;refine(Zl.out _ (H8.out.1.drew)).mono ?_;rintro e w9 ⟨pv,rfl,Po,rfl⟩;try dsimp only
  refine hK.out _ _ ?_ λhH=>?_
  ·exact hH
  clear hK K;refine tB 13 hH ?_;refine tB 14 hH ?_;refine tB 15 hH ?_;refine tB 16 hH ?_;refine tB 17 hH ?_;refine tL ?_;refine bq yM ?_ _;clear hH;have Xi:W8.ownsRow B 129 3 (ae g2 (k0+1) cap2) (k0+1) (BT (NS++ [(J1 T (.zi n),-1,0)])):=by
   have h9:=H8.out.2.1.2.2;rw[lA,Jj.out]at h9;exact h9
  have f8:W8.cell? (af g2 (k0*3+1))=some (ab (-1)):=by
   rw[Xi.cellAt (k0*3+1) (by omega)];have:=(L8 NS [] (J1 T (.zi n),-1,0)).2.1;rw[Jj.out]at this;exact this
  have u8:=Xi.frozenAt (k0*3+1);have ac7:((k0:Int)< (k0:Int)+1):=by omega
  have Ro:Hid (D1 W8 T.n0 pv rhs):=hid Po;obtain⟨adp,ajA,rfl,hcp,hpp⟩:=Po;clear Xi
  go_upto_region 6 with fail
  obtain⟨y1,y2⟩:=H8.out.2.1.put (J1 T (.zi n),k,0) 1 (by omega) (ab k) rfl (by have:=H8.out.1.size;omega);rw[Jj.out]at y1 y2;have Xj:=hid y1.drew;have Ss:=hid ((H8.out.1.trans y2).drew);have agY:=hid (Ro.out.below (y2.mono hB.n0).drew);clear y1 y2 f8 u8 c0 c1 c2 cr hx0 hx1 ac7;obtain⟨Su,aae⟩:=qE ((W8.setCell (af g2 (k0*3+1)) (ab k)).drew);rw[aae]at Xj Ss agY ⊢;clear aae;obtain⟨nr,Kg⟩:=qF (rhs.length);rw[<-Kg]at hcp hpp ⊢;have alZ:nr<=8:=by rw[Kg];exact H9.out.2.2.1
  have Jd:=hid Kg;clear hpp Kg Ro;go_wp2
  go_loopw [62] (λq wr=>∃(j:Nat) (aj:List Nat) (Sj D:List GF) (Uy nvj:Value),j<=nr/\q=ab j/\Hid (Az T.zH (rhs.drop j) aj Sj)/\Hid (S1=D++Sj)/\Hid (Ht wr bd T.tb B Uy nvj (aj++rest) (NS++(J1 T (.zi n),(k:Int),0)::D.map (PU T)))/\Hid (Below B Su wr)) (λq _=>nr - (intOf q).toNat)
  case atStart=>exact⟨0,k::a',S1,[],_,_,dh _,rfl,hid H9.out.1,hid rfl,hid Xj.out,hid (ah _ _)⟩
  case round=>
   obtain⟨j,aj,Sj,D,Uy,nvj,hj,rfl,htj,hSj,hVj,Mb⟩:=hrel
   by_cases hlt:j<nr
   ·obtain⟨p1,Dn⟩:∃p1,rhs[j]?=some p1:=⟨_,gE (by rw[<-Jd.out];exact hlt)⟩
    have hdr:rhs.drop j=p1::rhs.drop (j+1):=by
     obtain⟨h1,h2⟩:=zM.1 Dn;rw[gm h1,h2]
    have aeK:=htj.out;rw[hdr]at aeK;obtain⟨a1,a2,S2,S3,ea,eS,Gq,Jc⟩:=aeK.cons;have Dc:JQ T.N p1:=H9.out.2.2.2.1.at Dn;obtain⟨ad3,Cf,e3,hc3,Fw⟩:=agY.out.below (Mb.out.mono hB.n0);rw[<-Jd.out]at Fw;obtain⟨gp,op,e4,Qe,Mz⟩:=Fw (by omega);obtain⟨rfl,rfl⟩:adp=ad3/\ajA=Cf:=by simpa using e3
    clear e3;subst e4;obtain⟨u0,u1⟩:=Mz j p1 Dn;have Ga:B<=wr.heap.size:=by have h1:=Ss.out.size;have h2:=Mb.out.size;omega
    have hka:A5 wr (wr.alloc (.cells #[.bool (AW p1),ab (AV p1)] 235)) []:=(A5.refl wr []).alloc _;have hVa:=hVj.out.keeps hka Ga (by simp) (by simp) (by simp);rw[ea,aA]at hVa;have hlS:S1.length+1<=m+1/\NS.length+(S1.length+1)<=1000000:=by
     have h1:=HP.out.2.1;have h2:=HP.out.2.2.2;rw[H9.out.2.1,lC]at h1 h2;exact⟨h1,h2⟩
    have hlD:S1.length=D.length+(S2.length+S3.length):=by rw[hSj.out,eS];simp
    have hba:Below B wr (wr.alloc (.cells #[.bool (AW p1),ab (AV p1)] 235)):=(ah B wr).alloc Ga _;have HC:=hid (ih p1 a1 (a2++rest) S2 _ bd _ _ _ Gq (by omega) Dc (Jk.out _ ((Ss.out.trans Mb.out).trans hba)) hbd Kk hVa zG);have HX:=hid (And.intro Jc (And.intro eS (Mb.out.trans hba)));obtain⟨b1,hb1⟩:=qE (AW p1);obtain⟨m1,hm1⟩:=qE (AV p1);rw[hb1]at u0 HC HX;rw[hm1]at u1 HC HX;clear hdr aeK Gq Jc hVa hka hba Fw Mz hb1 hm1 hc3 ea eS Dc
    go_wp2_with (go_at_call 117;refine HC.out.mono ?_;rintro e w5 ⟨rfl,rv5,nv5,hV5,zP⟩;have H5:=hid (And.intro hV5 zP);clear hV5 zP)
    go_roundw
    case rel=>exact⟨j+1,a2,S3,D++S2,rv5,nv5,by omega,by go_num,hid HX.out.1,hid (by rw[hSj.out,HX.out.2.1,aA]),hid (by
     have h1:=H5.out.1;rw[fq,<-iw,<-aA];exact h1),hid (HX.out.2.2.trans H5.out.2)⟩
    case measure=>simp[intOf];omega
   ·have hnj:nr<=j:=by omega
    have aeL:=htj.out;rw[qu (by rw[<-Jd.out];exact hnj)]at aeL;obtain⟨rfl,rfl⟩:=aeL.ajw;have hDS:D=S1:=by have:=hSj.out;simpa using this.symm
    subst hDS;have hV:=hVj.out;rw[ey]at hV;obtain⟨g9,Ll,rfl,ajB,ajC,Rq⟩:=B4 hV.2.2 zG;obtain⟨n9,hn9⟩:=qE ((NS++(J1 T (.zi n),(k:Int),0)::D.map (PU T)).length);have abZ:n9=k0+1+D.length:=by rw[<-hn9,<-Jj.out];simp;omega
    have Kv:=hV.2.2;rw[hn9]at Kv hV Rq;have e9:wr.cell? (af bd 2)=some (ae g9 n9 Ll):=(A0 hV.1).trans rfl;have f9:wr.cell? (af g9 (k0*3+2))=some (ab (0:Nat)):=by
     rw[Kv.cellAt (k0*3+2) (by omega)];have:=(L8 NS (D.map (PU T)) (J1 T (.zi n),(k:Int),0)).2.2;rw[Jj.out]at this;exact this
    have u9:=Kv.frozenAt (k0*3+2);have hD6:D.length<=1000000:=by
     have h1:=HP.out.2.2.2;rw[H9.out.2.1,lC]at h1;omega
    have HV9:=hid hV;have ac7:((k0:Int)< (n9:Int)):=by omega
    have HN9:=hid abZ;have ajD:n9<=2000001:=by omega
    have HNj:=hid hnj;clear hVj hV Kv hn9 abZ htj aeL hSj
    go_upto_region 12 with fail
    refine AH (λw'=>w'.cell? (af bd 2)=some (ae g9 n9 Ll)) hmx yM e9 (λhH=>?_);simp only[AG,BP,AR];refine tB 0 hH ?_;refine tB 1 hH ?_;refine tB 2 hH ?_;refine tB 3 hH ?_;refine tB 4 hH ?_;refine tB 5 hH ?_;refine tB 6 hH ?_;refine tB 7 hH ?_;refine tB 8 hH ?_;refine tB 9 hH ?_;refine tB 10 hH ?_;refine tB 11 hH ?_;refine tB 12 hH ?_;refine tB 13 hH ?_;refine tB 14 hH ?_;refine tL ?_;refine bq yM ?_ _;clear hH;show wpList _ _ _ _ _ _;go_wp2;rw[show((n9:Int) - (k0:Int))=((D.length+1:Nat):Int) by have:=HN9.out;omega];obtain⟨y1,y2⟩:=HV9.out.put (J1 T (.zi n),(k:Int),D.length+1) 2 (by omega) (ab (D.length+1:Nat)) rfl (by have h1:=Ss.out.size;have h2:=Mb.out.size;omega);rw[Jj.out]at y1 y2;refine⟨rfl,_,qz rfl _ _ _,rfl,Uy,ae g9 n9 Ll,by
     rw[H9.out.2.1,jx];exact y1.drew,((Ss.out.trans Mb.out).trans y2).drew⟩
section
theorem Tryz.infoX3:(Tryz.prog.info? 3).map (λi=>(i.zero,i.size,i.bytes))=some (some (ab 0),1,8):=by kernel_rfl
def DJ (l:List Nat):List Value:=l.map fun(x:Nat)=>ab (x:Int)
theorem TG (l:List Nat):(DJ l).length=l.length:=by unfold DJ;simp
theorem MQ  (h:l[i]?=some x):(DJ l)[i]?=some (ab x):=by unfold DJ;rw[gM,h];rfl
theorem GW (a b:List Nat):DJ (a++b)=DJ a++DJ b:=by unfold DJ;rw[fq]
def xA (w:World) (B:Nat) (v:Value) (l:List Nat):Prop:=Em w B v l/\(l=[]->v=.slice none 0 0)
def DQ (w:World) (B:Nat) (v:Value) (l:List Nat):Prop:=w.ownsRow B 3 1 v l.length (DJ l)
theorem DQ.row  (h:DQ w B v l) {B':Nat} (hB:∀g,v.ownBlock=some g->g<B'):Em w B' v l:=by
 obtain⟨ad,cap,e,hc⟩:=BV h;refine⟨ad,cap,e,hc,λh0=>?_⟩;obtain⟨g,cap',e2,Bw,hg2,hg3⟩:=B4 h h0;rw[e]at e2;injection e2 with e3 _ e4
 subst e3;subst e;refine⟨g,0,rfl,hB g rfl,λi x hx=>?_⟩;have hi:=(zM.1 hx).1;have h1:=qq h i (by omega);rw[ju];exact h1.trans (MQ hx)
theorem DQ.at  (h:DQ w B (ae g n cap) l)  (hx:l[i]?=some x):w.cell? (af g i)=some (ab x):=by
 obtain⟨ad,cap',e,hc⟩:=BV h;have e2:n=l.length:=by injection e
 subst e2;exact(qq h i (by have:=(zM.1 hx).1;omega)).trans (MQ hx)
theorem kW (w:World) (B:Nat) (hBw:B<=w.heap.size) (v:Value) (l:List Nat) (h:xA w B v l) (hl:l.length<=100000):
  Calls Tryz.prog 114 #[v] w λe w'=>∃v',e=.returned v'/\DQ w' w.heap.size v' l/\Below w.heap.size w w':=by
 obtain⟨i0,hi,hz0,hz1,hz2⟩:=iy Tryz.infoX3;have qT:∀(w:World) (a:Option Addr) (n c n' c':Nat),(binOp .eql 45 (.slice a n c) (.slice none n' c')).run Tryz.prog w=.ok (.bool a.isNone) w:=λw a n c n' c'=>Lib.run_eql_slice_nil w _ _ a n c n' c' Tryz.underlying45
 by_cases h0:l=[]
 ·obtain rfl:=h.2 h0
  subst h0;clear h
  go_enter Tryz.func114,Tryz.ntmps114
  go_wp2;go_ret;exact⟨.slice none 0 0,rfl,jg _ _ _ _,ah _ _⟩
 ·have hp:0<l.length:=List.length_pos_iff.2 h0
  obtain⟨⟨ad,cap,rfl,hc,hg⟩,_⟩:=h;obtain⟨g,off,rfl,hgB,hcs⟩:=hg hp;have abu:(w.alloc (.cells #[] 3)).ownsRow w.heap.size 3 1 (ae w.heap.size 0 0) 0 []:=World.ownsRow_made w #[] 0 (zn _) Bg rfl;have hnews:∀(j:Nat) (u:Value),(DJ l)[j]?=some u->(w.alloc (.cells #[] 3)).cell? (((af g off):Addr).add j)=some u:=λj u hu=>by
   have hj:=(zM.1 hu).1;rw[TG]at hj;have h1:=MQ (gE hj);rw[hu]at h1;injection h1 with h1
   subst h1;have h2:((af g off):Addr).add j=(af g (off+j)):=by simp[Addr.add]
   rw[h2];exact(((ah w.heap.size w).alloc (zn _) _).cell Jt).trans (hcs j _ (gE hj))
  have ad6:=hid hnews;have abv:=hid abu;obtain⟨n,hn⟩:=qF (l.length);rw[<-hn]at hc hp hl ⊢;have HN:Hid (n=l.length):=hid hn;clear hnews abu hcs hg hn h0
  go_enter Tryz.func114,Tryz.ntmps114
  go_wp2_with (first
   | (at_builtin;refine yD _ rfl _ _ 45 rfl w.heap.size 3 i0 (.int .i64 0) 1 8 Tryz.underlying45 hi hz0 hz1 hz2 rfl (by decide) _ _ _ rfl abv.out ⟨g,off,none⟩ n cap (DJ l) rfl (by rw[TG,yG];exact HN.out.symm) ad6.out (λu hu=>by unfold DJ at hu;obtain⟨x,_,rfl⟩:=dm.1 hu;rfl) Bg (by omega) (by simp) ?_;intro v' w1 hown' hgrow _))
  rw[ju]at hown';have HB:Hid (Below w.heap.size w w1):=hid (((ah w.heap.size w).alloc (zn _) _).grown hgrow (by simp) (λq hq=>(abv.out.lt q hq).1));rw[HN.out]at hown';have HO:Hid (DQ w1 w.heap.size v' l):=hid hown';clear hown' hgrow;go_ret;exact⟨_,rfl,HO.out,HB.out⟩
section
variable {T:Am} (hT:T.Ok)
include hT
theorem dX  (ht:t<T.N.nT) (hL:BE T.N L) (hx:x<=939000000):
  (DH T.zH L t=none/\(D2 T.zH T.N.nT t L x).1=false)\/∃s,DH T.zH L t=some s/\(D2 T.zH T.N.nT t L x).1=true/\(D2 T.zH T.N.nT t L x).2.1=s/\(D2 T.zH T.N.nT t L x).2.2<=x+2/\s.length<=L.length+7/\BE T.N s:=by
 match L with
 | []=>exact .inl ⟨rfl,by simp[D2];omega⟩
 | .tok u::s=>
  by_cases e:u=t
  ·subst e
   exact .inr ⟨s,by simp[DH],by simp[D2],rfl,by simp only[D2,DR];omega,by simp;omega,hL.tail⟩
  ·exact .inl ⟨by simp[DH,e],by simp[D2,e]⟩
 | .zi n::s=>
  cases h:T.zH n t with
  |none=>exact .inl ⟨by simp[DH,h],by simp[D2,h]⟩
  |some rhs=>
   have h1:=hT.len n t rhs h;have h3:BE T.N rhs.tail:=by
    cases rhs with
    |nil=>exact h1.2
    |cons p ps=>exact h1.2.tail
   refine .inr ⟨rhs.tail++s,by simp[DH,h],by simp[D2,h],by simp[D2,h],?_,?_,h3.append hL.tail⟩
   ·simp only[D2,h,DR];omega
   ·have:=h1.1;simp;omega
theorem mC  (hL:BE T.N L):(L=[]/\D2 T.zH T.N.nT T.N.nT L x=(true,[],x))\/(L≠ []/\(D2 T.zH T.N.nT T.N.nT L x).1=false):=by
 match L with
 | []=>exact .inl ⟨rfl,by simp[D2]⟩
 | .tok u::s=>
  have h1:u<T.N.nT:=hL.2 u (ew ..);exact .inr ⟨by simp,by simp[D2];omega⟩
 | .zi n::s=>
  cases h:T.zH n T.N.nT with
  |none=>exact .inr ⟨by simp,by simp[D2,h]⟩
  |some rhs=>have:=(hT.rl _ _ _ h).2.1;omega
end
def S6 (T:Am) (l:List Nat) (i:Nat):Prop:=∃L,D4 T.zH [.zi 0] (l.take i)=some L/\((i<l.length/\D4 T.zH [.zi 0] (l.take (i+1))=none)\/(i=l.length/\L≠ []))
theorem pG {L0:List Pt} (h:D4 zH L0 (l.take i)=some L) (ht:l[i]?=some t):D4 zH L0 (l.take (i+1))=DH zH L t:=by
 obtain⟨hi,e⟩:=zM.1 ht;rw[iq hi,e,JA,h];show(DH zH L t).bind _=_;cases DH zH L t <;> rfl
def aF (T:Am) (l:List Nat) (i:Nat) (L:List Pt):Prop:=(i<=l.length/\D4 T.zH [.zi 0] (l.take i)=some L)\/(i=l.length+1/\L=[]/\D4 T.zH [.zi 0] l=some [])
theorem nG  (hT:T.Ok)  (hl:∀y∈l,y<T.N.nT) (hp:aF T l i L) (hi:i<l.length+1) (hL:BE T.N L) (hx:x<=939000000) (ht:(l++ [T.N.nT])[i]?=some t):
  ((D2 T.zH T.N.nT t L x).1=false/\S6 T l i)\/((D2 T.zH T.N.nT t L x).1=true/\aF T l (i+1) (D2 T.zH T.N.nT t L x).2.1/\(D2 T.zH T.N.nT t L x).2.2<=x+2/\(D2 T.zH T.N.nT t L x).2.1.length<=L.length+7/\BE T.N (D2 T.zH T.N.nT t L x).2.1):=by
 rcases hp with⟨_,hp⟩ | ⟨h,_⟩
 ·rcases jz i l.length with h |h
  ·rw[aL h]at ht
   have Dh:=hl t (mG ht);have h2:=pG hp ht
   rcases dX hT Dh hL hx with⟨h3,h4⟩ | ⟨s,h3,h4,h5,h6,h7,h8⟩
   ·exact .inl ⟨h4,L,hp,.inl ⟨h,h2.trans h3⟩⟩
   ·exact .inr ⟨h4,by rw[h5];exact .inl ⟨h,h2.trans h3⟩,h6,by rw[h5];exact h7,by rw[h5];exact h8⟩
  ·obtain rfl:i=l.length:=by omega
   have e:t=T.N.nT:=by
    rw[Bc (zn _),ku]at ht;simpa using ht.symm
   subst e;rw[om]at hp
   rcases mC hT hL (x:=x)with⟨h3,h4⟩ | ⟨h3,h4⟩
   ·subst h3
    rw[h4];exact .inr ⟨rfl,.inr ⟨rfl,rfl,hp⟩,by simp,by simp,hL⟩
   ·exact .inl ⟨h4,L,by rw[om];exact hp,.inr ⟨rfl,h3⟩⟩
 ·omega
def VJ:List Pt->Nat
 | .tok _::_=>1
 |_=>0
theorem Az.small  (hl:Wr zH) {ps:List Pt}{b:List Nat} (h:Az zH ps b S):S.length+VJ ps<=2*b.length:=by
 induction h with
 |nil=>simp[VJ]
 |tok _ ih=>simp only[VJ,lC];omega
 | @zi n k rhs ps a b S U hk h1 h2 ih1 ih2=>
  obtain⟨rest,e⟩:=hl _ _ _ hk;subst e;simp only[VJ,lC,lA]at ih1 ⊢;omega
end
end Go.Proofs.YtjjggdcnpndgjaaGreatDoor
