import Derived.Test.YtjjggdcnpndgjabGreatDoorJ26
set_option linter.unusedSimpArgs false
set_option maxHeartbeats 8000000
set_option maxRecDepth 100000
namespace Go.Proofs.YtjjggdcnpndgjabGreatDoor
open Go.RowKit Go.Shelf
variable {B bd cap g i n t tb x:Nat}{L:List Pt}{S:List IM}{T:Tab}{a l:List Nat}{nv rv v:Value}{rul:Nat->Nat->Option (List Pt)}{w:World}
abbrev NdV:=ByteArray × Int × Nat
def BR (l:List NdV):List Value:=l.flatMap fun a=>[.string a.1,ab a.2.1,ab a.2.2]
theorem GH (L:List NdV):(BR L).length=L.length*3:=by
 unfold BR
 induction L with
 |nil=>rfl
 |cons a r ih=>rw[List.flatMap_cons,lA,ih];simp;omega
theorem IC (a b:List NdV):BR (a++b)=BR a++BR b:=by unfold BR;rw[List.flatMap_append]
theorem NV (p:NdV):BR [p]=[.string p.1,ab p.2.1,ab p.2.2]:=rfl
theorem eE (a b:List NdV) (p q:NdV) (j:Nat) (u:Value) (h:[Value.string q.1,ab q.2.1,ab q.2.2]=[Value.string p.1,ab p.2.1,ab p.2.2].set j u) (hj:j<3):
  (BR (a++p::b)).set (a.length*3+j) u=BR (a++q::b):=by
 have e:∀x:NdV,BR (a++x::b)=BR a++([Value.string x.1,ab x.2.1,ab x.2.2]++BR b):=fun x=>by
  rw[IC,show x::b=[x]++b from rfl,IC,NV]
 rw[e p,e q,List.set_append_right _ _ (by rw[GH];omega),GH,show a.length*3+j - a.length*3=j by omega,List.set_append_left _ _ (by simpa using hj),h]
theorem PV (a b:List NdV) (p:NdV):(BR (a++p::b))[a.length*3]?=some (.string p.1)/\(BR (a++p::b))[a.length*3+1]?=some (ab p.2.1)/\(BR (a++p::b))[a.length*3+2]?=some (ab p.2.2):=by
 have e:BR (a++p::b)=BR a++([Value.string p.1,ab p.2.1,ab p.2.2]++BR b):=by
  rw[IC,show p::b=[p]++b from rfl,IC,NV]
 rw[e];refine⟨?_,?_,?_⟩
 ·rw[aR_ (by rw[GH];omega),GH,Nat.sub_self];rfl
 ·rw[aR_ (by rw[GH];omega),GH,show a.length*3+1 - a.length*3=1 by omega];rfl
 ·rw[aR_ (by rw[GH];omega),GH,show a.length*3+2 - a.length*3=2 by omega];rfl
def IJ (T:Tab):Pt->ByteArray
 | .tok t=>nth T.tws t
 | .nam n=>(T.pg.getD n (ByteArray.empty,[])).1
def N4 (T:Tab) (nd:IM):NdV:=(IJ T nd.part,nd.rule,nd.size)
theorem kP  (hI:T.In w) (p:Pt) (hp:J8 T.N p):
  Calls Tryz.prog 57 #[.agg #[.slice T.adT T.N.nT T.capT,ae T.gN T.N.nN T.capN],.agg #[.bool (AQ p),ab (AP p)]] w fun e w'=>e=.returned (.string (IJ T p))/\Below w.heap.size w w':=by
 cases p with
 |tok t=>exact l8 hI.fc.gr hI.fc.ln t hp
 |nam n=>
  have hn:n<T.pg.length:=by rw[hI.fc.gr.pgl];exact hp
  have h:=oF hI.fc.gr hI.fc.ln n _ (gE hn) hp;have e:IJ T (.nam n)=T.pg[n].1:=by unfold IJ;simp[hn]
  rw[e];exact h
theorem TrL.cons {p:Pt}{ps:List Pt} (h:TrL rul (p::ps) a S):∃a1 a2 S1 S2,a=a1++a2/\S=S1++S2/\TrL rul [p] a1 S1/\TrL rul ps a2 S2:=by
 cases h with
 | @tok t _ r T h=>exact⟨[t],r,[⟨.tok t,-1,1⟩],T,rfl,rfl,.tok .nil,h⟩
 | @nam n k rhs _ x y S1 S2 hk h1 h2=>
  refine⟨x,y,⟨.nam n,k,S1.length+1⟩::S1,S2,rfl,rfl,?_,h2⟩;have:=TrL.nam hk h1 (.nil (rul:=rul));simpa using this
theorem TrL.tok_inv  (h:TrL rul [.tok t] a S):a=[t]/\S=[⟨.tok t,-1,1⟩]:=by
 cases h with
 |tok h=>cases h;exact⟨rfl,rfl⟩
theorem TrL.nam_inv  (hl:Led rul)  (h:TrL rul [.nam n] a S):∃k rest a' S1,rul n k=some (.tok k::rest)/\a=k::a'/\TrL rul (.tok k::rest) a S1/\S=⟨.nam n,k,S1.length+1⟩::S1:=by
 cases h with
 | @nam n k rhs ps x y S1 S2 hk h1 h2=>
  cases h2;obtain⟨rest,e⟩:=hl _ _ _ hk;subst e;rw[List.append_nil,List.append_nil];cases h1 with
  | @tok t ps r T h0=>exact⟨k,rest,r,_,hk,rfl,.tok h0,rfl⟩
theorem TrL.nil_inv  (h:TrL rul [] a S):a=[]/\S=[]:=by
 cases h;exact⟨rfl,rfl⟩
theorem DE {e sz:Nat}{xs:List Value} (h:w.ownsRow B e sz v n xs):∃ad cap,v=.slice ad n cap/\n<=cap:=by
 rcases h.2 with⟨rfl,rfl⟩ | ⟨g,cap,cur,rfl,_,_,h1,_⟩
 ·exact⟨none,0,rfl,by omega⟩
 ·exact⟨_,_,rfl,h1⟩
def RwV (w:World) (B:Nat) (v:Value) (l:List Nat):Prop:=∃ad cap,v=.slice ad l.length cap/\l.length<=cap/\(0<l.length->∃g off,ad=some (af g off)/\g<B/\∀i x:Nat,l[i]?=some x->w.cell? (af g (off+i))=some (ab x))
theorem RwV.below {w':World} (h:RwV w B v l) (hb:Below B w w'):RwV w' B v l:=by
 obtain⟨ad,cap,h1,h2,h3⟩:=h;refine⟨ad,cap,h1,h2,fun h0=>?_⟩;obtain⟨g,off,h4,h5,h6⟩:=h3 h0;exact⟨g,off,h4,h5,fun i x hx=>(hb.cell y42Z).trans (h6 i x hx)⟩
theorem RwV.mono {B':Nat} (h:RwV w B v l) (hb:B<=B'):RwV w B' v l:=by
 obtain⟨ad,cap,h1,h2,h3⟩:=h;refine⟨ad,cap,h1,h2,fun h0=>?_⟩;obtain⟨g,off,h4,h5,h6⟩:=h3 h0;exact⟨g,off,h4,by omega,h6⟩
theorem RwV.tail {off:Nat} (hl:l.length=n) (hc:n+1<=cap) (hg:g<B) (h:∀i y:Nat,(x::l)[i]?=some y->w.cell? (af g (off+i))=some (ab y)):
  RwV w B (.slice (if cap=1 then some (af g off)else some (af g (off+1))) n (cap - 1)) l:=by
 subst hl;refine⟨_,_,rfl,by omega,fun h0=>?_⟩;rw[if_neg (by omega)];refine⟨g,off+1,rfl,hg,fun i y hy=>?_⟩;have:=h (i+1) y (by simpa using hy);rw[show off+(i+1)=off+1+i by omega]at this;exact this
def BdV (w:World) (bd tb B:Nat) (rv nv:Value) (row:List Nat) (NS:List NdV):Prop:=
 w.heap[bd]?=some (.cells #[ac tb,rv,nv] 102 (0,0))/\RwV w B rv row/\w.ownsRow B 142 3 nv NS.length (BR NS)
theorem BdV.keeps {w':World}{row:List Nat}{NS:List NdV}{S:List Nat} (h:BdV w bd tb B rv nv row NS) (hk:A1 w w' S) (hB:B<=w.heap.size) (hS:∀q∈S,B<=q) (hw:bd∉S) (hv:∀g,nv.ownBlock=some g->g∉S):BdV w' bd tb B rv nv row NS:=
 ⟨(hk.block bd (lt_of_block h.1) hw).trans h.1,h.2.1.below (hk.below hB hS),A8 h.2.2 hk hv⟩
theorem BdV.ne {row:List Nat}{NS:List NdV} (h:BdV w bd tb B rv nv row NS):nv.ownBlock≠some bd:=A6 h.2.2 h.1 (by decide)
theorem BdV.drew {row:List Nat}{NS:List NdV} (h:BdV w bd tb B rv nv row NS):BdV w.drew bd tb B rv nv row NS:=h
theorem BdV.put {row:List Nat}{NS R:List NdV}{x:NdV} (h:BdV w bd tb B rv (ae g n cap) row (NS++x::R)) (y:NdV) (j:Nat) (hj:j<3) (u:Value)
  (hu:[Value.string y.1,ab y.2.1,ab y.2.2]=[Value.string x.1,ab x.2.1,ab x.2.2].set j u) (hB:B<=w.heap.size):
  BdV (w.setCell (af g (NS.length*3+j)) u) bd tb B rv (ae g n cap) row (NS++y::R)/\Below B w (w.setCell (af g (NS.length*3+j)) u):=by
 have hne:=h.ne;have hgB:B<=g:=(h.2.2.lt g rfl).1;have hk:A1 w (w.setCell (af g (NS.length*3+j)) u) [g]:=(A1.refl w [g]).setCell (by simp) _;have hb:Below B w (w.setCell (af g (NS.length*3+j)) u):=hk.below hB (fun q hq=>by rw[mS.1 hq];exact hgB);refine⟨⟨(hk.block bd (lt_of_block h.1) (fun hm=>hne (by rw[mS.1 hm];rfl))).trans h.1,h.2.1.below hb,?_⟩,hb⟩;have h3:=h.2.2;have e:n=(NS++x::R).length:=by
  obtain⟨_,_,e,_⟩:=DE h3;injection e
 subst e;have h4:=(h3.stored (NS.length*3+j) u).1;rw[eE NS R x y j u hu hj]at h4;have e2:(NS++x::R).length=(NS++y::R).length:=by simp
 rw[e2]at h4 ⊢;exact h4
theorem Tryz.infoB142:(Tryz.prog.info? 142).map (fun i=>(i.zero,i.size,i.bytes))=some (some (.agg #[.string ByteArray.empty,ab 0,ab 0]),3,32):=by kernel_rfl
def wY (T:Tab) (B m:Nat):Prop:=∀(p:Pt) (a rest:List Nat) (S:List IM) (w:World) (bd:Nat) (rv nv:Value) (NS:List NdV),TrL T.rul [p] a S->S.length<=m->J8 T.N p->T.In w->B<=bd->B<=w.heap.size->BdV w bd T.tb B rv nv (a++rest) NS->NS.length+S.length<=1000000->
 Calls Tryz.prog 33 #[ac bd,.agg #[.bool (AQ p),ab (AP p)]] w fun e w'=>e=.returned (.tuple #[])/\∃rv' nv',BdV w' bd T.tb B rv' nv' rest (NS++S.map (N4 T))/\Below B w w'
theorem uR  (hT:T.Ok) (B:Nat) (hB:T.Bd B):∀m,wY T B m:=by
 intro m
 induction m with
 |zero=>
  intro p a rest S w bd rv nv NS h hS;exfalso;cases h <;> simp at hS
 |succ m ih=>
 intro p a rest S w bd rv nv NS h hS hp hI hbd hBw hV hN;obtain⟨iN,hiN,hzN0,hzN1,hzN2⟩:=info_parts Tryz.infoB142;have hbl:bd<w.heap.size:=lt_of_block hV.1;have hwn:∀g,nv.ownBlock=some g->g<w.heap.size/\g≠bd/\B<=g:=fun g hg=>⟨CK hV.2.2 hg,fun e=>hV.ne (by rw[hg,e]),(hV.2.2.lt g hg).1⟩
 have hb1:Below B w (w.alloc (.cells #[.bool (AQ p),ab (AP p)] 105)):=(Below.refl B w).alloc hBw _;have hV1:BdV (w.alloc (.cells #[.bool (AQ p),ab (AP p)] 105)) bd T.tb B rv nv (a++rest) NS:=hV.keeps ((A1.refl w []).alloc _) hBw (by simp) (by simp) (by simp);have hI1:T.In (w.alloc (.cells #[.bool (AQ p),ab (AP p)] 105)):=hI.below hB hb1;obtain⟨bn,hbn⟩:=qE (AQ p);obtain⟨np,hnp⟩:=qE (AP p);have hnv:=hV1.2.2;have hbx:(w.alloc (.cells #[.bool (AQ p),ab (AP p)] 105)).cell? (af w.heap.size 0)=some (.bool (AQ p))/\(w.alloc (.cells #[.bool (AQ p),ab (AP p)] 105)).cell? (af w.heap.size 1)=some (ab (AP p)):=⟨BG w _ _ 0,BG w _ _ 1⟩;have HIa:Hid (∀W,Below B w W->T.In W):=hid fun W hb=>hI.below hB hb
 have HSp:Hid (∀W,Below B w W->Calls Tryz.prog 57 #[.agg #[.slice T.adT T.N.nT T.capT,ae T.gN T.N.nN T.capN],.agg #[.bool bn,ab np]] W fun e w'=>e=.returned (.string (IJ T p))/\Below W.heap.size W w'):=hid fun W hb=>by
  rw[<-hbn,<-hnp];exact kP (hI.below hB hb) p hp
 have HP:Hid (TrL T.rul [p] a S/\S.length<=m+1/\J8 T.N p/\NS.length+S.length<=1000000):=hid ⟨h,hS,hp,hN⟩;have HBN:Hid (AQ p=bn/\AP p=np):=hid ⟨hbn,hnp⟩;rw[hbn,hnp]at hb1 hV1 hI1 hbx hnv ⊢;clear hbn hnp h hS hp hI hV
 go_enter Tryz.func33,Tryz.ntmps33
 obtain⟨w1,hw1⟩:=qE (w.alloc (.cells #[.bool bn,ab np] 105));have hs1:w1.heap.size=w.heap.size+1:=by rw[<-hw1,World.size_alloc]
 have HW1:=hid hw1;rw[hw1]at hb1 hV1 hI1 hbx hnv;clear hw1;have c0:w1.cell? (af bd 0)=some (ac T.tb):=(A0 hV1.1).trans rfl;have c2:w1.cell? (af bd 2)=some nv:=(A0 hV1.1).trans rfl;obtain⟨d0,d1,_⟩:=hI1.tv.heads;obtain⟨b0,b1⟩:=hbx;obtain⟨adn,capn,hnv0,hcapn⟩:=DE hnv;have hbw:bd≠w.heap.size:=by omega
 subst hnv0;obtain⟨k0,hk0⟩:=qE (NS.length);rw[hk0]at hnv c2 hwn hcapn;have hk6:k0<=1000000:=by have:=HP.out.2.2.2;omega
 have HV1:=hid hV1;have HNV:=hid hnv;have HB1:=hid hb1;have HK0:=hid hk0;clear hV1 hI1 hnv hb1 hk0
 go_upto_region 1 with fail
 rw[HW1.out]
 go_upto_region 2 with fail
 have ogB:some bd≠(Value.slice adn k0 capn).ownBlock:=fun e=>(hwn bd e.symm).2.1 rfl
 have ogT:some T.tb≠(Value.slice adn k0 capn).ownBlock:=fun e=>by have h1:=(hwn _ e.symm).2.2;have h2:=hB.tb;omega
 have ogP:some w.heap.size≠(Value.slice adn k0 capn).ownBlock:=fun e=>by have h1:=(hwn _ e.symm).1;omega
 have hlb:bd<w1.heap.size:=by omega
 have hlp:w.heap.size<w1.heap.size:=by omega
 have hlt:T.tb<w1.heap.size:=by have:=hB.tb;omega
 refine AE (fun w'=>w'.cell? (af bd 0)=some (ac T.tb)/\w'.cell? (af bd 2)=some (.slice adn k0 capn)/\w'.cell? (af T.tb 0)=some (.slice T.adT T.N.nT T.capT)/\w'.cell? (af T.tb 1)=some (ae T.gN T.N.nN T.capN)/\w'.cell? (af w.heap.size 0)=some (.bool bn)/\w'.cell? (af w.heap.size 1)=some (ab np)) hmx y1Z ⟨c0,c2,d0,d1,b0,b1⟩ (fun hH=>?_);simp only[AC,BM,AO];refine tB 0 hH ?_;refine tB 1 hH ?_;refine tB 2 hH ?_;refine tB 3 hH ?_;refine tB 4 hH ?_;refine tB 5 hH ?_;refine tB 6 hH ?_;refine tB 7 hH ?_;refine tB 8 hH ?_;refine tB 9 hH ?_;refine tB 10 hH ?_;refine tB 11 hH ?_;refine tB 12 hH ?_;refine tB 13 hH ?_;refine tL ?_;refine tS 14 fun K hK=>?_
 refine tM ?_;rw[if_pos (by rfl)];go_simp;refine(HSp.out _ (HB1.out.drew)).mono ?_;rintro e w6 ⟨rfl,hb6⟩;refine hK.out _ _ ?_ fun hH=>?_
 ·exact⟨(hb6.cell (by exact hlb)).trans hH.1,(hb6.cell (by exact hlb)).trans hH.2.1,(hb6.cell (by exact hlt)).trans hH.2.2.1,(hb6.cell (by exact hlt)).trans hH.2.2.2.1,(hb6.cell (by exact hlp)).trans hH.2.2.2.2.1,(hb6.cell (by exact hlp)).trans hH.2.2.2.2.2⟩
 clear hK K;refine tL ?_;have hs6:w1.heap.size<=w6.heap.size:=hb6.size;have HN6:Hid (w6.ownsRow B 142 3 (.slice adn k0 capn) k0 (BR NS)):=hid (A8 HNV.out (A1.of_below ((Below.refl _ w1).drew.trans hb6) []) (by simp));have HB6:Hid (Below w1.heap.size w1 w6):=hid ((Below.refl _ w1).drew.trans hb6);refine tB 15 hH ?_;refine tL ?_;refine tS 16 fun K hK=>?_
 refine tM ?_;go_simp;refine hK.out _ _ ?_ fun hH=>?_
 ·exact⟨A2 _ hH.1,A2 _ hH.2.1,A2 _ hH.2.2.1,A2 _ hH.2.2.2.1,A2 _ hH.2.2.2.2.1,A2 _ hH.2.2.2.2.2⟩
 clear hK K;refine tL ?_;refine tS 17 fun K hK=>?_
 refine tM ?_;rw[if_pos (by rfl)];refine wp_append_lies _ (.tmp 18) (.tmp 30) 33 rfl B 142 iN (.agg #[.string ByteArray.empty,ab 0,ab 0]) 3 32 Tryz.underlying33 hiN hzN0 hzN1 hzN2 rfl (by decide) (.slice adn k0 capn) _ _ rfl (HN6.out.alloc _) (af w6.heap.size 0) 1 1 [.string (IJ T p),ab (-1),ab 0] rfl rfl (World.news_of_block (fr:=(0,0)) (heap_alloc_new w6 _)) y4Z (by omega) y3Z (by omega) y2Z _ rfl ?_;intro g2 cap2 w7 hown hgrow hat hlt2;refine hK.out _ _ ?_ fun hH=>?_
 ·exact⟨(hgrow.cell_far _ y2Z (by exact ogB)).trans hH.1,(hgrow.cell_far _ y2Z (by exact ogB)).trans hH.2.1,(hgrow.cell_far _ y2Z y35Z).trans hH.2.2.1,(hgrow.cell_far _ y2Z y35Z).trans hH.2.2.2.1,(hgrow.cell_far _ y2Z (by exact ogP)).trans hH.2.2.2.2.1,(hgrow.cell_far _ y2Z (by exact ogP)).trans hH.2.2.2.2.2⟩
 clear hK K;refine tL ?_;refine tB 18 hH ?_;refine tB 19 hH ?_;refine tB 20 hH ?_;refine tL ?_;refine wpAnyH_done y1Z ?_ _;clear hH;have hV6:BdV w6 bd T.tb B rv (.slice adn NS.length capn) (a++rest) NS:=HV1.out.keeps (A1.of_below HB6.out []) (by omega) (by simp) (by simp) (by simp);rw[HK0.out]at hV6;obtain⟨z1,z2,z3,z4⟩:=G9 (j:=2) (W:=w6) ((A1.refl w6 []).alloc _) hV6.1 (by decide) HN6.out hown hgrow;have zc:=(A0 (j:=2) z1).trans rfl;have zf:=A3 (j:=2) z1;have zS:∀q∈bd::(Value.slice adn k0 capn).ownBlock.toList,B<=q/\q<w6.heap.size/\q≠w.heap.size:=fun q hq=>by
  rcases List.mem_cons.1 hq with e |e
  ·omega
  ·have h1:=hwn q y7Z;exact⟨h1.2.2,by omega,by omega⟩
 have hbB:B<=w6.heap.size:=by omega
 have hB8:Below B w (w7.setCell (af bd 2) (ae g2 (k0+1) cap2)):=(HB1.out.trans (HB6.out.mono (by omega))).trans (z4.below hbB (fun q hq=>(zS q hq).1));have hV8:BdV (w7.setCell (af bd 2) (ae g2 (k0+1) cap2)) bd T.tb B rv (ae g2 (k0+1) cap2) (a++rest) (NS++ [(IJ T p,-1,0)]):=⟨z2,hV6.2.1.below (z4.below hbB (fun q hq=>(zS q hq).1)),by
  rw[IC,NV,lA,HK0.out];exact z3⟩
 have hx8:(w7.setCell (af bd 2) (ae g2 (k0+1) cap2)).cell? (af w.heap.size 0)=some (.bool bn)/\(w7.setCell (af bd 2) (ae g2 (k0+1) cap2)).cell? (af w.heap.size 1)=some (ab np):=
  ⟨(z4.cell (by show w.heap.size<w6.heap.size;omega) (fun hm=>(zS _ hm).2.2 rfl)).trans ((HB6.out.cell (by exact hlp)).trans b0),(z4.cell (by show w.heap.size<w6.heap.size;omega) (fun hm=>(zS _ hm).2.2 rfl)).trans ((HB6.out.cell (by exact hlp)).trans b1)⟩
 have H8:=hid (And.intro hB8 (And.intro hV8 hx8));clear z1 z2 z3 z4 zS hB8 hV8 hx8 hV6 hown hgrow hat hlt2 hH ogB ogT ogP c0 c2 d0 d1 b0 b1;show wpList _ _ _ _ _ _
 go_upto_region 3 with fail
 obtain⟨W8,hW8⟩:=qE (w7.setCell (af bd 2) (ae g2 (k0+1) cap2));rw[hW8]at H8 ⊢;clear hW8 zc zf HN6 HB6;cases p with
 |tok t=>
  obtain⟨rfl,rfl⟩:false=bn/\t=np:=HBN.out;obtain⟨rfl,rfl⟩:=HP.out.1.tok_inv;obtain⟨q1,q2,q3⟩:=H8.out.2.1;obtain⟨adr,capr,rfl,hcr,hrr⟩:=q2;obtain⟨gr,offr,rfl,hgr,hrc⟩:=hrr (by simp);have hx0:=H8.out.2.2.1;have m1:W8.cell? (af bd 1)=some (.slice (some (af gr offr)) ([t]++rest).length capr):=(A0 q1).trans rfl;have mf:=A3 (j:=1) q1;obtain⟨lr,hlr⟩:=qE (rest.length);rw[show([t]++rest).length=lr+1 by simp;omega]at m1 hcr;clear hrr
  go_upto_region 12 with fail
  have hAD:=RwV.tail (w:=W8) (B:=B) (n:=lr) (cap:=capr) hlr hcr hgr hrc;obtain⟨AD,hADe⟩:=qE ((if capr=1 then some ((af gr offr):Addr)else some (af gr (offr+1))));rw[hADe]at hAD ⊢;clear hADe;have hk9:A1 W8 (W8.setCell (af bd 1) (.slice AD lr (capr - 1))) [bd]:=(A1.refl _ [bd]).setCell (by simp) _;have hl8:B<=W8.heap.size:=lT_ hBw H8.out.1.size;have hbk9:=hk9.below hl8 (fun q hq=>by rw[mS.1 hq];exact hbd);have hV9:BdV (W8.setCell (af bd 1) (.slice AD lr (capr - 1))) bd T.tb B (.slice AD lr (capr - 1)) (ae g2 (k0+1) cap2) rest (NS++ [(IJ T (.tok t),-1,0)]):=
   ⟨A5 q1 _,hAD.below hbk9,A8 q3 hk9 (fun g hg hm=>by
    have hm:=mS.1 hm;subst hm;exact H8.out.2.1.ne hg)⟩
  have HBk9:=hid (H8.out.1.trans hbk9);obtain⟨W9,hW9⟩:=qE (W8.setCell (af bd 1) (.slice AD lr (capr - 1)));rw[hW9]at hV9 HBk9 ⊢;have e9:W9.cell? (af bd 2)=some (ae g2 (k0+1) cap2):=(A0 hV9.1).trans rfl;have hrow9:W9.ownsRow B 142 3 (ae g2 (k0+1) cap2) (k0+1) (BR (NS++ [(IJ T (.tok t),-1,0)])):=by
   have h9:=hV9.2.2;rw[lA,HK0.out]at h9;exact h9
  have f9:W9.cell? (af g2 (k0*3+2))=some (ab (0:Nat)):=by
   rw[hrow9.cellAt (k0*3+2) (by omega)];have:=(PV NS [] (IJ T (.tok t),-1,0)).2.2;rw[HK0.out]at this;exact this
  have u9:=hrow9.frozenAt (k0*3+2);have hc2:k0+1<=cap2:=by
   obtain⟨_,_,e1,e2⟩:=DE hrow9;injection e1 with _ _ e3
   omega
  have HRow9:=hid hrow9;clear hrow9;have HV9:=hid hV9;clear hV9 hW9 hk9 hbk9 hAD q1 q3 m1 mf hrc hx0 H8;have hklt:((k0:Int)< (k0:Int)+1):=by omega
  refine AE (fun w'=>w'.cell? (af bd 2)=some (ae g2 (k0+1) cap2)) hmx y1Z e9 (fun hH=>?_);simp only[AC,BM,AO];refine tB 0 hH ?_;refine tB 1 hH ?_;refine tB 2 hH ?_;refine tB 3 hH ?_;refine tB 4 hH ?_;refine tB 5 hH ?_;refine tB 6 hH ?_;refine tB 7 hH ?_;refine tB 8 hH ?_;refine tB 9 hH ?_;refine tB 10 hH ?_;refine tB 11 hH ?_;refine tB 12 hH ?_;refine tB 13 hH ?_;refine tB 14 hH ?_;refine tL ?_;refine wpAnyH_done y1Z ?_ _;clear hH;show wpList _ _ _ _ _ _;go_wp2;rw[show((k0:Int)+1 - (k0:Int))=((1:Nat):Int) by omega];obtain⟨y1,y2⟩:=HV9.out.put (IJ T (.tok t),-1,1) 2 (by omega) (ab (1:Nat)) rfl (by have:=HBk9.out.size;omega);rw[HK0.out]at y1 y2;exact⟨rfl,_,results_none rfl _ _ _,rfl,_,_,y1.drew,(HBk9.out.trans y2).drew⟩
 |nam n=>
  obtain⟨rfl,rfl⟩:true=bn/\n=np:=HBN.out;obtain⟨k,rest0,a',S1,hrul,ha,htr,hSe⟩:=HP.out.1.nam_inv hT.led;obtain⟨hnN,hkT,nm,hnm,hRk,hrhs⟩:=hT.rl n k _ hrul;obtain⟨hl8,hps8⟩:=hT.len n k _ hrul;obtain⟨rhs,hrhe⟩:=qF (Pt.tok k::rest0);rw[<-hrhe]at htr hrhs hl8 hps8;have hT20:T.N.nT<=20:=(HIa.out w (Below.refl _ _)).fc.gr.leT;have HCR:Hid (∀W,Below B w W->Calls Tryz.prog 58 #[ac T.tb,ab n,ab k] W fun e w'=>∃v,e=.returned (.tuple #[v,ab k])/\C0 W T.n0 v rhs/\W=w'):=hid fun W hb=>
   cY (HIa.out W hb).fc.gr (HIa.out W hb).tv n k k (by omega) nm rhs hnm hnN hRk hrhs
  obtain⟨q1,q2,q3⟩:=H8.out.2.1;obtain⟨adr,capr,rfl,hcr,hrr⟩:=q2;subst ha;obtain⟨gr,offr,rfl,hgr,hrc⟩:=hrr (by simp);have c0:W8.cell? (af bd 0)=some (ac T.tb):=(A0 q1).trans rfl;have c1:W8.cell? (af bd 1)=some (.slice (some (af gr offr)) (k::a'++rest).length capr):=(A0 q1).trans rfl;have c2:W8.cell? (af bd 2)=some (ae g2 (k0+1) cap2):=(A0 q1).trans rfl;have cr:=hrc 0 k (by simp);rw[Nat.add_zero]at cr;obtain⟨lr,hlr⟩:=qE ((k::a'++rest).length);have hlr0:0<lr:=by rw[<-hlr];simp
  rw[hlr]at c1 hcr;have hx0:=H8.out.2.2.1;have hx1:=H8.out.2.2.2;have H9:=hid (And.intro htr (And.intro hSe (And.intro hl8 (And.intro hps8 hlr))));clear hrul htr hnm hRk hrhs hl8 hps8 hrhe hrr hrc q1 q3 hSe hlr hkT
  go_upto_region 4 with fail
  refine wp_region_held_drew (S:=fun w'=>w'.cell? (af bd 0)=some (ac T.tb)/\w'.cell? (af bd 1)=some (.slice (some (af gr offr)) lr capr)/\w'.cell? (af gr offr)=some (ab k)/\w'.cell? (af w.heap.size 1)=some (ab n)) y1Z ⟨c0,c1,cr,hx1⟩ (fun hH=>?_);refine tB 0 hH ?_;refine tB 1 hH ?_;refine tB 2 hH ?_;refine tB 3 hH ?_;refine tB 4 hH ?_;refine tB 5 hH ?_;refine tB 6 hH ?_;refine tB 7 hH ?_;refine tB 8 hH ?_;refine tB 9 hH ?_;refine tB 10 hH ?_;refine tB 11 hH ?_;refine tL ?_;refine tS 12 fun K hK=>?_
  refine tM ?_
  go_simp;refine(HCR.out _ (H8.out.1.drew)).mono ?_;rintro e w9 ⟨pv,rfl,hpv,rfl⟩;try dsimp only
  refine hK.out _ _ ?_ fun hH=>?_
  ·exact hH
  clear hK K;refine tB 13 hH ?_;refine tB 14 hH ?_;refine tB 15 hH ?_;refine tB 16 hH ?_;refine tB 17 hH ?_;refine tL ?_;refine wpAnyH_done y1Z ?_ _;clear hH;have hrow8:W8.ownsRow B 142 3 (ae g2 (k0+1) cap2) (k0+1) (BR (NS++ [(IJ T (.nam n),-1,0)])):=by
   have h9:=H8.out.2.1.2.2;rw[lA,HK0.out]at h9;exact h9
  have f8:W8.cell? (af g2 (k0*3+1))=some (ab (-1)):=by
   rw[hrow8.cellAt (k0*3+1) (by omega)];have:=(PV NS [] (IJ T (.nam n),-1,0)).2.1;rw[HK0.out]at this;exact this
  have u8:=hrow8.frozenAt (k0*3+1);have hklt:((k0:Int)< (k0:Int)+1):=by omega
  have HPV:Hid (C0 W8 T.n0 pv rhs):=hid hpv;obtain⟨adp,capp,rfl,hcp,hpp⟩:=hpv;clear hrow8
  go_upto_region 6 with fail
  obtain⟨y1,y2⟩:=H8.out.2.1.put (IJ T (.nam n),k,0) 1 (by omega) (ab k) rfl (by have:=H8.out.1.size;omega);rw[HK0.out]at y1 y2;have HY1:=hid y1.drew;have HB10:=hid ((H8.out.1.trans y2).drew);have HPV10:=hid (HPV.out.below (y2.mono hB.n0).drew);clear y1 y2 f8 u8 c0 c1 c2 cr hx0 hx1 hklt;obtain⟨W10,hW10⟩:=qE ((W8.setCell (af g2 (k0*3+1)) (ab k)).drew);rw[hW10]at HY1 HB10 HPV10 ⊢;clear hW10;obtain⟨nr,hnr⟩:=qF (rhs.length);rw[<-hnr]at hcp hpp ⊢;have hnr8:nr<=8:=by rw[hnr];exact H9.out.2.2.1
  have HNR:=hid hnr;clear hpp hnr HPV;go_wp2
  go_loopw [62] (fun q wr=>∃(j:Nat) (aj:List Nat) (Sj D:List IM) (rvj nvj:Value),j<=nr/\q=ab j/\Hid (TrL T.rul (rhs.drop j) aj Sj)/\Hid (S1=D++Sj)/\Hid (BdV wr bd T.tb B rvj nvj (aj++rest) (NS++(IJ T (.nam n),(k:Int),0)::D.map (N4 T)))/\Hid (Below B W10 wr)) (fun q _=>nr - (intOf q).toNat)
  case atStart=>exact⟨0,k::a',S1,[],_,_,Nat.zero_le _,rfl,hid H9.out.1,hid rfl,hid HY1.out,hid (Below.refl _ _)⟩
  case round=>
   obtain⟨j,aj,Sj,D,rvj,nvj,hj,rfl,htj,hSj,hVj,hbj⟩:=hrel
   by_cases hlt:j<nr
   ·obtain⟨p1,hp1⟩:∃p1,rhs[j]?=some p1:=⟨_,gE (by rw[<-HNR.out];exact hlt)⟩
    have hdr:rhs.drop j=p1::rhs.drop (j+1):=by
     obtain⟨h1,h2⟩:=gS_.1 hp1;rw[List.drop_eq_getElem_cons h1,h2]
    have htj1:=htj.out;rw[hdr]at htj1;obtain⟨a1,a2,S2,S3,ea,eS,ht1,ht2⟩:=htj1.cons;have hpo:J8 T.N p1:=H9.out.2.2.2.1.at hp1;obtain⟨ad3,cap3,e3,hc3,hp3⟩:=HPV10.out.below (hbj.out.mono hB.n0);rw[<-HNR.out]at hp3;obtain⟨gp,op,e4,hgp,hpc⟩:=hp3 (by omega);obtain⟨rfl,rfl⟩:adp=ad3/\capp=cap3:=by simpa using e3
    clear e3;subst e4;obtain⟨u0,u1⟩:=hpc j p1 hp1;have hBr:B<=wr.heap.size:=by have h1:=HB10.out.size;have h2:=hbj.out.size;omega
    have hka:A1 wr (wr.alloc (.cells #[.bool (AQ p1),ab (AP p1)] 105)) []:=(A1.refl wr []).alloc _;have hVa:=hVj.out.keeps hka hBr (by simp) (by simp) (by simp);rw[ea,aA]at hVa;have hlS:S1.length+1<=m+1/\NS.length+(S1.length+1)<=1000000:=by
     have h1:=HP.out.2.1;have h2:=HP.out.2.2.2;rw[H9.out.2.1,lC]at h1 h2;exact⟨h1,h2⟩
    have hlD:S1.length=D.length+(S2.length+S3.length):=by rw[hSj.out,eS];simp
    have hba:Below B wr (wr.alloc (.cells #[.bool (AQ p1),ab (AP p1)] 105)):=(Below.refl B wr).alloc hBr _;have HC:=hid (ih p1 a1 (a2++rest) S2 _ bd _ _ _ ht1 (by omega) hpo (HIa.out _ ((HB10.out.trans hbj.out).trans hba)) hbd y5Z hVa y2Z);have HX:=hid (And.intro ht2 (And.intro eS (hbj.out.trans hba)));obtain⟨b1,hb1⟩:=qE (AQ p1);obtain⟨m1,hm1⟩:=qE (AP p1);rw[hb1]at u0 HC HX;rw[hm1]at u1 HC HX;clear hdr htj1 ht1 ht2 hVa hka hba hp3 hpc hb1 hm1 hc3 ea eS hpo
    go_wp2_with (go_at_call 33;refine HC.out.mono ?_;rintro e w5 ⟨rfl,rv5,nv5,hV5,hb5⟩;have H5:=hid (And.intro hV5 hb5);clear hV5 hb5)
    go_roundw
    case rel=>exact⟨j+1,a2,S3,D++S2,rv5,nv5,by omega,by go_num,hid HX.out.1,hid (by rw[hSj.out,HX.out.2.1,aA]),hid (by
     have h1:=H5.out.1;rw[List.map_append,<-List.cons_append,<-aA];exact h1),hid (HX.out.2.2.trans H5.out.2)⟩
    case measure=>simp[intOf];omega
   ·have hnj:nr<=j:=by omega
    have htj0:=htj.out;rw[List.drop_of_length_le (by rw[<-HNR.out];exact hnj)]at htj0;obtain⟨rfl,rfl⟩:=htj0.nil_inv;have hDS:D=S1:=by have:=hSj.out;simpa using this.symm
    subst hDS;have hV:=hVj.out;rw[List.nil_append]at hV;obtain⟨g9,cap9,rfl,hg9B,hg9l,hc9⟩:=AX hV.2.2 y2Z;obtain⟨n9,hn9⟩:=qE ((NS++(IJ T (.nam n),(k:Int),0)::D.map (N4 T)).length);have hn9':n9=k0+1+D.length:=by rw[<-hn9,<-HK0.out];simp;omega
    have hrow9:=hV.2.2;rw[hn9]at hrow9 hV hc9;have e9:wr.cell? (af bd 2)=some (ae g9 n9 cap9):=(A0 hV.1).trans rfl;have f9:wr.cell? (af g9 (k0*3+2))=some (ab (0:Nat)):=by
     rw[hrow9.cellAt (k0*3+2) (by omega)];have:=(PV NS (D.map (N4 T)) (IJ T (.nam n),(k:Int),0)).2.2;rw[HK0.out]at this;exact this
    have u9:=hrow9.frozenAt (k0*3+2);have hD6:D.length<=1000000:=by
     have h1:=HP.out.2.2.2;rw[H9.out.2.1,lC]at h1;omega
    have HV9:=hid hV;have hklt:((k0:Int)< (n9:Int)):=by omega
    have HN9:=hid hn9';have hn9b:n9<=2000001:=by omega
    have HNj:=hid hnj;clear hVj hV hrow9 hn9 hn9' htj htj0 hSj
    go_upto_region 12 with fail
    refine AE (fun w'=>w'.cell? (af bd 2)=some (ae g9 n9 cap9)) hmx y1Z e9 (fun hH=>?_);simp only[AC,BM,AO];refine tB 0 hH ?_;refine tB 1 hH ?_;refine tB 2 hH ?_;refine tB 3 hH ?_;refine tB 4 hH ?_;refine tB 5 hH ?_;refine tB 6 hH ?_;refine tB 7 hH ?_;refine tB 8 hH ?_;refine tB 9 hH ?_;refine tB 10 hH ?_;refine tB 11 hH ?_;refine tB 12 hH ?_;refine tB 13 hH ?_;refine tB 14 hH ?_;refine tL ?_;refine wpAnyH_done y1Z ?_ _;clear hH;show wpList _ _ _ _ _ _;go_wp2;rw[show((n9:Int) - (k0:Int))=((D.length+1:Nat):Int) by have:=HN9.out;omega];obtain⟨y1,y2⟩:=HV9.out.put (IJ T (.nam n),(k:Int),D.length+1) 2 (by omega) (ab (D.length+1:Nat)) rfl (by have h1:=HB10.out.size;have h2:=hbj.out.size;omega);rw[HK0.out]at y1 y2;refine⟨rfl,_,results_none rfl _ _ _,rfl,rvj,ae g9 n9 cap9,by
     rw[H9.out.2.1,List.map_cons];exact y1.drew,((HB10.out.trans hbj.out).trans y2).drew⟩
section
theorem Tryz.infoX3:(Tryz.prog.info? 3).map (fun i=>(i.zero,i.size,i.bytes))=some (some (ab 0),1,8):=by kernel_rfl
def D9 (l:List Nat):List Value:=l.map fun(x:Nat)=>ab (x:Int)
theorem SR (l:List Nat):(D9 l).length=l.length:=by unfold D9;simp
theorem ME  (h:l[i]?=some x):(D9 l)[i]?=some (ab x):=by unfold D9;rw[gM,h];rfl
theorem GI (a b:List Nat):D9 (a++b)=D9 a++D9 b:=by unfold D9;rw[List.map_append]
def vC (w:World) (B:Nat) (v:Value) (l:List Nat):Prop:=RwV w B v l/\(l=[]->v=.slice none 0 0)
def D8 (w:World) (B:Nat) (v:Value) (l:List Nat):Prop:=w.ownsRow B 3 1 v l.length (D9 l)
theorem D8.row  (h:D8 w B v l) {B':Nat} (hB:∀g,v.ownBlock=some g->g<B'):RwV w B' v l:=by
 obtain⟨ad,cap,e,hc⟩:=DE h;refine⟨ad,cap,e,hc,fun h0=>?_⟩;obtain⟨g,cap',e2,hg1,hg2,hg3⟩:=AX h h0;rw[e]at e2;injection e2 with e3 _ e4
 subst e3;subst e;refine⟨g,0,rfl,hB g rfl,fun i x hx=>?_⟩;have hi:=(gS_.1 hx).1;have h1:=World.ownsRow.cellAt h i (by omega);rw[Nat.zero_add];exact h1.trans (ME hx)
theorem D8.at  (h:D8 w B (ae g n cap) l)  (hx:l[i]?=some x):w.cell? (af g i)=some (ab x):=by
 obtain⟨ad,cap',e,hc⟩:=DE h;have e2:n=l.length:=by injection e
 subst e2;exact(World.ownsRow.cellAt h i (by have:=(gS_.1 hx).1;omega)).trans (ME hx)
theorem gQ (w:World) (B:Nat) (hBw:B<=w.heap.size) (v:Value) (l:List Nat) (h:vC w B v l) (hl:l.length<=100000):
  Calls Tryz.prog 30 #[v] w fun e w'=>∃v',e=.returned v'/\D8 w' w.heap.size v' l/\Below w.heap.size w w':=by
 obtain⟨i0,hi,hz0,hz1,hz2⟩:=info_parts Tryz.infoX3;have qT:∀(w:World) (a:Option Addr) (n c n' c':Nat),(binOp .eql 22 (.slice a n c) (.slice none n' c')).run Tryz.prog w=.ok (.bool a.isNone) w:=fun w a n c n' c'=>Lib.run_eql_slice_nil w _ _ a n c n' c' Tryz.underlying22
 by_cases h0:l=[]
 ·obtain rfl:=h.2 h0
  subst h0;clear h
  go_enter Tryz.func30,Tryz.ntmps30
  go_wp2;go_ret;exact⟨.slice none 0 0,rfl,World.ownsRow_nil _ _ _ _,Below.refl _ _⟩
 ·have hp:0<l.length:=List.length_pos_iff.2 h0
  obtain⟨⟨ad,cap,rfl,hc,hg⟩,_⟩:=h;obtain⟨g,off,rfl,hgB,hcs⟩:=hg hp;have hown0:(w.alloc (.cells #[] 3)).ownsRow w.heap.size 3 1 (ae w.heap.size 0 0) 0 []:=World.ownsRow_made w #[] 0 (lR_ _) y3Z rfl;have hnews:∀(j:Nat) (u:Value),(D9 l)[j]?=some u->(w.alloc (.cells #[] 3)).cell? (((af g off):Addr).add j)=some u:=fun j u hu=>by
   have hj:=(gS_.1 hu).1;rw[SR]at hj;have h1:=ME (gE hj);rw[hu]at h1;injection h1 with h1
   subst h1;have h2:((af g off):Addr).add j=(af g (off+j)):=by simp[Addr.add]
   rw[h2];exact(((Below.refl w.heap.size w).alloc (lR_ _) _).cell y6Z).trans (hcs j _ (gE hj))
  have HNews:=hid hnews;have HOwn0:=hid hown0;obtain⟨n,hn⟩:=qF (l.length);rw[<-hn]at hc hp hl ⊢;have HN:Hid (n=l.length):=hid hn;clear hnews hown0 hcs hg hn h0
  go_enter Tryz.func30,Tryz.ntmps30
  go_wp2_with (first
   | (at_builtin;refine wpList_append_own _ rfl _ _ 22 rfl w.heap.size 3 i0 (.int .i64 0) 1 8 Tryz.underlying22 hi hz0 hz1 hz2 rfl (by decide) _ _ _ rfl HOwn0.out ⟨g,off,none⟩ n cap (D9 l) rfl (by rw[SR,Nat.mul_one];exact HN.out.symm) HNews.out (fun u hu=>by unfold D9 at hu;obtain⟨x,_,rfl⟩:=List.mem_map.1 hu;rfl) y3Z (by omega) (by simp) ?_;intro v' w1 hown' hgrow _))
  rw[Nat.zero_add]at hown';have HB:Hid (Below w.heap.size w w1):=hid (((Below.refl w.heap.size w).alloc (lR_ _) _).grown hgrow (by simp) (fun q hq=>(HOwn0.out.lt q hq).1));rw[HN.out]at hown';have HO:Hid (D8 w1 w.heap.size v' l):=hid hown';clear hown' hgrow;go_ret;exact⟨_,rfl,HO.out,HB.out⟩
section
variable {T:Tab} (hT:T.Ok)
include hT
theorem aZ  (ht:t<T.N.nT) (hL:AY T.N L) (hx:x<=939000000):
  (BB T.rul L t=none/\(CJ T.rul T.N.nT t L x).1=false)\/∃s,BB T.rul L t=some s/\(CJ T.rul T.N.nT t L x).1=true/\(CJ T.rul T.N.nT t L x).2.1=s/\(CJ T.rul T.N.nT t L x).2.2<=x+2/\s.length<=L.length+7/\AY T.N s:=by
 match L with
 | []=>exact .inl ⟨rfl,by simp[CJ];omega⟩
 | .tok u::s=>
  by_cases e:u=t
  ·subst e
   exact .inr ⟨s,by simp[BB],by simp[CJ],rfl,by simp only[CJ,DJ];omega,by simp;omega,hL.tail⟩
  ·exact .inl ⟨by simp[BB,e],by simp[CJ,e]⟩
 | .nam n::s=>
  cases h:T.rul n t with
  |none=>exact .inl ⟨by simp[BB,h],by simp[CJ,h]⟩
  |some rhs=>
   have h1:=hT.len n t rhs h;have h3:AY T.N rhs.tail:=by
    cases rhs with
    |nil=>exact h1.2
    |cons p ps=>exact h1.2.tail
   refine .inr ⟨rhs.tail++s,by simp[BB,h],by simp[CJ,h],by simp[CJ,h],?_,?_,h3.append hL.tail⟩
   ·simp only[CJ,h,DJ];omega
   ·have:=h1.1;simp;omega
theorem oC  (hL:AY T.N L):(L=[]/\CJ T.rul T.N.nT T.N.nT L x=(true,[],x))\/(L≠ []/\(CJ T.rul T.N.nT T.N.nT L x).1=false):=by
 match L with
 | []=>exact .inl ⟨rfl,by simp[CJ]⟩
 | .tok u::s=>
  have h1:u<T.N.nT:=hL.2 u (List.mem_cons_self ..);exact .inr ⟨by simp,by simp[CJ];omega⟩
 | .nam n::s=>
  cases h:T.rul n T.N.nT with
  |none=>exact .inr ⟨by simp,by simp[CJ,h]⟩
  |some rhs=>have:=(hT.rl _ _ _ h).2.1;omega
end
def KU (T:Tab) (l:List Nat) (i:Nat):Prop:=∃L,BF T.rul [.nam 0] (l.take i)=some L/\((i<l.length/\BF T.rul [.nam 0] (l.take (i+1))=none)\/(i=l.length/\L≠ []))
theorem oB {L0:List Pt} (h:BF rul L0 (l.take i)=some L) (ht:l[i]?=some t):BF rul L0 (l.take (i+1))=BB rul L t:=by
 obtain⟨hi,e⟩:=gS_.1 ht;rw[List.take_succ_eq_append_getElem hi,e,FR,h];show(BB rul L t).bind _=_;cases BB rul L t <;> rfl
def ZI (T:Tab) (l:List Nat) (i:Nat) (L:List Pt):Prop:=(i<=l.length/\BF T.rul [.nam 0] (l.take i)=some L)\/(i=l.length+1/\L=[]/\BF T.rul [.nam 0] l=some [])
theorem oP  (hT:T.Ok)  (hl:∀y∈l,y<T.N.nT) (hp:ZI T l i L) (hi:i<l.length+1) (hL:AY T.N L) (hx:x<=939000000) (ht:(l++ [T.N.nT])[i]?=some t):
  ((CJ T.rul T.N.nT t L x).1=false/\KU T l i)\/((CJ T.rul T.N.nT t L x).1=true/\ZI T l (i+1) (CJ T.rul T.N.nT t L x).2.1/\(CJ T.rul T.N.nT t L x).2.2<=x+2/\(CJ T.rul T.N.nT t L x).2.1.length<=L.length+7/\AY T.N (CJ T.rul T.N.nT t L x).2.1):=by
 rcases hp with⟨_,hp⟩ | ⟨h,_⟩
 ·rcases Nat.lt_or_ge i l.length with h |h
  ·rw[aL h]at ht
   have htl:=hl t (mG ht);have h2:=oB hp ht
   rcases aZ hT htl hL hx with⟨h3,h4⟩ | ⟨s,h3,h4,h5,h6,h7,h8⟩
   ·exact .inl ⟨h4,L,hp,.inl ⟨h,h2.trans h3⟩⟩
   ·exact .inr ⟨h4,by rw[h5];exact .inl ⟨h,h2.trans h3⟩,h6,by rw[h5];exact h7,by rw[h5];exact h8⟩
  ·obtain rfl:i=l.length:=by omega
   have e:t=T.N.nT:=by
    rw[aR_ (lR_ _),Nat.sub_self]at ht;simpa using ht.symm
   subst e;rw[List.take_length]at hp
   rcases oC hT hL (x:=x)with⟨h3,h4⟩ | ⟨h3,h4⟩
   ·subst h3
    rw[h4];exact .inr ⟨rfl,.inr ⟨rfl,rfl,hp⟩,by simp,by simp,hL⟩
   ·exact .inl ⟨h4,L,by rw[List.take_length];exact hp,.inr ⟨rfl,h3⟩⟩
 ·omega
def U5:List Pt->Nat
 | .tok _::_=>1
 |_=>0
theorem TrL.small  (hl:Led rul) {ps:List Pt}{b:List Nat} (h:TrL rul ps b S):S.length+U5 ps<=2*b.length:=by
 induction h with
 |nil=>simp[U5]
 |tok _ ih=>simp only[U5,lC];omega
 | @nam n k rhs ps a b S U hk h1 h2 ih1 ih2=>
  obtain⟨rest,e⟩:=hl _ _ _ hk;subst e;simp only[U5,lC,lA]at ih1 ⊢;omega
end
end Go.Proofs.YtjjggdcnpndgjabGreatDoor
